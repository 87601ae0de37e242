// Package disk: files in memory that a crash can tear, on a disk that can break.
package disk

import (
	"maps"
	"slices"
	"strings"

	"routelog/api"
)

// never stands for the calls that are left until a disk breaks, where it doesn't.
const never = -1

type file struct {
	content []byte
	synced  int // how many of the first bytes outlast a crash
}

// Disk is files, by their names.
type Disk struct {
	room  int
	files map[string]file
	left  int // calls until the disk is broken
}

// New answers an empty disk (P7).
func New(capacity int) *Disk {
	return &Disk{room: max(capacity, 0), files: map[string]file{}, left: never}
}

// Append writes at the end of a file (P7).
func (d *Disk) Append(name, b string) api.Errno {
	return d.change(func() api.Errno {
		if len(b) > d.room-d.used() {
			return api.ErrSpace
		}
		f := d.files[name]
		f.content = append(f.content, b...)
		d.put(name, f)
		return api.OK
	}, name)
}

// Sync makes a file outlast a crash (P7).
func (d *Disk) Sync(name string) api.Errno {
	return d.changeFile(func(f file) api.Errno {
		f.synced = len(f.content)
		d.put(name, f)
		return api.OK
	}, name)
}

// Rename gives a file another name (P7).
func (d *Disk) Rename(from, to string) api.Errno {
	return d.changeFile(func(f file) api.Errno {
		// In this order a file also keeps a name that it has.
		delete(d.files, from)
		d.put(to, f)
		return api.OK
	}, from, to)
}

// Delete removes a file (P7).
func (d *Disk) Delete(name string) api.Errno {
	return d.changeFile(func(file) api.Errno {
		delete(d.files, name)
		return api.OK
	}, name)
}

// Truncate leaves the first n bytes of a file (P7).
func (d *Disk) Truncate(name string, n int) api.Errno {
	return d.changeFile(func(f file) api.Errno {
		if n < 0 || n > len(f.content) {
			return api.ErrArg
		}
		d.put(name, file{content: f.content[:n], synced: min(f.synced, n)})
		return api.OK
	}, name)
}

// Read answers what is in a file (P7).
func (d *Disk) Read(name string) (string, api.Errno) {
	if e := d.check(name); e != api.OK {
		return "", e
	}
	f, there := d.files[name]
	if !there {
		return "", api.ErrFile
	}
	return string(f.content), api.OK
}

// List answers the files' names, in order (P7).
func (d *Disk) List() ([]string, api.Errno) {
	if d == nil {
		return nil, api.ErrNil
	}
	return slices.Sorted(maps.Keys(d.files)), api.OK
}

// Used answers how many bytes all files have (P7).
func (d *Disk) Used() (int, api.Errno) {
	if d == nil {
		return 0, api.ErrNil
	}
	return d.used(), api.OK
}

func (d *Disk) used() int {
	n := 0
	for _, f := range d.files {
		n += len(f.content)
	}
	return n
}

func (d *Disk) put(name string, f file) {
	// The name may be a piece of a long text, which a copy doesn't hold on to.
	d.files[strings.Clone(name)] = f
}

// check answers why a call with these names is refused whatever the files are.
func (d *Disk) check(names ...string) api.Errno {
	if d == nil {
		return api.ErrNil
	}
	for _, name := range names {
		if name == "" || len(name) > api.MaxName {
			return api.ErrName
		}
	}
	return api.OK
}
