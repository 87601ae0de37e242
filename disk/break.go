package disk

import "routelog/api"

// Crash loses what was not synced, but for what keep says of each file, in the order of List (P8).
func (d *Disk) Crash(keep []int) api.Errno {
	names, e := d.List()
	if e != api.OK {
		return e
	}
	for i, name := range names {
		more := 0
		if i < len(keep) {
			more = keep[i]
		}
		f := d.files[name]
		n := f.synced + min(max(more, 0), len(f.content)-f.synced)
		d.put(name, file{content: f.content[:n], synced: n})
	}
	d.left = never
	return api.OK
}

// Break lets the disk break behind n more calls (P8).
func (d *Disk) Break(n int) api.Errno {
	if d == nil {
		return api.ErrNil
	}
	if n < 0 {
		return api.ErrArg
	}
	d.left = n
	return api.OK
}

// change does what a call that changes files of these names is about.
// All such calls go through here, since a disk that breaks counts them, and does none of them once it is broken (P8).
func (d *Disk) change(do func() api.Errno, names ...string) api.Errno {
	if e := d.check(names...); e != api.OK {
		return e
	}
	if d.left == 0 {
		return api.OK
	}
	e := do()
	if e == api.OK && d.left != never {
		d.left--
	}
	return e
}

// changeFile is change of a file that must be there, the first of these names.
func (d *Disk) changeFile(do func(file) api.Errno, name string, others ...string) api.Errno {
	return d.change(func() api.Errno {
		f, there := d.files[name]
		if !there {
			return api.ErrFile
		}
		return do(f)
	}, append(others, name)...)
}
