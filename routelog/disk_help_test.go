package routelog_test

import (
	"maps"
	"slices"
	"strings"
	"testing"

	"routelog/api"
	"routelog/routelog"
)

// content is what is in each file.
type content map[string]string

// checkFiles looks at all that a disk tells of its files.
func checkFiles(t *testing.T, what string, d *routelog.Disk, want content) {
	t.Helper()
	names, e := d.List()
	if !slices.Equal(names, slices.Sorted(maps.Keys(want))) || e != api.OK {
		t.Errorf("%s: List = %q, %d, want those of %q", what, names, e, want)
	}
	n := 0
	for name, b := range want {
		if got, e := d.Read(name); got != b || e != api.OK {
			t.Errorf("%s: Read(%q) = %q, %d, want %q", what, name, got, e, b)
		}
		n += len(b)
	}
	if used, e := d.Used(); used != n || e != api.OK {
		t.Errorf("%s: Used = %d, %d, want %d", what, used, e, n)
	}
}

// checkErrors looks at what calls answered, one behind the other.
func checkErrors(t *testing.T, what string, want api.Errno, got ...api.Errno) {
	t.Helper()
	for i, e := range got {
		if e != want {
			t.Errorf("%s: call %d = %d, want %d", what, i, e, want)
		}
	}
}

// diskOf answers a disk with files of which nothing is synced.
func diskOf(t *testing.T, capacity int, files content) *routelog.Disk {
	t.Helper()
	d := routelog.NewDisk(capacity)
	for name, b := range files {
		checkErrors(t, "filling a disk", api.OK, d.Append(name, b))
	}
	return d
}

// syncedDisk answers a disk with files, all of which is synced, and then so many bytes more in each.
func syncedDisk(t *testing.T, files content, more int) *routelog.Disk {
	t.Helper()
	d := diskOf(t, 1000, files)
	for name := range files {
		checkErrors(t, "syncing", api.OK, d.Sync(name), d.Append(name, strings.Repeat("+", more)))
	}
	return d
}
