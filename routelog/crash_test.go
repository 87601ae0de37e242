package routelog_test

import (
	"slices"
	"strings"
	"testing"

	"routelog/api"
	"routelog/routelog"
)

func TestCrashKeeps(t *testing.T) {
	for _, c := range []struct {
		what string
		keep []int
		want content
	}{
		{"nothing said", nil, content{"a": "12", "b": "3", "c": ""}},
		{"none", []int{0, 0, 0}, content{"a": "12", "b": "3", "c": ""}},
		{"some", []int{1, 2, 3}, content{"a": "12+", "b": "3++", "c": "+++"}},
		{"all but one", []int{3, 3, 3}, content{"a": "12+++", "b": "3+++", "c": "+++"}},
		{"all", []int{4, 4, 4}, content{"a": "12++++", "b": "3++++", "c": "++++"}},
		{"more than there is", []int{5, 100, maxInt}, content{"a": "12++++", "b": "3++++", "c": "++++"}},
		{"below 0", []int{-1, minInt, -4}, content{"a": "12", "b": "3", "c": ""}},
		{"too few", []int{2}, content{"a": "12++", "b": "3", "c": ""}},
		{"too few behind one below 0", []int{-1, 1}, content{"a": "12", "b": "3+", "c": ""}},
		{"too many", []int{0, 0, 1, 4, -1, maxInt}, content{"a": "12", "b": "3", "c": "+"}},
	} {
		d := syncedDisk(t, content{"a": "12", "b": "3", "c": ""}, 4)
		keep := slices.Clone(c.keep)
		checkErrors(t, c.what, api.OK, d.Crash(keep))
		if !slices.Equal(keep, c.keep) {
			t.Errorf("%s: the list has become %v", c.what, keep)
		}
		checkFiles(t, c.what, d, c.want)
		// What is left is synced.
		for range 2 {
			checkErrors(t, c.what, api.OK, d.Crash([]int{-1, 0}))
			checkFiles(t, c.what+", and a crash without bytes behind it", d, c.want)
		}
	}
}

func TestCrashOfNoFiles(t *testing.T) {
	d := routelog.NewDisk(3)
	checkErrors(t, "Crash", api.OK, d.Crash(nil), d.Crash([]int{1, 2}))
	checkFiles(t, "no files", d, content{})
	checkErrors(t, "going on", api.OK, d.Append("a", "123"))
}

func TestCrashMakesRoom(t *testing.T) {
	d := diskOf(t, 10, content{"a": "12345", "b": "67890"})
	checkErrors(t, "full", api.ErrSpace, d.Append("a", "!"))
	checkErrors(t, "room", api.OK, d.Crash([]int{1, 2}), d.Append("c", "1234567"))
	checkErrors(t, "full again", api.ErrSpace, d.Append("c", "8"))
	checkFiles(t, "filled", d, content{"a": "1", "b": "67", "c": "1234567"})
}

func TestCrashDoesNotKeepItsList(t *testing.T) {
	d := diskOf(t, 10, content{"a": "12345"})
	keep := []int{2, 2}
	checkErrors(t, "Crash", api.OK, d.Crash(keep))
	keep[0] = 5
	checkFiles(t, "a list changed behind the call", d, content{"a": "12"})
	checkErrors(t, "the next crash", api.OK, d.Append("a", "xyz"), d.Crash(nil))
	checkFiles(t, "the next crash", d, content{"a": "12"})
}

// What is synced behind each of the calls: a crash that keeps nothing more tells it.
func TestWhatIsSynced(t *testing.T) {
	for _, c := range []struct {
		what  string
		calls func(*routelog.Disk) []api.Errno
		want  content
	}{
		{"nothing", func(d *routelog.Disk) []api.Errno { return nil }, content{"a": "12", "b": "3"}},
		{"Append", func(d *routelog.Disk) []api.Errno { return []api.Errno{d.Append("a", "x"), d.Append("n", "x")} }, content{"a": "12", "b": "3", "n": ""}},
		{"Sync", func(d *routelog.Disk) []api.Errno { return []api.Errno{d.Sync("a")} }, content{"a": "12++", "b": "3"}},
		{"Sync, Append", func(d *routelog.Disk) []api.Errno { return []api.Errno{d.Sync("a"), d.Append("a", "x")} }, content{"a": "12++", "b": "3"}},
		{"Rename", func(d *routelog.Disk) []api.Errno { return []api.Errno{d.Rename("b", "n")} }, content{"a": "12", "n": "3"}},
		{"Rename to its own name", func(d *routelog.Disk) []api.Errno { return []api.Errno{d.Rename("a", "a")} }, content{"a": "12", "b": "3"}},
		{"Rename onto another", func(d *routelog.Disk) []api.Errno { return []api.Errno{d.Rename("b", "a")} }, content{"a": "3"}},
		{"Sync, Rename onto another", func(d *routelog.Disk) []api.Errno { return []api.Errno{d.Sync("b"), d.Rename("b", "a")} }, content{"a": "3++"}},
		{"Rename onto a synced one", func(d *routelog.Disk) []api.Errno { return []api.Errno{d.Sync("b"), d.Rename("a", "b")} }, content{"b": "12"}},
		{"Delete", func(d *routelog.Disk) []api.Errno { return []api.Errno{d.Delete("a")} }, content{"b": "3"}},
		{"Delete, Append", func(d *routelog.Disk) []api.Errno { return []api.Errno{d.Delete("a"), d.Append("a", "new")} }, content{"a": "", "b": "3"}},
		{"Truncate behind what is synced", func(d *routelog.Disk) []api.Errno { return []api.Errno{d.Truncate("a", 3)} }, content{"a": "12", "b": "3"}},
		{"Truncate to what is synced", func(d *routelog.Disk) []api.Errno { return []api.Errno{d.Truncate("a", 2)} }, content{"a": "12", "b": "3"}},
		{"Truncate in what is synced", func(d *routelog.Disk) []api.Errno { return []api.Errno{d.Truncate("a", 1), d.Append("a", "xyz")} }, content{"a": "1", "b": "3"}},
		{"Truncate to nothing", func(d *routelog.Disk) []api.Errno { return []api.Errno{d.Truncate("a", 0), d.Append("a", "xyz")} }, content{"a": "", "b": "3"}},
		{"refused calls", func(d *routelog.Disk) []api.Errno {
			checkErrors(t, "refused", api.ErrName, d.Sync(""), d.Rename("a", ""))
			checkErrors(t, "refused", api.ErrFile, d.Sync("q"), d.Rename("q", "a"))
			checkErrors(t, "refused", api.ErrArg, d.Truncate("a", 5), d.Truncate("a", -1))
			return nil
		}, content{"a": "12", "b": "3"}},
	} {
		d := syncedDisk(t, content{"a": "12", "b": "3"}, 2)
		checkErrors(t, c.what, api.OK, c.calls(d)...)
		checkErrors(t, c.what, api.OK, d.Crash(nil))
		checkFiles(t, c.what, d, c.want)
	}
}

// counted are calls of which each counts, on a disk on which the file a has two bytes at least, and leaves that so.
var counted = []func(*routelog.Disk) api.Errno{
	func(d *routelog.Disk) api.Errno { return d.Append("a", "x") },
	func(d *routelog.Disk) api.Errno { return d.Append("a", "") },
	func(d *routelog.Disk) api.Errno { return d.Append("n", "") },
	func(d *routelog.Disk) api.Errno { return d.Sync("a") },
	func(d *routelog.Disk) api.Errno { return d.Rename("a", "a") },
	func(d *routelog.Disk) api.Errno { return d.Rename("n", "m") },
	func(d *routelog.Disk) api.Errno { return d.Delete("m") },
	func(d *routelog.Disk) api.Errno { return d.Truncate("a", 2) },
}

// checkBroken looks for it that the five calls answer OK and do nothing, behind ErrName.
func checkBroken(t *testing.T, what string, d *routelog.Disk, files content) {
	t.Helper()
	long := strings.Repeat("n", api.MaxName+1)
	checkErrors(t, what, api.OK, d.Append("a", "x"), d.Append("new", "x"), d.Append("a", strings.Repeat("x", 10000)), d.Sync("a"), d.Sync("q"),
		d.Rename("a", "new"), d.Rename("q", "a"), d.Delete("a"), d.Delete("q"), d.Truncate("a", 0), d.Truncate("a", -1), d.Truncate("a", maxInt), d.Truncate("q", 0))
	checkErrors(t, what, api.ErrName, d.Append("", "x"), d.Append(long, ""), d.Sync(""), d.Rename("a", ""), d.Rename("", "a"), d.Rename(long, long),
		d.Delete(long), d.Truncate("", 0), d.Truncate(long, -1))
	checkErrors(t, what, api.ErrArg, d.Break(-1), d.Break(minInt))
	checkFiles(t, what, d, files)
	if b, e := d.Read("q"); b != "" || e != api.ErrFile {
		t.Errorf("%s: Read = %q, %d", what, b, e)
	}
	if b, e := d.Read(""); b != "" || e != api.ErrName {
		t.Errorf("%s: Read = %q, %d", what, b, e)
	}
}

func TestBreakAtOnce(t *testing.T) {
	d := syncedDisk(t, content{"a": "12"}, 2)
	checkErrors(t, "Break", api.OK, d.Break(0))
	checkBroken(t, "at once", d, content{"a": "12++"})
	checkErrors(t, "the crash", api.OK, d.Crash(nil))
	checkFiles(t, "what was synced on a broken disk", d, content{"a": "12"})
	checkErrors(t, "whole again", api.OK, d.Append("a", "34"), d.Sync("a"), d.Crash(nil))
	checkFiles(t, "whole again", d, content{"a": "1234"})
}

func TestBreakBehindEachCall(t *testing.T) {
	for n := range len(counted) + 1 {
		d := diskOf(t, 100, content{"a": "12"})
		twin := diskOf(t, 100, content{"a": "12"})
		checkErrors(t, "Break", api.OK, d.Break(n))
		for i, call := range counted {
			e := call(d)
			if i < n {
				checkErrors(t, "a call ahead of the break", call(twin), e)
			}
		}
		want := content{}
		names, _ := twin.List()
		for _, name := range names {
			want[name], _ = twin.Read(name)
		}
		if n < len(counted) {
			checkBroken(t, "broken", d, want)
			continue
		}
		checkErrors(t, "the last call counts, too", api.OK, d.Append("a", "!"))
		checkFiles(t, "behind all calls", d, want)
	}
}

// Calls that are refused, and the calls that change no files, don't count.
func TestBreakCountsOnlyTheFive(t *testing.T) {
	d := diskOf(t, 4, content{"a": "12"})
	checkErrors(t, "Break", api.OK, d.Break(2))
	for range 5 {
		checkErrors(t, "no room", api.ErrSpace, d.Append("a", "123"), d.Append("b", "123"))
		checkErrors(t, "no name", api.ErrName, d.Append("", "1"), d.Sync(""), d.Rename("a", ""), d.Delete(""), d.Truncate("", 0))
		checkErrors(t, "no file", api.ErrFile, d.Sync("b"), d.Rename("b", "a"), d.Delete("b"), d.Truncate("b", 0))
		checkErrors(t, "no length", api.ErrArg, d.Truncate("a", 3), d.Truncate("a", -1), d.Break(-1), d.Break(minInt))
		checkFiles(t, "not broken", d, content{"a": "12"})
	}
	checkErrors(t, "two calls", api.OK, d.Append("a", "3"), d.Append("a", "4"))
	checkFiles(t, "the two last", d, content{"a": "1234"})
	checkBroken(t, "behind two", d, content{"a": "1234"})
}

func TestBreakAgain(t *testing.T) {
	d := diskOf(t, 100, content{"a": ""})
	checkErrors(t, "more calls than were left", api.OK, d.Break(1), d.Break(3), d.Append("a", "1"), d.Append("a", "2"))
	checkErrors(t, "fewer than are left, anew", api.OK, d.Break(maxInt), d.Break(1), d.Append("a", "3"), d.Append("a", "-"))
	checkFiles(t, "broken", d, content{"a": "123"})
	checkErrors(t, "of a broken disk", api.OK, d.Break(2), d.Append("a", "4"), d.Append("a", "5"), d.Append("a", "-"))
	checkFiles(t, "broken again", d, content{"a": "12345"})
	checkErrors(t, "at once, of a broken disk", api.OK, d.Break(0), d.Append("a", "-"))
	checkFiles(t, "broken still", d, content{"a": "12345"})
}

func TestCrashEndsBreak(t *testing.T) {
	for n := range 4 {
		d := diskOf(t, 100, content{"a": ""})
		checkErrors(t, "ahead of the crash", api.OK, d.Break(n), d.Append("a", "1"), d.Sync("a"), d.Crash([]int{1}))
		want := "1"
		if n == 0 {
			want = ""
		}
		for range 5 {
			want += "x"
			checkErrors(t, "behind the crash", api.OK, d.Append("a", "x"))
		}
		checkFiles(t, "behind the crash", d, content{"a": want})
		checkErrors(t, "refused as on a whole disk", api.ErrFile, d.Delete("q"))
	}
}

func TestBreakRefused(t *testing.T) {
	d := diskOf(t, 100, content{"a": ""})
	for _, n := range []int{-1, -2, minInt} {
		checkErrors(t, "below 0", api.ErrArg, d.Break(n))
		checkErrors(t, "whole still", api.OK, d.Append("a", "1"))
	}
	checkFiles(t, "whole still", d, content{"a": "111"})
	checkErrors(t, "many", api.OK, d.Break(maxInt), d.Append("a", "1"))
	checkFiles(t, "whole for long", d, content{"a": "1111"})
}
