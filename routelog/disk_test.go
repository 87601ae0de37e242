package routelog_test

import (
	"slices"
	"strings"
	"testing"

	"routelog/api"
	"routelog/routelog"
)

const (
	maxInt = int(^uint(0) >> 1)
	minInt = -maxInt - 1
)

func TestNewDisk(t *testing.T) {
	for _, capacity := range []int{minInt, -1, 0, 1, 7, maxInt} {
		d := routelog.NewDisk(capacity)
		if d == nil {
			t.Fatalf("NewDisk(%d) is nil", capacity)
		}
		checkFiles(t, "a new disk", d, content{})
		want := api.OK
		if capacity < 1 {
			want = api.ErrSpace
		}
		checkErrors(t, "a byte on a new disk", want, d.Append("a", "x"))
		checkErrors(t, "no byte on a new disk", api.OK, d.Append("b", ""))
	}
}

func TestAppend(t *testing.T) {
	d := routelog.NewDisk(100)
	checkErrors(t, "Append", api.OK, d.Append("b", "one"), d.Append("a", ""), d.Append("b", "two"), d.Append("a", "\x00\xff"), d.Append("b", ""))
	checkFiles(t, "appended", d, content{"a": "\x00\xff", "b": "onetwo"})
}

func TestAppendFillsTheDisk(t *testing.T) {
	d := diskOf(t, 10, content{"a": "123", "b": "4567"})
	checkErrors(t, "a byte too long", api.ErrSpace, d.Append("a", "wxyz"), d.Append("b", "wxyz"), d.Append("c", "wxyz"), d.Append("a", strings.Repeat("z", 1000)))
	checkFiles(t, "refused", d, content{"a": "123", "b": "4567"})
	checkErrors(t, "to the last byte", api.OK, d.Append("b", "xyz"))
	checkErrors(t, "a full disk", api.ErrSpace, d.Append("a", "8"), d.Append("c", "8"))
	checkErrors(t, "nothing, on a full disk", api.OK, d.Append("a", ""), d.Append("c", ""))
	checkFiles(t, "full", d, content{"a": "123", "b": "4567xyz", "c": ""})
	checkErrors(t, "making room", api.OK, d.Truncate("b", 5), d.Append("c", "45"), d.Delete("a"), d.Append("c", "678"))
	checkErrors(t, "full again", api.ErrSpace, d.Append("c", "9"))
	checkErrors(t, "making room by a new name", api.OK, d.Rename("c", "b"), d.Append("b", "90123"))
	checkErrors(t, "full once more", api.ErrSpace, d.Append("b", "!"))
	checkFiles(t, "at the end", d, content{"b": "4567890123"})
}

func TestNames(t *testing.T) {
	for _, name := range []string{"a", "\x00", "\xff\xfe", "../a b", strings.Repeat("n", api.MaxName)} {
		d := routelog.NewDisk(100)
		checkErrors(t, "a name", api.OK, d.Append(name, "12345"), d.Sync(name), d.Truncate(name, 3), d.Rename(name, "q"), d.Rename("q", name))
		checkFiles(t, "a name", d, content{name: "123"})
		checkErrors(t, "deleting", api.OK, d.Delete(name))
		checkFiles(t, "deleted", d, content{})
	}
	for _, name := range []string{"", strings.Repeat("n", api.MaxName+1), strings.Repeat("n", 1000)} {
		d := diskOf(t, 5, content{"a": "123"})
		// Of each call: what another error stands behind ErrName for, too.
		checkErrors(t, "no name", api.ErrName, d.Append(name, ""), d.Append(name, "wxyz"), d.Sync(name), d.Delete(name),
			d.Truncate(name, 0), d.Truncate(name, -1), d.Rename("a", name), d.Rename(name, "a"), d.Rename("q", name), d.Rename(name, name))
		if b, e := d.Read(name); b != "" || e != api.ErrName {
			t.Errorf("Read(%q) = %q, %d", name, b, e)
		}
		checkFiles(t, "no name", d, content{"a": "123"})
	}
}

func TestNoFile(t *testing.T) {
	d := diskOf(t, 5, content{"a": "123"})
	checkErrors(t, "no file", api.ErrFile, d.Sync("q"), d.Delete("q"), d.Rename("q", "a"), d.Rename("q", "b"), d.Rename("q", "q"),
		d.Truncate("q", 0), d.Truncate("q", -1), d.Truncate("q", 1))
	if b, e := d.Read("q"); b != "" || e != api.ErrFile {
		t.Errorf("Read = %q, %d", b, e)
	}
	checkFiles(t, "no file", d, content{"a": "123"})
}

func TestTruncate(t *testing.T) {
	d := diskOf(t, 10, content{"a": "12345", "b": ""})
	for _, n := range []int{minInt, -1, 6, 10, maxInt} {
		checkErrors(t, "a length that may not be", api.ErrArg, d.Truncate("a", n))
	}
	checkErrors(t, "a length of nothing", api.ErrArg, d.Truncate("b", 1))
	checkFiles(t, "refused", d, content{"a": "12345", "b": ""})
	checkErrors(t, "all", api.OK, d.Truncate("a", 5), d.Truncate("b", 0))
	checkFiles(t, "all", d, content{"a": "12345", "b": ""})
	checkErrors(t, "some", api.OK, d.Truncate("a", 2), d.Append("a", "x"))
	checkFiles(t, "some", d, content{"a": "12x", "b": ""})
	checkErrors(t, "behind the end that is now", api.ErrArg, d.Truncate("a", 4))
	checkErrors(t, "none", api.OK, d.Truncate("a", 0))
	checkFiles(t, "none", d, content{"a": "", "b": ""})
}

func TestRename(t *testing.T) {
	d := diskOf(t, 10, content{"a": "123", "b": "45", "c": "6"})
	checkErrors(t, "its own name", api.OK, d.Rename("a", "a"))
	checkFiles(t, "its own name", d, content{"a": "123", "b": "45", "c": "6"})
	checkErrors(t, "a free name", api.OK, d.Rename("b", "d"))
	checkFiles(t, "a free name", d, content{"a": "123", "d": "45", "c": "6"})
	checkErrors(t, "onto another", api.OK, d.Rename("a", "c"))
	checkFiles(t, "onto another", d, content{"d": "45", "c": "123"})
	checkErrors(t, "a name that is gone", api.ErrFile, d.Rename("a", "c"), d.Rename("b", "a"))
	checkErrors(t, "going on", api.OK, d.Append("c", "4"), d.Append("a", "new"))
	checkFiles(t, "going on", d, content{"d": "45", "c": "1234", "a": "new"})
}

func TestListInOrder(t *testing.T) {
	want := []string{"\x00", "0", "00", "1", "10", "9", "A", "a", "aa", "ab", "b", "\x80", "ä", "\xff", "\xff\x00"}
	slices.Sort(want)
	d := routelog.NewDisk(0)
	for i := range want {
		checkErrors(t, "Append", api.OK, d.Append(want[(i*7+3)%len(want)], ""))
	}
	for range 20 {
		if got, e := d.List(); !slices.Equal(got, want) || e != api.OK {
			t.Fatalf("List = %q, %d, want %q", got, e, want)
		}
	}
}

func TestListIsNew(t *testing.T) {
	d := diskOf(t, 10, content{"a": "1", "b": "2", "c": "3", "d": "4", "e": "5"})
	first, _ := d.List()
	second, _ := d.List()
	whole := first[:cap(first)]
	for i := range whole {
		whole[i] = "z"
	}
	if !slices.Equal(second, []string{"a", "b", "c", "d", "e"}) {
		t.Errorf("two answers share memory: %q", second)
	}
	checkFiles(t, "an answer was changed", d, content{"a": "1", "b": "2", "c": "3", "d": "4", "e": "5"})
}

func TestReadIsOfThen(t *testing.T) {
	d := diskOf(t, 100, content{"a": "12345"})
	then, _ := d.Read("a")
	checkErrors(t, "writing", api.OK, d.Truncate("a", 1), d.Append("a", "xyz!"))
	if then != "12345" {
		t.Errorf("what was read has become %q", then)
	}
	checkFiles(t, "written", d, content{"a": "1xyz!"})
}

func TestDisksApart(t *testing.T) {
	d, other := diskOf(t, 5, content{"a": "1"}), diskOf(t, 5, content{"a": "12345"})
	checkErrors(t, "Break", api.OK, other.Break(0))
	checkErrors(t, "one of two", api.OK, d.Append("a", "2345"), d.Append("b", ""), d.Rename("a", "c"), d.Crash([]int{9, 9}))
	checkFiles(t, "the one", d, content{"b": "", "c": "12345"})
	checkFiles(t, "the other", other, content{"a": "12345"})
	checkErrors(t, "the other is broken still", api.OK, other.Delete("a"))
	checkFiles(t, "the other", other, content{"a": "12345"})
}

func TestDiskThatIsNil(t *testing.T) {
	var d *routelog.Disk
	long := strings.Repeat("n", 100)
	checkErrors(t, "nil", api.ErrNil, d.Append("a", "x"), d.Append("", ""), d.Sync("a"), d.Sync(long), d.Rename("a", "b"), d.Rename("", long),
		d.Delete("a"), d.Delete(""), d.Truncate("a", 0), d.Truncate("", -1), d.Crash(nil), d.Crash([]int{1}), d.Break(0), d.Break(-1))
	for _, name := range []string{"a", "", long} {
		if b, e := d.Read(name); b != "" || e != api.ErrNil {
			t.Errorf("Read(%q) = %q, %d", name, b, e)
		}
	}
	if l, e := d.List(); len(l) != 0 || e != api.ErrNil {
		t.Errorf("List = %q, %d", l, e)
	}
	if n, e := d.Used(); n != 0 || e != api.ErrNil {
		t.Errorf("Used = %d, %d", n, e)
	}
}
