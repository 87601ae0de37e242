package routelog_test

import (
	"slices"
	"strings"
	"testing"

	"routelog/api"
	"routelog/routelog"
)

type prefixes = []api.Prefix

func checkUpdate(t *testing.T, what, m string, want api.Change, wantErr api.Errno) {
	t.Helper()
	got, e := routelog.Update(m)
	if e != wantErr || !slices.Equal(got.Withdrawn, want.Withdrawn) || !slices.Equal(got.Announced, want.Announced) || got.Attrs != want.Attrs {
		t.Errorf("%s: Update(%x) = %v %v %x, %d, want %v %v %x, %d", what, m,
			got.Withdrawn, got.Announced, got.Attrs, e, want.Withdrawn, want.Announced, want.Attrs, wantErr)
	}
}

func TestUpdateIsNoUpdate(t *testing.T) {
	whole := updatingHex(t, "10 0a 01", needed, "08 0a")
	none := api.Change{}
	checkUpdate(t, "nothing", "", none, api.ErrFrame)
	checkUpdate(t, "not whole", whole[:len(whole)-1], none, api.ErrFrame)
	checkUpdate(t, "too much", whole+"\x00", none, api.ErrFrame)
	checkUpdate(t, "two of them", whole+whole, none, api.ErrFrame)
	checkUpdate(t, "a wrong mark", "\xfe"+whole[1:], none, api.ErrFrame)
	checkUpdate(t, "a wrong length", strings.Repeat("\xff", 16)+"\x00\x12\x02", none, api.ErrFrame)
	for kind := range 256 {
		if kind != api.Updating {
			checkUpdate(t, "another type", framed(byte(kind), whole[19:]), none, api.ErrFrame)
		}
	}
}

func TestUpdateContentEndsTooEarly(t *testing.T) {
	for _, content := range []string{
		"", "\x00", "\x00\x00", "\x00\x00\x00", "\x00\x01", "\x00\x01\x00", "\x00\x01\x00\x00", "\x00\x02\x08\x0a", "\x00\x02\x08\x0a\x00",
		"\x00\x00\x00\x01", "\x00\x00\x00\x03\xc0\x63", "\xff\xff\x00\x00", "\x00\x00\xff\xff", "\x01\x00\x00\x00", "\x00\x00\x01\x00",
	} {
		checkUpdate(t, "too early", framed(api.Updating, content), api.Change{}, api.ErrUpdate)
	}
	checkUpdate(t, "just in time", framed(api.Updating, "\x00\x00\x00\x00"), api.Change{}, api.OK)
}

func TestUpdatePrefixes(t *testing.T) {
	for _, c := range []struct {
		b    string
		want prefixes
	}{
		{"", nil},
		{"00", prefixes{all}},
		{"08 0a", prefixes{ten}},
		{"10 0a 01", prefixes{tenOne}},
		{"20 01 02 03 04", prefixes{single}},
		{"20 ff ff ff ff", prefixes{{Addr: api.MaxAddr, Len: 32}}},
		{"1f ff ff ff ff", prefixes{{Addr: api.MaxAddr - 1, Len: 31}}},
		{"01 ff", prefixes{{Addr: 1 << 31, Len: 1}}},
		{"09 0a 80", prefixes{oddBits}},
		{"09 0a ff", prefixes{oddBits}},
		{"19 01 02 03 ff", prefixes{{Addr: 0x01020380, Len: 25}}},
		{"08 0a 00 08 0a 10 0a 01", prefixes{ten, all, ten, tenOne}},
	} {
		checkUpdate(t, "withdrawn", updatingHex(t, c.b, "", ""), api.Change{Withdrawn: c.want}, api.OK)
		want := api.Change{Announced: c.want}
		if len(c.want) > 0 {
			want.Attrs = unhex(t, canonical)
		}
		checkUpdate(t, "announced", updatingHex(t, "", needed, c.b), want, api.OK)
	}
	for _, b := range []string{"08", "01", "20 01 02 03", "09 0a", "08 0a 08", "08 0a 10 0a", "21 01 02 03 04", "21 01 02 03 04 05", "ff", "28 01 02 03 04 05", "80 " + strings.Repeat("01", 32)} {
		checkUpdate(t, "withdrawn", updatingHex(t, b, needed, "08 0a"), api.Change{}, api.ErrUpdate)
		checkUpdate(t, "announced", updatingHex(t, "08 0a", needed, b), api.Change{}, api.ErrUpdate)
	}
	checkUpdate(t, "both", updatingHex(t, "08 0a 00", needed, "10 0a 01 08 0a"),
		api.Change{Withdrawn: prefixes{ten, all}, Announced: prefixes{tenOne, ten}, Attrs: unhex(t, canonical)}, api.OK)
	checkUpdate(t, "attributes alone", updatingHex(t, "08 0a", needed, ""), api.Change{Withdrawn: prefixes{ten}}, api.OK)
}

// TestUpdateKeeps: what is kept of attributes, as canonical text.
func TestUpdateKeeps(t *testing.T) {
	for _, c := range []struct{ what, attrs, want string }{
		{"the needed ones", needed, canonical},
		{"another order", "40 03 04 01 02 03 04 40 02 00 40 01 01 00", canonical},
		{"the origin's greatest", "40 01 01 02 40 02 00 40 03 04 01 02 03 04", "40 01 00 01 02 40 02 00 00 40 03 00 04 01 02 03 04"},
		{"flags that are not looked at", "4f 01 01 00 60 02 00 6f 03 04 01 02 03 04", canonical},
		{"a length of two bytes", "50 01 00 01 00 7f 02 00 00 50 03 00 04 01 02 03 04", canonical},
		{"every known one", needed + "80 04 04 09 08 07 06 40 06 00 c0 07 08 01 02 03 04 05 06 07 08 c0 08 08 01 02 03 04 05 06 07 08",
			canonical + "80 04 00 04 09 08 07 06 40 06 00 00 c0 07 00 08 01 02 03 04 05 06 07 08 c0 08 00 08 01 02 03 04 05 06 07 08"},
		{"known ones with flags that are not looked at", needed + "af 04 04 09 08 07 06 6f 06 00 ef 07 08 01 02 03 04 05 06 07 08 ef 08 04 01 02 03 04",
			canonical + "80 04 00 04 09 08 07 06 40 06 00 00 c0 07 00 08 01 02 03 04 05 06 07 08 c0 08 00 04 01 02 03 04"},
		{"a path", "40 01 01 00 40 02 10 02 02 00 00 00 01 00 00 00 02 01 01 00 00 00 03 40 03 04 01 02 03 04",
			"40 01 00 01 00 40 02 00 10 02 02 00 00 00 01 00 00 00 02 01 01 00 00 00 03 40 03 00 04 01 02 03 04"},
		{"unknown ones", "c0 ff 02 01 02 c0 00 00" + needed + "c0 05 01 09", "c0 00 00 00" + canonical + "c0 05 00 01 09 c0 ff 00 02 01 02"},
		{"an unknown one with 32", needed + "e0 63 01 07", canonical + "e0 63 00 01 07"},
		{"an unknown one with all flags", needed + "ff 63 00 01 07", canonical + "e0 63 00 01 07"},
		{"an unknown one with flags below 32", needed + "cf 63 01 07", canonical + "c0 63 00 01 07"},
		{"an unknown one that lacks 64", needed + "80 63 01 07", canonical},
		{"an unknown one that lacks 64, with 32", needed + "bf 63 00 01 07", canonical},
		{"6 with a value", needed + "40 06 01 00", canonical},
		{"6 with other flags", needed + "c0 06 00 80 06 00", canonical},
		{"6 without flags", needed + "00 06 00", canonical},
		{"7 too short", needed + "c0 07 07 01 02 03 04 05 06 07", canonical},
		{"7 too long", needed + "c0 07 09 01 02 03 04 05 06 07 08 09", canonical},
		{"7 with other flags", needed + "40 07 08 01 02 03 04 05 06 07 08", canonical},
		{"7 without flags", needed + "00 07 00", canonical},
		{"a type again", needed + "40 01 01 02", canonical},
		{"a type again, and more behind it", "40 01 01 00 40 01 01 02 40 02 00 40 03 04 01 02 03 04 40 02 00 c0 63 01 07", canonical + "c0 63 00 01 07"},
		{"6 passed over, and more behind it", "c0 06 00" + needed + "c0 63 01 07", canonical + "c0 63 00 01 07"},
		{"7 passed over, and more behind it", "c0 07 00" + needed + "c0 63 01 07", canonical + "c0 63 00 01 07"},
		{"an unknown one passed over, and more behind it", "80 62 00" + needed + "c0 63 01 07", canonical + "c0 63 00 01 07"},
		{"a type again, with a wrong value", needed + "40 01 01 03", canonical},
		{"a type again, with wrong flags", needed + "c0 02 00", canonical},
		{"an unknown type again", needed + "c0 63 01 07 e0 63 01 08", canonical + "c0 63 00 01 07"},
		{"an unknown type again, that would end the session", needed + "c0 63 01 07 40 63 01 08", canonical + "c0 63 00 01 07"},
		{"an unknown type again, passed over at first", needed + "80 63 01 07 c0 63 01 08 00 63 00", canonical},
		{"6 again, passed over at first", needed + "40 06 01 00 40 06 00", canonical},
		{"7 again, passed over at first", needed + "c0 07 00 c0 07 08 01 02 03 04 05 06 07 08", canonical},
	} {
		checkUpdate(t, c.what, updatingHex(t, "10 0a 01", c.attrs, "08 0a"),
			api.Change{Withdrawn: prefixes{tenOne}, Announced: prefixes{ten}, Attrs: unhex(t, c.want)}, api.OK)
		checkUpdate(t, c.what+", for nothing", updatingHex(t, "10 0a 01", c.attrs, ""), api.Change{Withdrawn: prefixes{tenOne}}, api.OK)
	}
}

// spoiling: attributes that spoil an update.
var spoiling = []struct{ what, attrs string }{
	{"1 too great", "40 01 01 03 40 02 00 40 03 04 01 02 03 04"},
	{"1 too short", "40 01 00 40 02 00 40 03 04 01 02 03 04"},
	{"1 too long", "40 01 02 00 00 40 02 00 40 03 04 01 02 03 04"},
	{"1 with 128", "c0 01 01 00 40 02 00 40 03 04 01 02 03 04"},
	{"1 without 64", "00 01 01 00 40 02 00 40 03 04 01 02 03 04"},
	{"1 right at the second time", "40 01 01 09 40 01 01 00 40 02 00 40 03 04 01 02 03 04"},
	{"2 with 128", "40 01 01 00 80 02 00 40 03 04 01 02 03 04"},
	{"a segment of no number", "40 01 01 00 40 02 02 02 00 40 03 04 01 02 03 04"},
	{"a segment of no number behind another", "40 01 01 00 40 02 08 02 01 00 00 00 01 01 00 40 03 04 01 02 03 04"},
	{"a segment of type 0", "40 01 01 00 40 02 06 00 01 00 00 00 01 40 03 04 01 02 03 04"},
	{"a segment of type 3", "40 01 01 00 40 02 06 03 01 00 00 00 01 40 03 04 01 02 03 04"},
	{"a segment of type 3 behind another", "40 01 01 00 40 02 0c 01 01 00 00 00 01 03 01 00 00 00 01 40 03 04 01 02 03 04"},
	{"a segment too short", "40 01 01 00 40 02 05 02 01 00 00 00 40 03 04 01 02 03 04"},
	{"a byte behind the segments", "40 01 01 00 40 02 07 02 01 00 00 00 01 02 40 03 04 01 02 03 04"},
	{"half a segment's head", "40 01 01 00 40 02 01 02 40 03 04 01 02 03 04"},
	{"3 too short", "40 01 01 00 40 02 00 40 03 03 01 02 03"},
	{"3 too long", "40 01 01 00 40 02 00 40 03 05 01 02 03 04 05"},
	{"3 with 128", "40 01 01 00 40 02 00 c0 03 04 01 02 03 04"},
	{"4 too short", needed + "80 04 03 00 00 00"},
	{"4 too long", needed + "80 04 05 00 00 00 00 00"},
	{"4 with 64", needed + "c0 04 04 00 00 00 00"},
	{"4 without 128", needed + "00 04 04 00 00 00 00"},
	{"8 of nothing", needed + "c0 08 00"},
	{"8 of five bytes", needed + "c0 08 05 01 02 03 04 05"},
	{"8 without 64", needed + "80 08 04 01 02 03 04"},
	{"8 without 128", needed + "40 08 04 01 02 03 04"},
	{"flags alone", needed + "c0"},
	{"no length", needed + "c0 63"},
	{"half a length", needed + "d0 63 00"},
	{"a value too short", needed + "c0 63 02 01"},
	{"a value too short, the length of two bytes", needed + "d0 63 01 00 01"},
	{"a type again, without a length", needed + "40 01"},
	{"a type again, a value too short", needed + "40 01 01"},
	{"6 with a value too short", needed + "40 06 01"},
	{"flags that would end the session, a value too short", needed + "00 63 01"},
	{"flags that would end the session, without a length", needed + "00 63"},
}

func TestUpdateSpoilt(t *testing.T) {
	for _, c := range spoiling {
		checkUpdate(t, c.what, updatingHex(t, "10 0a 01", c.attrs, "08 0a 00"), api.Change{Withdrawn: prefixes{tenOne, ten, all}}, api.OK)
		checkUpdate(t, c.what+", nothing withdrawn", updatingHex(t, "", c.attrs, "08 0a"), api.Change{Withdrawn: prefixes{ten}}, api.OK)
		checkUpdate(t, c.what+", nothing announced", updatingHex(t, "10 0a 01", c.attrs, ""), api.Change{Withdrawn: prefixes{tenOne}}, api.OK)
	}
}

func TestUpdateLacksNeeded(t *testing.T) {
	for _, attrs := range []string{
		"", "40 01 01 00", "40 01 01 00 40 02 00", "40 02 00 40 03 04 01 02 03 04", "40 01 01 00 40 03 04 01 02 03 04",
		"40 01 01 00 40 02 00 80 04 04 00 00 00 00", "c0 00 00 40 01 01 00 40 02 00 c0 63 00",
	} {
		checkUpdate(t, "needed ones lack", updatingHex(t, "10 0a 01", attrs, "08 0a"), api.Change{Withdrawn: prefixes{tenOne, ten}}, api.OK)
		checkUpdate(t, "needed ones lack, for nothing", updatingHex(t, "10 0a 01", attrs, ""), api.Change{Withdrawn: prefixes{tenOne}}, api.OK)
	}
}

func TestUpdateEndsTheSession(t *testing.T) {
	for _, c := range []struct{ what, attrs string }{
		{"64 alone", needed + "40 63 00"},
		{"no flag", needed + "00 63 00"},
		{"all flags but 128", needed + "7f 63 00 00"},
		{"type 0", "00 00 00"},
		{"type 5", needed + "40 05 00"},
		{"type 9", needed + "40 09 00"},
		{"type 255", needed + "40 ff 00"},
		{"ahead of the others", "40 63 00" + needed},
		{"behind one that is wrong", "40 01 01 09 40 63 00"},
		{"behind a path that is wrong", "40 01 01 00 40 02 01 02 40 63 00"},
		{"behind one that is passed over", needed + "80 62 00 40 63 00"},
		{"behind a type again", needed + "40 01 01 00 40 63 00"},
		{"behind 6 that is passed over", needed + "c0 06 00 40 63 00"},
		{"ahead of bytes that end too early", needed + "40 63 00 c0"},
		{"where needed ones lack", "40 63 00"},
	} {
		checkUpdate(t, c.what, updatingHex(t, "10 0a 01", c.attrs, "08 0a"), api.Change{}, api.ErrUpdate)
		checkUpdate(t, c.what+", for nothing", updatingHex(t, "", c.attrs, ""), api.Change{}, api.ErrUpdate)
	}
}

func TestUpdateExamples(t *testing.T) {
	m := strings.Repeat("ff", 16)
	attrs := unhex(t, "40 01 00 01 00 40 02 00 00 40 03 00 04 01 02 03 04 c0 63 00 01 07")
	head, tail := m+"00 2b 02 00 00 00 12", "40 02 00 40 03 04 01 02 03 04"
	announced := api.Change{Announced: prefixes{{Addr: 167772160, Len: 8}}, Attrs: attrs}
	spoilt := api.Change{Withdrawn: prefixes{{Addr: 167772160, Len: 8}}}
	checkUpdate(t, "of nothing", unhex(t, m+"00 17 02 00 00 00 00"), api.Change{}, api.OK)
	checkUpdate(t, "10.1.0.0", unhex(t, m+"00 1a 02 00 03 10 0a 01 00 00"), api.Change{Withdrawn: prefixes{{Addr: 167837696, Len: 16}}}, api.OK)
	checkUpdate(t, "announced", unhex(t, head+"40 01 01 00"+tail+"c0 63 01 07 08 0a"), announced, api.OK)
	checkUpdate(t, "41", unhex(t, head+"41 01 01 00"+tail+"c0 63 01 07 08 0a"), announced, api.OK)
	checkUpdate(t, "03", unhex(t, head+"40 01 01 03"+tail+"c0 63 01 07 08 0a"), spoilt, api.OK)
	checkUpdate(t, "40", unhex(t, head+"40 01 01 00"+tail+"40 63 01 07 08 0a"), api.Change{}, api.ErrUpdate)
}

func TestUpdateAnswersNewMemory(t *testing.T) {
	m := updatingHex(t, "10 0a 01 08 0a 00", needed, "00 10 0a 01 08 0a")
	first, _ := routelog.Update(m)
	second, _ := routelog.Update(m)
	want := prefixes{all, tenOne, ten}
	overwrite(first.Withdrawn)
	if !slices.Equal(first.Announced, want) {
		t.Errorf("Announced changes with Withdrawn: %v", first.Announced)
	}
	overwrite(first.Announced)
	if !slices.Equal(second.Withdrawn, prefixes{tenOne, ten, all}) || !slices.Equal(second.Announced, want) {
		t.Errorf("an answer changes with another: %v", second)
	}
}

// overwrite writes over all of a list's memory, its spare room too.
func overwrite(l prefixes) {
	l = l[:cap(l)]
	for i := range l {
		l[i] = api.Prefix{Addr: 1, Len: 77}
	}
}

// TestUpdateOfChangedBytes: each byte of some updates is changed to each other one, and each update is cut at each place.
func TestUpdateOfChangedBytes(t *testing.T) {
	for _, m := range []string{
		updatingHex(t, "10 0a 01 00", needed+"80 04 04 09 08 07 06 40 06 00 c0 63 01 07", "08 0a 20 01 02 03 04"),
		updatingHex(t, "", "50 01 00 01 00 40 02 0c 02 01 00 00 00 07 01 01 00 00 00 08 40 03 04 01 02 03 04 c0 08 04 00 01 00 02", "09 0a 80"),
		updatingHex(t, "08 0a", "", ""),
	} {
		for i := range len(m) {
			checkAnyUpdate(t, m[:i])
			checkAnyUpdate(t, framed(api.Updating, m[min(i, 19):i]))
			for v := range 256 {
				checkAnyUpdate(t, m[:i]+string([]byte{byte(v)})+m[i+1:])
			}
		}
	}
}

// checkAnyUpdate checks what holds of the answers to all bytes.
func checkAnyUpdate(t *testing.T, m string) {
	t.Helper()
	d, e := routelog.Update(m)
	n, kind, frameErr := routelog.Frame(m)
	isUpdate := frameErr == api.OK && n == len(m) && kind == api.Updating
	if (e == api.ErrFrame) == isUpdate || e != api.OK && e != api.ErrFrame && e != api.ErrUpdate {
		t.Errorf("Update(%x) answers %d", m, e)
	}
	if e != api.OK && (len(d.Withdrawn) > 0 || len(d.Announced) > 0 || d.Attrs != "") {
		t.Errorf("Update(%x) answers %v beside %d", m, d, e)
	}
	if (len(d.Announced) == 0) != (d.Attrs == "") {
		t.Errorf("Update(%x) = %v", m, d)
	}
	for _, p := range append(slices.Clone(d.Withdrawn), d.Announced...) {
		if _, e := routelog.Announce(unhex(t, canonical), prefixes{p}); e != api.OK {
			t.Errorf("Update(%x) answers %v, which is no prefix", m, p)
		}
	}
	if len(d.Announced) == 0 {
		return
	}
	again, e := routelog.Announce(d.Attrs, d.Announced)
	if e != api.OK {
		t.Errorf("Update(%x) answers attributes that Announce answers with %d", m, e)
	}
	checkUpdate(t, "announced again", again, api.Change{Announced: d.Announced, Attrs: d.Attrs}, api.OK)
}
