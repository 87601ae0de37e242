package routelog_test

import (
	"math"
	"slices"
	"strings"
	"testing"

	"routelog/api"
	"routelog/routelog"
)

func checkAnnounce(t *testing.T, what, attrs string, l prefixes, want string, wantErr api.Errno) {
	t.Helper()
	got, e := routelog.Announce(attrs, l)
	if got != want || e != wantErr {
		t.Errorf("%s: Announce(%.99x, %d prefixes) = %x, %d, want %x, %d", what, attrs, len(l), got, e, want, wantErr)
	}
}

func TestAnnounce(t *testing.T) {
	one := prefixes{ten}
	for _, c := range []struct{ what, attrs, want string }{
		{"the needed ones", canonical, needed},
		{"every known one", canonical + "80 04 00 04 09 08 07 06 40 06 00 00 c0 07 00 08 01 02 03 04 05 06 07 08 c0 08 00 04 01 02 03 04",
			needed + "80 04 04 09 08 07 06 40 06 00 c0 07 08 01 02 03 04 05 06 07 08 c0 08 04 01 02 03 04"},
		{"unknown ones", "c0 00 00 00" + canonical + "e0 05 00 01 09 c0 ff 00 02 01 02", "c0 00 00" + needed + "e0 05 01 09 c0 ff 02 01 02"},
		{"a path", "40 01 00 01 02 40 02 00 0c 02 01 00 00 00 07 01 01 00 00 00 08 40 03 00 04 01 02 03 04",
			"40 01 01 02 40 02 0c 02 01 00 00 00 07 01 01 00 00 00 08 40 03 04 01 02 03 04"},
	} {
		checkAnnounce(t, c.what, unhex(t, c.attrs), one, updatingHex(t, "", c.want, "08 0a"), api.OK)
	}
	checkAnnounce(t, "prefixes", unhex(t, canonical), prefixes{single, all, ten, oddBits, ten, {Addr: api.MaxAddr, Len: 32}, {Addr: 1 << 31, Len: 1}},
		updatingHex(t, "", needed, "20 01 02 03 04 00 08 0a 09 0a 80 08 0a 20 ff ff ff ff 01 80"), api.OK)
}

// uncanonical: texts that are not canonical attributes.
var uncanonical = []struct{ what, attrs string }{
	{"nothing", ""},
	{"as an update has them", needed},
	{"without 1", "40 02 00 00 40 03 00 04 01 02 03 04"},
	{"without 2", "40 01 00 01 00 40 03 00 04 01 02 03 04"},
	{"without 3", "40 01 00 01 00 40 02 00 00"},
	{"with others in the place of 3", "40 01 00 01 00 40 02 00 00 80 04 00 04 01 02 03 04"},
	{"another order", "40 02 00 00 40 01 00 01 00 40 03 00 04 01 02 03 04"},
	{"another order behind", canonical + "c0 64 00 00 c0 63 00 00"},
	{"a type twice", canonical + "40 03 00 04 01 02 03 04"},
	{"an unknown type twice", canonical + "c0 63 00 00 c0 63 00 00"},
	{"flags alone", canonical + "c0"},
	{"flags and type", canonical + "c0 63"},
	{"half a length", canonical + "c0 63 00"},
	{"a value too short", canonical + "c0 63 00 02 01"},
	{"a value far too short", canonical + "c0 63 ff ff"},
	{"1 too great", "40 01 00 01 03 40 02 00 00 40 03 00 04 01 02 03 04"},
	{"1 too long", "40 01 00 02 00 00 40 02 00 00 40 03 00 04 01 02 03 04"},
	{"1 with 32", "60 01 00 01 00 40 02 00 00 40 03 00 04 01 02 03 04"},
	{"1 with 1", "41 01 00 01 00 40 02 00 00 40 03 00 04 01 02 03 04"},
	{"1 with 16", "50 01 00 01 00 40 02 00 00 40 03 00 04 01 02 03 04"},
	{"1 with 128", "c0 01 00 01 00 40 02 00 00 40 03 00 04 01 02 03 04"},
	{"2 of no number", "40 01 00 01 00 40 02 00 02 02 00 40 03 00 04 01 02 03 04"},
	{"2 of another segment", "40 01 00 01 00 40 02 00 06 03 01 00 00 00 01 40 03 00 04 01 02 03 04"},
	{"2 too short", "40 01 00 01 00 40 02 00 05 02 01 00 00 00 40 03 00 04 01 02 03 04"},
	{"3 too short", "40 01 00 01 00 40 02 00 00 40 03 00 03 01 02 03"},
	{"4 with 64", canonical + "c0 04 00 04 01 02 03 04"},
	{"4 too long", canonical + "80 04 00 05 01 02 03 04 05"},
	{"6 with a value", canonical + "40 06 00 01 00"},
	{"6 with 128", canonical + "c0 06 00 00"},
	{"7 too short", canonical + "c0 07 00 01 00"},
	{"7 without 128", canonical + "40 07 00 08 01 02 03 04 05 06 07 08"},
	{"8 of nothing", canonical + "c0 08 00 00"},
	{"8 of five bytes", canonical + "c0 08 00 05 01 02 03 04 05"},
	{"8 with 32", canonical + "e0 08 00 04 01 02 03 04"},
}

func TestAnnounceRefusesAttributes(t *testing.T) {
	for _, c := range uncanonical {
		checkAnnounce(t, c.what, unhex(t, c.attrs), prefixes{ten}, "", api.ErrArg)
	}
	for flags := range 256 {
		attrs := unhex(t, canonical) + string([]byte{byte(flags)}) + "\x63\x00\x00"
		if flags == 192 || flags == 224 {
			want := updating("", unhex(t, needed)+string([]byte{byte(flags)})+"\x63\x00", "\x08\x0a")
			checkAnnounce(t, "flags of an unknown one", attrs, prefixes{ten}, want, api.OK)
		} else {
			checkAnnounce(t, "flags of an unknown one", attrs, prefixes{ten}, "", api.ErrArg)
		}
	}
}

func TestAnnounceRefusesPrefixes(t *testing.T) {
	attrs := unhex(t, canonical)
	checkAnnounce(t, "nil", attrs, nil, "", api.ErrArg)
	checkAnnounce(t, "empty", attrs, prefixes{}, "", api.ErrArg)
	for _, p := range []api.Prefix{
		{Addr: 10<<24 | 1<<16, Len: 8}, {Addr: 1, Len: 0}, {Addr: 1, Len: 31}, {Addr: 1 << 31, Len: 0}, {Addr: 1 << 30, Len: 1},
		{Addr: 0, Len: 33}, {Addr: 0, Len: -1}, {Addr: 0, Len: 256}, {Addr: 0, Len: math.MaxInt}, {Addr: 0, Len: math.MinInt},
		{Addr: -1, Len: 32}, {Addr: -1 << 31, Len: 1}, {Addr: api.MaxAddr + 1, Len: 32}, {Addr: 1 << 32, Len: 0},
		{Addr: math.MaxInt, Len: 32}, {Addr: math.MinInt, Len: 0}, {Addr: math.MinInt, Len: math.MinInt},
	} {
		checkAnnounce(t, "no prefix", attrs, prefixes{p}, "", api.ErrArg)
		checkAnnounce(t, "no prefix at the end", attrs, prefixes{ten, ten, p}, "", api.ErrArg)
		checkAnnounce(t, "no prefix at the beginning", attrs, prefixes{p, ten}, "", api.ErrArg)
	}
}

func TestAnnounceLong(t *testing.T) {
	attrs := unhex(t, canonical)
	room := api.MaxMessage - len(updatingHex(t, "", needed, ""))
	zeros := make(prefixes, 70000)
	checkAnnounce(t, "the longest", attrs, zeros[:room], updating("", unhex(t, needed), strings.Repeat("\x00", room)), api.OK)
	checkAnnounce(t, "a byte too long", attrs, zeros[:room+1], "", api.ErrLong)
	checkAnnounce(t, "as long as makes two bytes begin anew", attrs, zeros[:1<<16-room], "", api.ErrLong)
	checkAnnounce(t, "far too long", attrs, zeros, "", api.ErrLong)
	unknown := func(n int) string { return attrs + "\xc0\x63" + twoBytes(n) + strings.Repeat("v", n) }
	most := room - len("\xc0\x63\x00\x00")
	checkAnnounce(t, "the longest value", unknown(most), prefixes{all},
		updating("", unhex(t, needed)+"\xc0\x63"+string([]byte{byte(most)})+strings.Repeat("v", most), "\x00"), api.OK)
	for _, n := range []int{most + 1, 255, 256, 65535} {
		checkAnnounce(t, "a value too long", unknown(n), prefixes{all}, "", api.ErrLong)
	}
	checkAnnounce(t, "too long and no prefix", attrs, append(zeros, api.Prefix{Addr: 1}), "", api.ErrArg)
	checkAnnounce(t, "too long and not canonical", unknown(300)+"\xc0", prefixes{ten}, "", api.ErrArg)
}

func TestAnnounceLeavesItsList(t *testing.T) {
	memory := prefixes{single, ten, all, tenOne}
	want := slices.Clone(memory)
	m, _ := routelog.Announce(unhex(t, canonical), memory[:2])
	if !slices.Equal(memory, want) {
		t.Errorf("the list was changed: %v", memory)
	}
	kept := strings.Clone(m)
	overwrite(memory)
	again, e := routelog.Announce(unhex(t, canonical), want[:2])
	if m != kept || again != kept || e != api.OK {
		t.Errorf("the list was kept: %x, %x, %d", m, again, e)
	}
}

// TestAnnounceOfChangedBytes: each byte of a canonical text is changed to each other one, and the text is cut at each place.
func TestAnnounceOfChangedBytes(t *testing.T) {
	attrs := unhex(t, "c0 00 00 00 40 01 00 01 00 40 02 00 06 02 01 00 00 00 07 40 03 00 04 01 02 03 04 c0 08 00 04 00 01 00 02 e0 63 00 01 07")
	for i := range len(attrs) {
		checkAnyAnnounce(t, attrs[:i])
		for v := range 256 {
			checkAnyAnnounce(t, attrs[:i]+string([]byte{byte(v)})+attrs[i+1:])
		}
	}
}

// checkAnyAnnounce checks what holds of the answers to all texts: an update tells what was announced.
func checkAnyAnnounce(t *testing.T, attrs string) {
	t.Helper()
	m, e := routelog.Announce(attrs, prefixes{ten, single})
	if (m == "") != (e != api.OK) || e != api.OK && e != api.ErrArg && e != api.ErrLong {
		t.Errorf("Announce(%x) = %x, %d", attrs, m, e)
	}
	if e == api.OK {
		checkUpdate(t, "announced", m, api.Change{Announced: prefixes{ten, single}, Attrs: attrs}, api.OK)
	}
}
