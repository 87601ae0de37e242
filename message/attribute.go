package message

import (
	"cmp"
	"slices"

	"routelog/api"
	"routelog/number"
)

// The flags of attributes.
const (
	optional   = 128
	transitive = 64
	partial    = 32
	wide       = 16 // the value's length has two bytes
)

// The types that are known.
const (
	origin      = 1
	path        = 2
	nextHop     = 3
	metric      = 4
	aggregated  = 6
	aggregator  = 7
	communities = 8
)

// maxNarrow is the greatest length of a value that one byte can tell.
const maxNarrow = 255

type attribute struct {
	flags, kind int
	value       string
}

// flagsOf answers the flags that the table gives a known type.
func flagsOf(kind int) (flags int, known bool) {
	switch kind {
	case origin, path, nextHop, aggregated:
		return transitive, true
	case metric:
		return optional, true
	case aggregator, communities:
		return optional | transitive, true
	}
	return 0, false
}

// valueFits tells whether the value of a known type is as the table says.
func valueFits(kind int, value string) bool {
	switch kind {
	case origin:
		return len(value) == 1 && value[0] <= 2
	case path:
		return isPath(value)
	case nextHop, metric:
		return len(value) == 4
	case aggregated:
		return value == ""
	case aggregator:
		return len(value) == 8
	case communities:
		return value != "" && len(value)%4 == 0
	}
	return false
}

// isPath tells whether v is segments one behind the other.
func isPath(v string) bool {
segments:
	for len(v) >= 2 {
		end := 2 + 4*int(v[1])
		switch v[0] {
		case 1, 2:
			if end == 2 || len(v) < end {
				break segments
			}
			v = v[end:]
		default:
			break segments
		}
	}
	return v == ""
}

// hasNeeded tells whether the needed types are there, in a list in which no type is twice.
func hasNeeded(list []attribute) bool {
	n := 0
	for _, a := range list {
		switch a.kind {
		case origin, path, nextHop:
			n++
		}
	}
	return n == 3
}

// cutAttribute takes off the attribute that begins b; false, if b ends too early.
// The value's length has so many bytes.
func cutAttribute(b string, lengthSize int) (a attribute, rest string, whole bool) {
	begin := 2 + lengthSize
	if len(b) < begin {
		return attribute{}, "", false
	}
	end := begin + number.Read(b[2:begin])
	if len(b) < end {
		return attribute{}, "", false
	}
	return attribute{flags: int(b[0]), kind: int(b[1]), value: b[begin:end]}, b[end:], true
}

// lengthSize answers how many bytes the value's length has in an update, where the flags are these.
func lengthSize(flags int) int {
	if flags&wide != 0 {
		return 2
	}
	return 1
}

// readAttributes goes through the attributes of an update (P5): those that are kept, in the order of their types;
// whether the update is spoilt by one; ErrUpdate, if one ends the session.
func readAttributes(b string) (kept []attribute, spoilt bool, e api.Errno) {
	var seen [256]bool
attributes:
	for b != "" {
		a, rest, whole := cutAttribute(b, lengthSize(int(b[0])))
		if !whole {
			spoilt = true
			break attributes
		}
		b = rest
		if seen[a.kind] {
			continue attributes
		}
		seen[a.kind] = true
		flags, known := flagsOf(a.kind)
		switch {
		case known && a.flags&(optional|transitive) == flags && valueFits(a.kind, a.value):
			a.flags = flags
		case a.kind == aggregated, a.kind == aggregator:
			continue attributes
		case known:
			// Behind this one may still be one that ends the session.
			spoilt = true
			continue attributes
		case a.flags&optional == 0:
			return nil, false, api.ErrUpdate
		case a.flags&transitive == 0:
			continue attributes
		default:
			a.flags &= optional | transitive | partial
		}
		kept = append(kept, a)
	}
	slices.SortFunc(kept, func(a, b attribute) int { return cmp.Compare(a.kind, b.kind) })
	return kept, spoilt, api.OK
}

// writeAttributes answers attributes as the bytes of an update.
func writeAttributes(list ...attribute) string {
	var parts []string
	for _, a := range list {
		if len(a.value) > maxNarrow {
			a.flags |= wide
		}
		parts = append(parts, a.bytes(lengthSize(a.flags)))
	}
	return join(parts...)
}

// bytes answers an attribute as bytes, the value's length in so many of them.
func (a attribute) bytes(lengthSize int) string {
	return join(number.Write(a.flags, 1), number.Write(a.kind, 1), number.Write(len(a.value), lengthSize), a.value)
}
