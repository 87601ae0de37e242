package message

import (
	"routelog/api"
	"routelog/number"
)

// Update answers what an update changes (P4, P5).
func Update(m string) (api.Change, api.Errno) {
	n, kind, e := Frame(m)
	if e != api.OK || n != len(m) || kind != api.Updating {
		return api.Change{}, api.ErrFrame
	}
	withdrawn, attributes, announced, ok := parts(m[headSize:])
	if !ok {
		return api.Change{}, api.ErrUpdate
	}
	going, ok := readPrefixes(withdrawn)
	if !ok {
		return api.Change{}, api.ErrUpdate
	}
	coming, ok := readPrefixes(announced)
	if !ok {
		return api.Change{}, api.ErrUpdate
	}
	kept, spoilt, e := readAttributes(attributes)
	if e != api.OK {
		return api.Change{}, e
	}
	return change(going, coming, kept, spoilt), api.OK
}

// parts answers the three parts of an update's content; false, if it ends too early.
func parts(content string) (withdrawn, attributes, announced string, ok bool) {
	withdrawn, content, ok = cutPart(content)
	if !ok {
		return "", "", "", false
	}
	attributes, announced, ok = cutPart(content)
	return withdrawn, attributes, announced, ok
}

// cutPart takes off the bytes that begin b behind the two that tell how many they are; false, if b ends too early.
func cutPart(b string) (part, rest string, ok bool) {
	if len(b) < 2 {
		return "", "", false
	}
	end := 2 + number.Read(b[:2])
	if len(b) < end {
		return "", "", false
	}
	return b[2:end], b[end:], true
}

// change answers what an update of these parts changes.
func change(going, coming []api.Prefix, kept []attribute, spoilt bool) api.Change {
	if len(coming) == 0 {
		return api.Change{Withdrawn: going}
	}
	if spoilt || !hasNeeded(kept) {
		return api.Change{Withdrawn: append(going, coming...)}
	}
	return api.Change{Withdrawn: going, Announced: coming, Attrs: writeCanonical(kept...)}
}

// Announce answers the update that announces l with these attributes (P6).
func Announce(attrs string, l []api.Prefix) (string, api.Errno) {
	list, canonical := readCanonical(attrs)
	if !canonical || len(l) == 0 || !arePrefixes(l...) {
		return "", api.ErrArg
	}
	attributes := writeAttributes(list...)
	m := build(api.Updating, number.Write(0, 2), number.Write(len(attributes), 2), attributes, writePrefixes(l...))
	if len(m) > api.MaxMessage {
		return "", api.ErrLong
	}
	return m, api.OK
}
