package message

// canonicalLength is how many bytes tell a value's length in canonical text.
const canonicalLength = 2

// writeCanonical answers attributes, which are in the order of their types, as canonical text.
func writeCanonical(list ...attribute) string {
	var parts []string
	for _, a := range list {
		parts = append(parts, a.bytes(canonicalLength))
	}
	return join(parts...)
}

// readCanonical answers the attributes of a canonical text; false, if it is none.
func readCanonical(text string) ([]attribute, bool) {
	var list []attribute
	last := -1
	for text != "" {
		a, rest, whole := cutAttribute(text, canonicalLength)
		if !whole || a.kind <= last || !isCanonical(a) {
			return nil, false
		}
		list = append(list, a)
		text, last = rest, a.kind
	}
	return list, hasNeeded(list)
}

// isCanonical tells whether an attribute may stand in a canonical text.
func isCanonical(a attribute) bool {
	flags, known := flagsOf(a.kind)
	if known {
		return a.flags == flags && valueFits(a.kind, a.value)
	}
	return a.flags == optional|transitive || a.flags == optional|transitive|partial
}
