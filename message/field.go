package message

import "routelog/number"

// field is a parameter of an opening, or a capability: a byte tells its kind, and a byte the length of its value.
type field struct {
	kind  int
	value string
}

const fieldHead = 2

// readFields reads fields one behind the other to the end of b; false, if b is not that.
func readFields(b string) ([]field, bool) {
	var list []field
	for b != "" {
		if len(b) < fieldHead {
			return nil, false
		}
		end := fieldHead + int(b[1])
		if len(b) < end {
			return nil, false
		}
		list = append(list, field{kind: int(b[0]), value: b[fieldHead:end]})
		b = b[end:]
	}
	return list, true
}

// writeFields answers the bytes of fields one behind the other.
func writeFields(list ...field) string {
	var parts []string
	for _, f := range list {
		parts = append(parts, number.Write(f.kind, 1), number.Write(len(f.value), 1), f.value)
	}
	return join(parts...)
}
