package journal

import (
	"slices"
	"strconv"
	"strings"

	"routelog/disk"
)

const (
	mark       = 's' // begins a segment's name
	nameLength = 5
	noSegment  = "s0000"
)

// segments answers the names of a disk's segments, in the order of their numbers:
// that of the names, since each number has as many digits.
func segments(d *disk.Disk) []string {
	names, _ := d.List()
	return slices.DeleteFunc(names, func(name string) bool { return !isSegment(name) })
}

// isSegment tells whether a file of this name is a segment.
func isSegment(name string) bool {
	if len(name) != nameLength || name[0] != mark || name == noSegment {
		return false
	}
	for i := 1; i < nameLength; i++ {
		if name[i] < '0' || name[i] > '9' {
			return false
		}
	}
	return true
}

// nameOf answers the name of the segment of a number.
func nameOf(n int) string {
	digits := strconv.Itoa(n)
	return string(mark) + strings.Repeat("0", nameLength-1-len(digits)) + digits
}

// numberOf answers the number of the segment of a name.
func numberOf(name string) int {
	n, _ := strconv.Atoi(name[1:])
	return n
}
