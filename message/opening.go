package message

import (
	"slices"

	"routelog/api"
	"routelog/number"
)

const (
	version        = 4
	identifier     = 1
	shortestHold   = 3 // but for 0, which is none
	capabilityList = 2 // the type of the parameters that hold capabilities
	wideSystem     = 65
	wideSystemSize = 4
)

// Where the parts of an opening's content end.
const (
	versionEnd    = 1
	systemEnd     = versionEnd + 2
	holdEnd       = systemEnd + 2
	identifierEnd = holdEnd + 4
	openingHead   = identifierEnd + 1
)

// Opening answers the message with which the collector begins a connection (P15).
func Opening() string {
	capability := field{kind: wideSystem, value: number.Write(api.System, wideSystemSize)}
	parameters := writeFields(field{kind: capabilityList, value: writeFields(capability)})
	return build(api.Opening,
		number.Write(version, versionEnd),
		number.Write(api.System, systemEnd-versionEnd),
		number.Write(api.Hold, holdEnd-systemEnd),
		number.Write(identifier, identifierEnd-holdEnd),
		number.Write(len(parameters), openingHead-identifierEnd),
		parameters,
	)
}

// ReadOpening answers the hold that the content of a peer's opening tells; false, if the content is not in order (P16).
func ReadOpening(content string) (hold int, ok bool) {
	if len(content) < openingHead || content[0] != version {
		return 0, false
	}
	hold = number.Read(content[systemEnd:holdEnd])
	if hold > 0 && hold < shortestHold {
		return 0, false
	}
	parameters := content[openingHead:]
	if len(parameters) != number.Read(content[identifierEnd:openingHead]) || !tellWideSystem(parameters) {
		return 0, false
	}
	return hold, true
}

// tellWideSystem tells whether b is parameters as they must be, among whose capabilities is the one that must be there.
func tellWideSystem(b string) bool {
	parameters, ok := readFields(b)
	if !ok {
		return false
	}
	found := false
	for _, p := range parameters {
		if p.kind != capabilityList {
			continue
		}
		capabilities, ok := readFields(p.value)
		if !ok {
			return false
		}
		found = found || slices.ContainsFunc(capabilities, isWideSystem)
	}
	return found
}

func isWideSystem(capability field) bool {
	return capability.kind == wideSystem && len(capability.value) == wideSystemSize
}
