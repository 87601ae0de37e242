package message

import "routelog/api"

// IsRoute tells whether an entry has a prefix and canonical attributes.
func IsRoute(e api.Entry) bool {
	_, canonical := readCanonical(e.Attrs)
	return canonical && arePrefixes(api.Prefix{Addr: e.Addr, Len: e.Len})
}
