// Package record: the log's records as bytes.
package record

import (
	"strings"

	"routelog/api"
	"routelog/message"
	"routelog/number"
)

// Where the parts of a record end; its sum stands behind the body.
const (
	timeEnd = 4
	kindAt  = timeEnd
	peerAt  = kindAt + 1
	peerEnd = peerAt + 1
	headEnd = peerEnd + 2
	sumSize = 4
)

// Where the parts of a route's body end.
const (
	lengthEnd  = 1
	addressEnd = lengthEnd + 4
)

// Scan answers the records that stand one behind the other from b's beginning, and how many bytes they have (P9).
func Scan(b string) ([]api.Record, int) {
	var l []api.Record
	n := 0
	for {
		r, size := First(b[n:])
		if size == 0 {
			return l, n
		}
		l = append(l, r)
		n += size
	}
}

// First answers the record that begins b, and how many bytes it has: 0, if there is none.
func First(b string) (api.Record, int) {
	if len(b) < headEnd {
		return api.Record{}, 0
	}
	bodyEnd := headEnd + number.Read(b[peerEnd:headEnd])
	end := bodyEnd + sumSize
	if len(b) < end || number.Read(b[bodyEnd:end]) != sum(b[:bodyEnd]) {
		return api.Record{}, 0
	}
	r := api.Record{
		Time: number.Read(b[:timeEnd]),
		Kind: int(b[kindAt]),
		Peer: int(b[peerAt]),
		// A copy doesn't hold on to all of the segment.
		Body: strings.Clone(b[headEnd:bodyEnd]),
	}
	if !isRecord(r) {
		return api.Record{}, 0
	}
	return r, end
}

// isRecord tells whether there may be a record of this kind, peer and body.
func isRecord(r api.Record) bool {
	if r.Peer >= api.Peers {
		return false
	}
	switch r.Kind {
	case api.Message:
		_, e := message.Update(r.Body)
		return e == api.OK
	case api.Up, api.Down:
		return r.Body == ""
	case api.Head, api.Body:
		return r.Peer == 0 && r.Body == ""
	case api.Route:
		_, ok := ReadRoute(r.Body)
		return ok
	}
	return false
}

// ReadRoute answers the route in the body of a Route; false, if there is none.
func ReadRoute(body string) (api.Entry, bool) {
	if len(body) < addressEnd {
		return api.Entry{}, false
	}
	e := api.Entry{
		Addr:  number.Read(body[lengthEnd:addressEnd]),
		Len:   number.Read(body[:lengthEnd]),
		Attrs: body[addressEnd:],
	}
	if !message.IsRoute(e) {
		return api.Entry{}, false
	}
	return e, true
}
