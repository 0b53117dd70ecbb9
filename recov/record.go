package recov

import (
	"skein/api"
	"skein/num"
)

// The kinds of the log's records.
const (
	kindChange  = 1
	kindDone    = 2
	kindGivenUp = 3
)

// Where in a page's sector things lie.
const (
	lsnAt     = 4
	contentAt = 12
)

// change is a change of a page: from a place in its sector on stood some bytes, and stand as many others.
type change struct {
	page, place int
	was, is     []byte
}

// difference is the change of the n-th page from these bytes to those; false if nothing differs.
func difference(n int, was, is []byte) (change, bool) {
	from, to := contentAt, api.Sector
	for from < to && was[from] == is[from] {
		from++
	}
	for from < to && was[to-1] == is[to-1] {
		to--
	}
	if from == to {
		return change{}, false
	}
	return change{page: n, place: from, was: was[from:to], is: is[from:to]}, true
}

// body is the body of the change's record.
func (c change) body() []byte {
	b := append(num.Put(uint64(c.page)), num.Put(uint64(c.place))...)
	b = append(b, num.PutText(c.was)...)
	return append(b, num.PutText(c.is)...)
}

// recordBytes is how many bytes of the log's stream a record with this body takes.
func recordBytes(body []byte) int { return 1 + len(num.PutText(body)) }

// parse reads a record of a store with so many pages: its change, or no change of a unit's end; false if it is none.
func parse(r api.Record, pages int) (change, bool) {
	var c change
	var n, place uint64
	var at, last int
	var e api.Errno

	if r.Kind == kindDone || r.Kind == kindGivenUp {
		return c, len(r.Body) == 0
	}
	if r.Kind != kindChange {
		goto none
	}
	n, at, e = num.Get(r.Body, 0)
	if e != api.OK || n >= uint64(pages) {
		goto none
	}
	place, at, e = num.Get(r.Body, at)
	if e != api.OK || place < contentAt || place >= api.Sector {
		goto none
	}
	c.page, c.place = int(n), int(place)
	c.was, at, e = num.GetText(r.Body, at, api.Sector-c.place)
	if e != api.OK || len(c.was) == 0 {
		goto none
	}
	c.is, at, e = num.GetText(r.Body, at, len(c.was))
	if e != api.OK || len(c.is) != len(c.was) || at != len(r.Body) {
		goto none
	}
	// A shorter row would hold all that differ.
	last = len(c.was) - 1
	if c.was[0] == c.is[0] || c.was[last] == c.is[last] {
		goto none
	}
	return c, true

none:
	return change{}, false
}
