package wal

import (
	"skein/api"
	"skein/crc"
	"skein/little"
)

// Where in a log sector things lie.
const (
	runAt  = 4
	usedAt = 12
	partAt = 14
)

const (
	partBytes = api.Sector - partAt // bytes of the stream in a sector
	firstRun  = 1
	lastRun   = 1 << 38
)

// sectorOf is the log sector of a run that bears a part of the stream.
func sectorOf(run int64, part []byte) []byte {
	var b [api.Sector]byte
	little.Put(b[runAt:usedAt], uint64(run))
	little.Put(b[usedAt:partAt], uint64(len(part)))
	copy(b[partAt:], part)
	return crc.Seal(b[runAt:])
}

// parse tells the run of a log sector and its part of the stream, or false if the bytes are no log sector.
func parse(b []byte) (int64, []byte, bool) {
	run, used := little.Get(b[runAt:usedAt]), little.Get(b[usedAt:partAt])
	// Ahead of the sum, which takes long: most sectors of a young log are empty.
	if run < firstRun || run > lastRun || used > partBytes {
		return 0, nil, false
	}
	if _, ok := crc.Open(b); !ok {
		return 0, nil, false
	}
	part, rest := b[partAt:partAt+used], b[partAt+used:]
	for _, c := range rest {
		if c != 0 {
			return 0, nil, false
		}
	}
	return int64(run), part, true
}
