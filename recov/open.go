package recov

import (
	"iter"
	"maps"
	"slices"

	"skein/api"
	"skein/cache"
	"skein/crc"
	"skein/disk"
	"skein/page"
	"skein/wal"
)

// Open opens the store that lies on a disk.
func Open(d *disk.Disk, conf api.Conf) (*Store, api.Errno) {
	if conf.Log < 1 || conf.Log >= d.Size() {
		return nil, api.ErrArg
	}
	if e := makeLog(d, conf.Log); e != api.OK {
		return nil, e
	}
	l, records, e := wal.Open(d, 0, conf.Log)
	if e != api.OK {
		return nil, e
	}
	pages := d.Size() - conf.Log
	s := &Store{
		disk:  d,
		log:   l,
		pool:  cache.New(d, l, conf.Log, pages, conf.Frames),
		base:  conf.Log,
		pages: pages,
	}
	if e := s.replay(records); e != api.OK {
		return nil, e
	}
	e = s.Checkpoint()
	if e == api.ErrLogFull {
		return nil, api.ErrCorrupt
	}
	if e != api.OK {
		return nil, e
	}
	s.most = l.Room()
	return s, api.OK
}

// makeLog makes the log of a disk that has none.
func makeLog(d *disk.Disk, sectors int) api.Errno {
	b, e := d.Read(0)
	if e != api.OK || !isBlank(b) {
		return e
	}
	return wal.Format(d, 0, sectors)
}

// replay brings the pages to where the log's records tell that they are to be.
func (s *Store) replay(records []api.Record) api.Errno {
	for _, r := range records {
		if _, ok := parse(r, s.pages); !ok {
			return api.ErrCorrupt
		}
	}
	if e := s.settle(); e != api.OK {
		return e
	}
	for _, r := range records {
		if e := s.again(r); e != api.OK {
			return e
		}
	}
	return s.takeBack(s.log.End())
}

// settle makes safe what a step that was refused has left pending, if no crash came since. Else a crash might take the records and leave pages that are built on them, or take pages and leave the log without the records that tell of them.
func (s *Store) settle() api.Errno {
	if len(s.disk.Loose()) == 0 {
		return api.OK
	}
	return s.disk.Sync()
}

// again does again what a record tells of, which is known to be one.
func (s *Store) again(r api.Record) api.Errno {
	c, _ := parse(r, s.pages)
	switch r.Kind {
	case kindChange:
		return s.lay(c.page, r.LSN, row{c.place, c.is})
	case kindGivenUp:
		return s.takeBack(r.LSN)
	}
	return api.OK
}

// takeBack takes the changes of the unit back that ends at an LSN, which its pages get.
// A page is taken back at one go: if it left the pool half taken back, it would lie on the disk with the LSN of one that is done.
func (s *Store) takeBack(end int64) api.Errno {
	rows := map[int][]row{}
	for c := range s.backwards(end) {
		rows[c.page] = append(rows[c.page], row{c.place, c.was})
	}
	for _, n := range slices.Sorted(maps.Keys(rows)) {
		if e := s.lay(n, end, rows[n]...); e != api.OK {
			return e
		}
	}
	return api.OK
}

// backwards goes through the changes of the unit that ends at an LSN, the last one first.
func (s *Store) backwards(end int64) iter.Seq[change] {
	return func(yield func(change) bool) {
		for {
			r, ok := s.log.Back(end)
			if !ok || r.Kind != kindChange {
				return
			}
			c, _ := parse(r, s.pages)
			if !yield(c) {
				return
			}
			end = r.LSN
		}
	}
}

// row is bytes, and where in a page's sector they are to stand.
type row struct {
	place int
	bytes []byte
}

// lay lays rows over a page, one behind the other, and gives it an LSN; nothing if its own isn't below that.
func (s *Store) lay(n int, lsn int64, rows ...row) api.Errno {
	g, e := s.pool.Get(n)
	if e != api.OK {
		return s.meets(e)
	}
	if g.LSN() > s.log.End() {
		return api.ErrCorrupt
	}
	if g.LSN() >= lsn {
		return api.OK
	}
	b := g.Bytes()
	for _, r := range rows {
		copy(b[r.place:], r.bytes)
	}
	g, e = page.Parse(crc.Seal(b[lsnAt:]))
	if e != api.OK {
		return s.meets(e)
	}
	return s.meets(s.pool.Put(n, g, lsn))
}
