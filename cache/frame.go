package cache

import (
	"skein/api"
	"skein/page"
)

// find is the frame that holds a page; the page is taken into one, if it is in none.
func (p *Pool) find(n int) (*frame, api.Errno) {
	if p.dead {
		return nil, api.ErrDead
	}
	if n < 0 || n >= p.count {
		return nil, api.ErrArg
	}
	f, ok := p.holds[n]
	if !ok {
		var e api.Errno
		if f, e = p.take(n); e != api.OK {
			return nil, e
		}
	}
	p.turn++
	f.asked = p.turn
	return f, api.OK
}

// take takes a page into a frame. The page that was there leaves last of all: what is refused takes nothing out of the pool.
func (p *Pool) take(n int) (*frame, api.Errno) {
	f := p.leaver()
	if f == nil {
		return nil, api.ErrPinned
	}
	if e := p.clean(f); e != api.OK {
		return nil, e
	}
	g, e := p.read(n)
	if e != api.OK {
		return nil, e
	}
	if f.content != nil {
		delete(p.holds, f.number)
	}
	*f = frame{number: n, content: g}
	p.holds[n] = f
	return f, api.OK
}

// leaver is the frame that gets another page: of those that aren't pinned the one that was asked for longest ago, so a free one if there is any; nil if all are pinned.
func (p *Pool) leaver() *frame {
	var oldest *frame
	for i := range len(p.frames) {
		f := &p.frames[i]
		if f.pins == 0 && (oldest == nil || f.asked < oldest.asked) {
			oldest = f
		}
	}
	return oldest
}

// clean writes a frame's page, if it is dirty, and never ahead of the log.
func (p *Pool) clean(f *frame) api.Errno {
	if !f.dirty {
		return api.OK
	}
	e := api.OK
	if f.content.LSN() >= p.log.Safe() {
		e = p.log.Flush()
	}
	if e == api.OK {
		e = p.disk.Write(p.base+f.number, f.content.Bytes())
	}
	if e != api.OK {
		p.dead = true
		return e
	}
	f.dirty, p.unsynced = false, true
	return api.OK
}

// read is the page that the disk has.
func (p *Pool) read(n int) (*page.Page, api.Errno) {
	b, e := p.disk.Read(p.base + n)
	if e != api.OK {
		return nil, e
	}
	if [api.Sector]byte(b) == ([api.Sector]byte{}) {
		return page.New(0, 0), api.OK
	}
	return page.Parse(b)
}

// copyOf is a page of its own with the same content.
func copyOf(g *page.Page) *page.Page {
	c := page.New(g.Kind(), g.Extra())
	c.SetLSN(g.LSN())
	for i := range g.Len() {
		item, _ := g.Item(i)
		c.Insert(i, item)
	}
	return c
}
