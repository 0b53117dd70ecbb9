package span

// peak is a vertex and a number that is told of it; the zero one is of no vertex.
type peak struct {
	n int64
	v int
}

// plus is the same vertex with so much more; of no vertex there is nothing to tell.
func (p peak) plus(more int64) peak {
	if p.v != 0 {
		p.n += more
	}
	return p
}

// greatest is the first of the greatest peaks.
func greatest(peaks ...peak) (best peak) {
	for _, p := range peaks {
		if best.v == 0 || p.v != 0 && p.n > best.n {
			best = p
		}
	}
	return best
}

// way is a distance and the two vertices that are so far apart; the zero one is of none.
type way struct {
	far  int64
	u, v int
}

// between is the way between two peaks' vertices, whose numbers together are its length.
func between(a, b peak) way {
	if a.v == 0 || b.v == 0 {
		return way{}
	}
	return way{far: a.n + b.n, u: a.v, v: b.v}
}

// farthest is the first of the longest ways. None is shorter than 0.
func farthest(ways ...way) (best way) {
	for _, w := range ways {
		if best.u == 0 || w.far > best.far {
			best = w
		}
	}
	return best
}

// stretch is what a place of a walk bears, or some places that stand one behind the other. A walk begins at its tree's root, goes down by an edge's weight where it leads away from there, and up by as much where it comes back. On the way between two vertices' places it is highest at the one where their paths to the root meet: so their distance is what both are below that one. Depths are counted from where the stretch begins.
type stretch struct {
	end    int64 // the depth at which it ends
	top    int64 // the least depth
	deep   peak  // a vertex's depth, the greatest
	before peak  // a vertex's depth less twice that of some place from it on, the greatest
	behind peak  // a vertex's depth less twice that of some place up to it, the greatest
	span   way   // two vertices' distance, the greatest
}

// vertex is what a vertex's place bears.
func vertex(v int) stretch {
	p := peak{v: v}
	return stretch{deep: p, before: p, behind: p, span: way{u: v, v: v}}
}

// down is what an edge's place bears where a walk goes down so far.
func down(by int64) stretch { return stretch{end: by, top: by} }

// Plus is what two bear together. Of ways that are as long, one from the first to the second one is told: so two vertices are, even where all weights are 0.
func (s stretch) Plus(o stretch) stretch {
	deep, top := o.deep.plus(s.end), o.top+s.end
	before, behind := o.before.plus(-s.end), o.behind.plus(-s.end)
	return stretch{
		end:    s.end + o.end,
		top:    min(s.top, top),
		deep:   greatest(s.deep, deep),
		before: greatest(s.before, s.deep.plus(-2*top), before),
		behind: greatest(s.behind, deep.plus(-2*s.top), behind),
		span:   farthest(between(s.before, deep), between(s.deep, behind), s.span, o.span),
	}
}
