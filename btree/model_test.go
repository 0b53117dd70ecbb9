package btree_test

import (
	"bytes"
	"fmt"
	"maps"
	"math/rand/v2"
	"slices"
	"strings"
	"testing"

	"skein/api"
	"skein/btree"
	"skein/disk"
	"skein/num"
	"skein/recov"
)

// model is what a tree has to tell: a list of pairs by keys.
type model struct {
	d     *disk.Disk
	s     *recov.Store
	b     *btree.Tree
	conf  api.Conf
	safe  map[string]string // as of the units that are done
	now   map[string]string // as of the unit under way
	doubt map[string]string // as of the unit whose Commit a step refused; nil if none was
	full  int               // how often ErrDiskFull came up
	short int               // how often ErrLogFull came up
}

// newModel is the model of a tree on an empty disk.
func newModel(t *testing.T, sectors, log, frames int) *model {
	t.Helper()
	m := &model{conf: api.Conf{Log: log, Frames: frames}, safe: map[string]string{}, now: map[string]string{}}
	m.d, m.s, m.b = fresh(t, sectors, log, frames)
	return m
}

// between are the pairs of a model that a Range has to answer.
func between(pairs map[string]string, low, high string, most int) string {
	var out []api.Pair
	for _, key := range slices.Sorted(maps.Keys(pairs)) {
		if key >= low && (high == "" || key < high) && len(out) < most {
			out = append(out, api.Pair{Key: []byte(key), Val: []byte(pairs[key])})
		}
	}
	return told(out)
}

// same holds all of the tree against the model.
func (m *model) same(t *testing.T) {
	t.Helper()
	want(t, "Check", m.b.Check(), api.OK)
	ranges(t, m.b, "", "", all, between(m.now, "", "", all))
	m.taken(t)
}

// taken holds how many pages the tree takes against the bound: what is neither given back nor was ever taken.
func (m *model) taken(t *testing.T) {
	t.Helper()
	g, e := m.s.Read(0)
	want(t, "Read", e, api.OK)
	numbers, _ := g.Item(0)
	_, at, _ := num.Get(numbers, 0)
	_, at, _ = num.Get(numbers, at)
	fresh, _, _ := num.Get(numbers, at)
	taken := 0
	for n := range int(fresh) {
		g, e := m.s.Read(n)
		want(t, "Read", e, api.OK)
		if g.Kind() != kindFree {
			taken++
		}
	}
	if bound := 2*len(m.now) + 4; taken > bound {
		t.Fatalf("%d pairs take %d pages", len(m.now), taken)
	}
}

// put does a Put; false if the unit is to be given up.
func (m *model) put(t *testing.T, key, val string) bool {
	t.Helper()
	e := m.b.Put([]byte(key), []byte(val))
	old, found := m.now[key]
	m.now[key] = val
	if e == api.OK {
		return true
	}
	m.refused(t, e)
	if delete(m.now, key); found {
		m.now[key] = old
	}
	return false
}

// del does a Del.
func (m *model) del(t *testing.T, key string) bool {
	t.Helper()
	gone, e := m.b.Del([]byte(key))
	old, found := m.now[key]
	delete(m.now, key)
	if e == api.OK && gone == found {
		return true
	}
	if e == api.OK || gone {
		t.Fatalf("Del(%q) = %t, %d", key, gone, e)
	}
	m.refused(t, e)
	m.now[key] = old
	return false
}

// refused looks at the error of a Put or Del whose pairs, behind it, are those of the model.
func (m *model) refused(t *testing.T, e api.Errno) {
	t.Helper()
	switch e {
	case api.ErrDiskFull:
		m.full++
		if len(m.now) <= (m.s.Pages()-6)/2 {
			t.Fatalf("ErrDiskFull at %d pairs in %d pages", len(m.now), m.s.Pages())
		}
	case api.ErrLogFull:
		m.short++
		if m.conf.Log >= 200 {
			t.Fatal("ErrLogFull")
		}
	default:
		t.Fatalf("a Put or Del = %d", e)
	}
}

func (m *model) begin(t *testing.T) {
	t.Helper()
	want(t, "Begin", m.s.Begin(), api.OK)
	m.now = maps.Clone(m.safe)
}

func (m *model) commit(t *testing.T) {
	t.Helper()
	want(t, "Commit", m.s.Commit(), api.OK)
	m.safe = maps.Clone(m.now)
}

func (m *model) abort(t *testing.T) {
	t.Helper()
	want(t, "Abort", m.s.Abort(), api.OK)
	m.now = maps.Clone(m.safe)
}

// settle lets the power go, and some of the pending sectors persist.
func (m *model) settle(r *rand.Rand) {
	var keeps []int
	for _, n := range m.d.Loose() {
		if r.IntN(2) == 0 {
			keeps = append(keeps, n)
		}
	}
	m.d.On(keeps...)
}

// crash lets the power go; then all is opened anew.
func (m *model) crash(t *testing.T, r *rand.Rand) {
	t.Helper()
	m.settle(r)
	m.s = store(t, m.d, m.conf.Log, m.conf.Frames)
	m.b = open(t, m.s)
	if m.doubt != nil {
		pairs, e := m.b.Range(nil, nil, all)
		want(t, "Range", e, api.OK)
		if told(pairs) == between(m.doubt, "", "", all) {
			m.safe = m.doubt
		}
		m.doubt = nil
	}
	m.now = maps.Clone(m.safe)
}

// shape is what keys and values a run has.
type shape struct {
	name         string
	keys         int // so many different ones
	least, most  int // bytes of a key
	letters      int // so many different bytes in it
	value        int // at most so many bytes of a value
	sectors, log int
	frames       int
	front        string // what every key begins with
}

var shapes = []shape{
	{"short", 300, 0, 2, 256, 3, 120, 60, 3, ""},
	{"tiny", 900, 1, 2, 40, 0, 120, 60, 8, ""},
	{"long", 300, 38, 40, 3, 100, 320, 200, 4, ""},
	{"longest", 200, 40, 40, 4, 100, 320, 200, 1, ""},
	{"mixed", 250, 0, 40, 3, 100, 300, 200, 2, ""},
	{"longKeys", 400, 40, 40, 5, 0, 300, 200, 5, "all keys begin with these letters: "},
	{"longValues", 250, 1, 3, 20, 100, 300, 200, 64, ""},
	{"narrow", 200, 0, 40, 3, 100, 40, 20, 3, ""},
	{"narrowLog", 200, 0, 40, 3, 100, 200, 7, 2, ""},
}

// keysOf are the keys of a run.
func (x shape) keysOf(r *rand.Rand) []string {
	var out []string
	for range x.keys {
		n := x.least + r.IntN(x.most-x.least+1)
		key := x.front
		for len(key) < n {
			key += string([]byte{byte(r.IntN(x.letters) * 255 / max(x.letters-1, 1))})
		}
		out = append(out, key)
	}
	return out
}

// valueOf is one of the values of a run: often the longest one, or none.
func (x shape) valueOf(r *rand.Rand) string {
	n := r.IntN(x.value + 1)
	switch r.IntN(4) {
	case 0:
		n = x.value
	case 1:
		n = 0
	}
	return strings.Repeat(string(rune('a'+r.IntN(26))), n)
}

// P12.1, P12.2, P12.4: any calls in any order.
func TestAnyCalls(t *testing.T) {
	for _, x := range shapes {
		t.Run(x.name, func(t *testing.T) {
			for seed := range uint64(2) {
				r := rand.New(rand.NewPCG(seed, 12))
				m := newModel(t, x.sectors, x.log, x.frames)
				keys := x.keysOf(r)
				for round := range 90 {
					m.unit(t, r, x, keys, round/30%2 == 0)
				}
				m.same(t)
			}
		})
	}
}

// unit does a unit of some calls, in which the tree more likely grows, or shrinks.
func (m *model) unit(t *testing.T, r *rand.Rand, x shape, keys []string, grows bool) {
	t.Helper()
	m.begin(t)
	going := true
	for range 1 + r.IntN(12) {
		key := keys[r.IntN(len(keys))]
		switch k := r.IntN(8); {
		case k < 3 && grows, k < 1:
			going = m.put(t, key, x.valueOf(r))
		case k < 3:
			going = m.del(t, key)
		default:
			m.ask(t, r, key, keys[r.IntN(len(keys))])
			continue
		}
		if !going {
			m.stumble(t, r, keys)
			break
		}
		want(t, "Check", m.b.Check(), api.OK)
	}
	switch k := r.IntN(20); {
	case k == 0:
		m.crash(t, r)
	case k < 4 || !going:
		m.abort(t)
	default:
		m.commit(t)
	}
	m.same(t)
}

// ask asks for a key and for what stands between two.
func (m *model) ask(t *testing.T, r *rand.Rand, key, other string) {
	t.Helper()
	wanted, found := m.now[key]
	val, ok, e := m.b.Get([]byte(key))
	if string(val) != wanted || ok != found || e != api.OK {
		t.Fatalf("Get(%q) = %q, %t, %d, want %q, %t", key, val, ok, e, wanted, found)
	}
	most := r.IntN(30) - 1
	ranges(t, m.b, key, other, most, between(m.now, key, other, most))
	ranges(t, m.b, key, "", most, between(m.now, key, "", most))
}

// stumble goes on in a unit that is to be given up: nothing is promised but that each call ends.
func (m *model) stumble(t *testing.T, r *rand.Rand, keys []string) {
	t.Helper()
	for range r.IntN(10) {
		key := []byte(keys[r.IntN(len(keys))])
		m.b.Put(key, bytes.Repeat([]byte("s"), r.IntN(api.MaxValLen+1)))
		m.b.Del([]byte(keys[r.IntN(len(keys))]))
		m.b.Get(key)
		m.b.Range(nil, key, all)
		m.b.Check()
	}
}

// P2: the same calls write the same bytes in the same steps.
func TestSameCallsSameDisk(t *testing.T) {
	for _, x := range shapes {
		var wanted string
		for range 3 {
			r := rand.New(rand.NewPCG(7, 7))
			m := newModel(t, x.sectors, x.log, x.frames)
			keys := x.keysOf(r)
			for round := range 40 {
				m.unit(t, r, x, keys, round < 25)
			}
			got := fmt.Sprint(m.d.Steps(), string(m.d.All()))
			if wanted != "" && got != wanted {
				t.Fatalf("%s: the disk is another one", x.name)
			}
			wanted = got
		}
	}
}

// P12.1, P12.2: many keys, put and taken away in the orders of the keys and in another one.
func TestManyKeys(t *testing.T) {
	const many = 300
	rising := make([]string, many)
	for i := range rising {
		rising[i] = fmt.Sprintf("%0*d", 1+i%40, i)
	}
	slices.Sort(rising)
	falling := slices.Clone(rising)
	slices.Reverse(falling)
	mixed := slices.Clone(rising)
	rand.New(rand.NewPCG(5, 5)).Shuffle(many, func(i, j int) { mixed[i], mixed[j] = mixed[j], mixed[i] })
	orders := [][]string{rising, falling, mixed}
	for i, in := range orders {
		m := newModel(t, 600, 200, 40)
		for j, out := range orders {
			m.each(t, in, func(key string) bool { return m.put(t, key, key[:len(key)*j/2]) })
			m.each(t, out, func(key string) bool { return m.del(t, key) })
			if len(m.now) > 0 {
				t.Errorf("%d, %d: %d pairs are left", i, j, len(m.now))
			}
		}
	}
}

// each does a call for each key, in units of ten.
func (m *model) each(t *testing.T, keys []string, call func(key string) bool) {
	t.Helper()
	for part := range slices.Chunk(keys, 10) {
		m.begin(t)
		for _, key := range part {
			if !call(key) {
				t.Fatalf("at %q the unit is to be given up", key)
			}
		}
		m.commit(t)
		m.same(t)
	}
}
