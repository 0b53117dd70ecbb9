package store_test

import (
	"fmt"
	"maps"
	"math"
	"math/rand/v2"
	"slices"
	"strings"
	"testing"

	"skein/api"
	"skein/btree"
	"skein/disk"
	"skein/keys"
	"skein/num"
	"skein/recov"
	"skein/store"
)

// version is what a row has from a time on.
type version struct {
	time int64
	val  string
	gone bool
}

// table is a list of all versions: by a row's key its own, the oldest first.
type table struct {
	last int64
	rows map[string][]version
}

func noTable() table { return table{-1, map[string][]version{}} }

// applied is the table behind an Apply.
func (x table) applied(time int64, rows []api.Row) table {
	out := table{time, maps.Clone(x.rows)}
	for _, r := range rows {
		v := version{time: time, val: string(r.Val), gone: r.Gone}
		if r.Gone {
			v.val = ""
		}
		out.rows[string(r.Key)] = append(slices.Clone(out.rows[string(r.Key)]), v)
	}
	return out
}

// swept is the table behind a Sweep.
func (x table) swept(h int64) table {
	out := table{x.last, map[string][]version{}}
	for key, row := range x.rows {
		if n := unasked(row, h); n < len(row) {
			out.rows[key] = row[n:]
		}
	}
	return out
}

// unasked is how many of a row's versions no time from h on asks for.
func unasked(row []version, h int64) int {
	n := 0
	for i, v := range row {
		if v.time <= h {
			n = i
			if v.gone {
				n++
			}
		}
	}
	return n
}

// partly tells whether a table is one that a Sweep has been through in part: of each row the oldest ones are gone.
func (x table) partly(h int64, other table) bool {
	if other.last != x.last {
		return false
	}
	for key, row := range x.rows {
		left := other.rows[key]
		gone := len(row) - len(left)
		if gone < 0 || gone > unasked(row, h) || !slices.Equal(left, row[gone:]) {
			return false
		}
	}
	for key := range other.rows {
		if len(x.rows[key]) == 0 {
			return false
		}
	}
	return true
}

// same tells whether a table is the same one.
func (x table) same(other table) bool { return x.partly(-1, other) }

func (x table) count() int {
	n := 0
	for _, row := range x.rows {
		n += len(row)
	}
	return n
}

// get is what a row has at a time.
func (x table) get(key string, time int64) (string, bool) {
	var now version
	ok := false
	for _, v := range x.rows[key] {
		if v.time <= time {
			now, ok = v, !v.gone
		}
	}
	return now.val, ok
}

// scan is what a Scan has to answer.
func (x table) scan(low, high string, time int64) string {
	var out []api.Pair
	for _, key := range slices.Sorted(maps.Keys(x.rows)) {
		if val, ok := x.get(key, time); ok && key >= low && (high == "" || key < high) {
			out = append(out, api.Pair{Key: []byte(key), Val: []byte(val)})
		}
	}
	return told(out)
}

// pairs are what has to stand in the tree.
func (x table) pairs() string {
	out := map[string]string{}
	if x.last >= 0 {
		out["\x00"] = string(num.PutS(x.last))
	}
	for key, row := range x.rows {
		for _, v := range row {
			name, _ := keys.Version([]byte(key), v.time)
			out[string(name)] = "\x01" + v.val
			if v.gone {
				out[string(name)] = "\x00"
			}
		}
	}
	var list []api.Pair
	for _, key := range slices.Sorted(maps.Keys(out)) {
		list = append(list, api.Pair{Key: []byte(key), Val: []byte(out[key])})
	}
	return told(list)
}

// lies are the pairs of the tree that lies on a disk.
func lies(t *testing.T, d *disk.Disk, conf api.Conf) []api.Pair {
	t.Helper()
	pages, e := recov.Open(disk.Load(d.All()), conf)
	want(t, "recov.Open", e, api.OK)
	tree, e := btree.Open(pages)
	want(t, "btree.Open", e, api.OK)
	pairs, e := tree.Range(nil, nil, math.MaxInt)
	want(t, "Range", e, api.OK)
	return pairs
}

// tableOf is the table that lies on a disk.
func tableOf(t *testing.T, d *disk.Disk, conf api.Conf) table {
	t.Helper()
	out := noTable()
	pairs := lies(t, d, conf)
	slices.Reverse(pairs)
	for _, x := range pairs {
		if string(x.Key) == "\x00" {
			out.last, _, _ = num.GetS(x.Val, 0)
			continue
		}
		key, time, e := keys.Split(x.Key)
		want(t, "Split", e, api.OK)
		v := version{time, string(x.Val[1:]), x.Val[0] == 0}
		out.rows[string(key)] = append(out.rows[string(key)], v)
	}
	if got := told(lies(t, d, conf)); got != out.pairs() {
		t.Fatalf("in the tree stands %q, that is written as %q", got, out.pairs())
	}
	return out
}

const never = 1 << 40

// model is what a store has to tell.
type model struct {
	d       *disk.Disk
	s       *store.Store
	conf    api.Conf
	now     table
	doubt   func(table) bool // what else there may be behind the call of which a step was refused
	dead    bool
	failing int // the kind of the fate of the step that is to be refused
	fails   int // that step's number
	ends    map[api.Errno]int
}

// newModel is the model of a store on an empty disk.
func newModel(t *testing.T, sectors int, conf api.Conf) *model {
	t.Helper()
	m := &model{d: disk.New(sectors), conf: conf, now: noTable(), fails: never, ends: map[api.Errno]int{}}
	m.s = open(t, m.d, conf)
	return m
}

// refuse lets a step be refused that is so many further on.
func (m *model) refuse(after, kind int) {
	m.fails, m.failing = m.d.Steps()+1+after, kind
	m.d.Plan(api.Fate{Step: m.fails, Kind: kind})
}

// check holds a call's error against the one that is wanted if no step is refused. It tells whether the call went well.
func (m *model) check(t *testing.T, what string, e, wanted api.Errno) bool {
	t.Helper()
	switch {
	case m.dead:
		wanted = api.ErrDead
	case m.d.Steps() >= m.fails:
		m.dead = true
		wanted = refusal(m.failing)
	}
	m.ends[e]++
	want(t, what, e, wanted)
	if m.s.Dead() != m.dead || m.s.Last() != m.now.last && e != api.OK {
		t.Fatalf("behind %s Dead is %t, Last %d, want %t, %d", what, m.s.Dead(), m.s.Last(), m.dead, m.now.last)
	}
	return e == api.OK
}

// refusal is the error of a step that meets a fate.
func refusal(kind int) api.Errno {
	if kind == api.FFail {
		return api.ErrDisk
	}
	return api.ErrPower
}

// room is the error of a call for which there is no room, if it answers that and may: behind it the tree has at most so many pairs, and each of its units has at most so many Puts and Dels.
func (m *model) room(t *testing.T, e api.Errno, pairs, puts int) api.Errno {
	t.Helper()
	pages := m.d.Size() - m.conf.Log
	switch {
	case e == api.ErrDiskFull && pairs > (pages-6)/2, e == api.ErrLogFull && m.conf.Log < 200*puts:
		return e
	}
	return api.OK
}

// applyError is what is wrong with the arguments of an Apply.
func (m *model) applyError(time int64, rows []api.Row) api.Errno {
	if time < 0 || time > api.MaxTime {
		return api.ErrArg
	}
	if time <= m.now.last {
		return api.ErrStale
	}
	for i, r := range rows {
		if len(r.Key)+strings.Count(string(r.Key), "\x00") > 30 || !r.Gone && len(r.Val) > 99 {
			return api.ErrLong
		}
		for _, other := range rows[:i] {
			if string(other.Key) == string(r.Key) {
				return api.ErrArg
			}
		}
	}
	return api.OK
}

func (m *model) apply(t *testing.T, time int64, rows ...api.Row) bool {
	t.Helper()
	wanted := m.applyError(time, rows)
	e := m.s.Apply(time, rows...)
	if wanted == api.OK {
		wanted = m.room(t, e, m.now.count()+len(rows)+1, len(rows)+1)
	}
	if m.check(t, "Apply", e, wanted) {
		m.now = m.now.applied(time, rows)
		if m.s.Last() != time {
			t.Fatalf("behind an Apply at %d Last is %d", time, m.s.Last())
		}
	} else if m.dead && e != api.ErrDead {
		m.doubt = m.now.applied(time, rows).same
	}
	return e == api.OK
}

func (m *model) sweep(t *testing.T, h int64) {
	t.Helper()
	n, e := m.s.Sweep(h)
	wanted := api.OK
	if h < 0 || h > api.MaxTime {
		wanted = api.ErrArg
	} else {
		wanted = m.room(t, e, m.now.count()+1, 1)
	}
	before := m.now
	if m.check(t, "Sweep", e, wanted) {
		m.now = m.now.swept(h)
		if n != before.count()-m.now.count() {
			t.Fatalf("Sweep(%d) = %d, want %d", h, n, before.count()-m.now.count())
		}
		return
	}
	if n != 0 {
		t.Fatalf("Sweep(%d) = %d, %d", h, n, e)
	}
	may := func(x table) bool { return before.partly(h, x) }
	switch {
	case e == api.ErrDiskFull || e == api.ErrLogFull:
		if m.now = tableOf(t, m.d, m.conf); !may(m.now) {
			t.Fatalf("Sweep(%d) = %d has taken others away", h, e)
		}
	case m.dead && e != api.ErrDead:
		m.doubt = may
	}
}

func (m *model) get(t *testing.T, key string, time int64) {
	t.Helper()
	val, ok, e := m.s.Get([]byte(key), time)
	wanted, found := m.now.get(key, time)
	if !m.check(t, "Get", e, api.OK) {
		wanted, found = "", false
	}
	if string(val) != wanted || ok != found {
		t.Fatalf("Get(%q, %d) = %q, %t, want %q, %t", key, time, val, ok, wanted, found)
	}
}

func (m *model) scan(t *testing.T, low, high string, time int64) {
	t.Helper()
	pairs, e := m.s.Scan([]byte(low), []byte(high), time)
	wanted := m.now.scan(low, high, time)
	if !m.check(t, "Scan", e, api.OK) {
		wanted = ""
	}
	if told(pairs) != wanted {
		t.Fatalf("Scan(%q, %q, %d) = %q, want %q", low, high, time, told(pairs), wanted)
	}
}

func (m *model) versions(t *testing.T) {
	t.Helper()
	n, e := m.s.Versions()
	wanted := m.now.count()
	if !m.check(t, "Versions", e, api.OK) {
		wanted = 0
	}
	if n != wanted {
		t.Fatalf("Versions = %d, want %d", n, wanted)
	}
}

// same holds all that the store tells, and what lies in the tree, against the model.
func (m *model) same(t *testing.T) {
	t.Helper()
	m.versions(t)
	for _, time := range []int64{-1, m.now.last / 2, m.now.last - 1, m.now.last, math.MaxInt64} {
		m.scan(t, "", "", time)
	}
	if m.dead {
		return
	}
	if got := told(lies(t, m.d, m.conf)); got != m.now.pairs() {
		t.Fatalf("in the tree stands %q, want %q", got, m.now.pairs())
	}
}

// anew opens the disk anew, behind a crash or, if there is power, perhaps without one. A step of opening is refused so many times.
func (m *model) anew(t *testing.T, r *rand.Rand, refusals int) {
	t.Helper()
	for after := 0; ; after++ {
		m.d.Plan()
		if !m.d.Power() || r.IntN(2) == 0 {
			m.d.On(slices.DeleteFunc(m.d.Loose(), func(int) bool { return r.IntN(2) == 0 })...)
		}
		steps, kind := m.d.Steps(), 1+r.IntN(3)
		wanted := api.OK
		if after < refusals {
			m.refuse(after, kind)
		}
		s, e := store.Open(m.d, m.conf)
		if after < refusals && m.d.Steps() > steps+after {
			wanted = refusal(kind)
		}
		if e != wanted || (s == nil) != (e != api.OK) {
			t.Fatalf("Open = %v, %d, want %d", s, e, wanted)
		}
		if e == api.OK {
			m.s = s
			break
		}
	}
	m.d.Plan()
	m.fails = never
	m.opened(t)
}

// opened holds what is there behind an Open against what may be, and goes on with it.
func (m *model) opened(t *testing.T) {
	t.Helper()
	got := tableOf(t, m.d, m.conf)
	if !m.now.same(got) && (m.doubt == nil || !m.doubt(got)) {
		t.Fatalf("behind Open there is %q, want %q", got.pairs(), m.now.pairs())
	}
	m.now, m.doubt, m.dead = got, nil, false
	if m.s.Last() != got.last || m.s.Dead() {
		t.Fatalf("behind Open Last is %d, Dead %t, want %d", m.s.Last(), m.s.Dead(), got.last)
	}
	m.same(t)
}

// shape is what a run is like.
type shape struct {
	name               string
	pages, log, frames int
	keys               int // so many different ones
	most               int // so many rows are applied at once, at most
}

var shapes = []shape{
	{"wide", 400, 1000, 8, 14, 4},
	{"narrow", 7, 600, 2, 60, 2},
	{"narrowest", 2, 60, 1, 9, 3},
	{"shortLog", 200, 6, 3, 30, 4},
	{"mixed", 40, 25, 4, 60, 9},
	{"oneFrame", 60, 60, 1, 200, 12},
}

// someKeys are the keys of a run: a few odd ones, then any.
func someKeys(r *rand.Rand, n int) []string {
	out := []string{"", "\x00", "\x00\x00", "\x00\xff", "a", "a\x00", "\xff", strings.Repeat("k", 30), strings.Repeat("\x00", 15), strings.Repeat("k", 31), "\x00" + strings.Repeat("k", 29)}
	for len(out) < n+11 {
		key := make([]byte, r.IntN(30))
		for i := range key {
			key[i] = []byte{0, 1, 'k', 255}[r.IntN(4)]
		}
		if strings.Count(string(key), "\x00")+len(key) <= 30 {
			out = append(out, string(key))
		}
	}
	return out
}

// someRow is a row of a run; seldom one that is refused.
func someRow(r *rand.Rand, keys []string) api.Row {
	out := row(keys[r.IntN(len(keys))], strings.Repeat(string(rune('a'+r.IntN(26))), r.IntN(20)))
	switch r.IntN(12) {
	case 0:
		out.Val = make([]byte, 99)
	case 1:
		out.Val = nil
	case 2, 3, 4:
		out.Gone = true
	}
	if r.IntN(60) == 0 {
		out.Val = make([]byte, 100+r.IntN(3))
	}
	return out
}

// someTime is a time behind Last; seldom one that is refused.
func (m *model) someTime(r *rand.Rand) int64 {
	switch r.IntN(30) {
	case 0:
		return m.now.last - int64(r.IntN(3))
	case 1:
		return -1 - int64(r.IntN(2))
	case 2:
		return api.MaxTime + 1 + int64(r.IntN(2))
	}
	return m.now.last + 1 + int64(r.IntN(3)*r.IntN(3))
}

// call does one call.
func (m *model) call(t *testing.T, r *rand.Rand, x shape, keys []string) {
	t.Helper()
	key, other := keys[r.IntN(len(keys))], keys[r.IntN(len(keys))]
	time := r.Int64N(m.now.last+5) - 1
	switch k := r.IntN(30); {
	case k < 12:
		var rows []api.Row
		for range r.IntN(x.most + 1) {
			rows = append(rows, someRow(r, keys))
		}
		m.apply(t, m.someTime(r), rows...)
	case k < 18:
		m.get(t, key, time)
	case k < 20:
		m.scan(t, key, other, time)
	case k < 21:
		m.scan(t, key, "", time)
	case k < 22:
		m.scan(t, "", other, time)
	case k < 23:
		m.versions(t)
	case k < 25:
		m.sweep(t, time)
	case k < 26:
		m.sweep(t, []int64{-1, 0, m.now.last, api.MaxTime, api.MaxTime + 1}[r.IntN(5)])
	case k < 27:
		m.check(t, "Check", m.s.Check(), api.OK)
	case k < 28:
		m.scan(t, "", "", time)
	}
}

// P13.1, P13.2, P13.3: any calls in any order, steps that are refused, crashes of which any pending sectors persist, opening too.
func TestAnyCalls(t *testing.T) {
	for _, x := range shapes {
		t.Run(x.name, func(t *testing.T) {
			ends := map[api.Errno]int{}
			for seed := range uint64(8) {
				r := rand.New(rand.NewPCG(seed, 13))
				m := newModel(t, x.log+x.pages, api.Conf{Log: x.log, Frames: x.frames})
				m.ends = ends
				keys := someKeys(r, x.keys)
				for range 5 {
					if r.IntN(3) > 0 {
						m.refuse(r.IntN(120), 1+r.IntN(3))
					}
					for range 60 {
						m.call(t, r, x, keys)
					}
					m.same(t)
					m.anew(t, r, r.IntN(5))
				}
			}
			for _, e := range []api.Errno{api.OK, api.ErrArg, api.ErrLong, api.ErrStale, api.ErrDead, api.ErrPower, api.ErrDisk} {
				if ends[e] == 0 {
					t.Errorf("%d never came up", e)
				}
			}
			if full := ends[api.ErrDiskFull] > 0; full != (x.pages < 30) {
				t.Errorf("ErrDiskFull came up: %t", full)
			}
			if full := ends[api.ErrLogFull] > 0; full != (x.log < 60) {
				t.Errorf("ErrLogFull came up: %t", full)
			}
		})
	}
}

// P2: frames and seeds change nothing that is told; the same calls write the same bytes in the same steps.
func TestFramesChangeNothing(t *testing.T) {
	x := shape{"", 80, 40, 0, 40, 6}
	var wanted string
	for _, conf := range []api.Conf{{Frames: 1}, {Frames: 2}, {Frames: 2, Seeds: []int{7, 1}}, {Frames: 9, Sectors: 3}, {Frames: 64}} {
		conf.Log = x.log
		var before string
		for range 2 {
			r := rand.New(rand.NewPCG(5, 5))
			m := newModel(t, x.log+x.pages, conf)
			keys := someKeys(r, x.keys)
			for range 300 {
				m.call(t, r, x, keys)
			}
			got := fmt.Sprint(m.ends, m.now.pairs())
			if wanted != "" && got != wanted {
				t.Fatalf("%d frames: %q, want %q", conf.Frames, got, wanted)
			}
			wanted = got
			bytes := fmt.Sprint(m.d.Steps(), string(m.d.All()))
			if before != "" && bytes != before {
				t.Fatalf("%d frames: the disk is another one", conf.Frames)
			}
			before = bytes
		}
	}
}

// P13.1: as many rows as there may be, and as many versions of one.
func TestMany(t *testing.T) {
	m := newModel(t, 3000, api.Conf{Log: 1500, Frames: 8})
	r := rand.New(rand.NewPCG(3, 3))
	var rows []api.Row
	for _, i := range r.Perm(600) {
		rows = append(rows, row(fmt.Sprintf("%06d", i), fmt.Sprint(i)))
	}
	if !m.apply(t, 1, rows...) {
		t.Fatal("no room for the rows")
	}
	for i := range 600 {
		m.apply(t, int64(i+2), row("000300", fmt.Sprint(i)), goes(fmt.Sprintf("%06d", i)))
	}
	m.same(t)
	m.anew(t, r, 0)
	m.sweep(t, 300)
	m.same(t)
	m.sweep(t, 601)
	m.same(t)
	if m.now.count() != 1 {
		t.Errorf("%d versions are left", m.now.count())
	}
}

// A sweep has room in the log, however many versions it takes away.
func TestLongSweep(t *testing.T) {
	const many = 900
	m := newModel(t, 400+100, api.Conf{Log: 400, Frames: 8})
	for i := range many {
		m.apply(t, int64(i), row(fmt.Sprint("key ", i%7), strings.Repeat("v", i%60)))
	}
	for _, h := range []int64{many / 2, many} {
		m.sweep(t, h)
		m.same(t)
	}
	if m.now.count() != 7 || m.ends[api.ErrLogFull] > 0 {
		t.Errorf("%d versions are left, ErrLogFull came up %d times", m.now.count(), m.ends[api.ErrLogFull])
	}
}
