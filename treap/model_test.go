package treap_test

import (
	"math/rand/v2"
	"slices"
	"strings"
	"testing"

	"skein/api"
	"skein/treap"
)

// model is what a rope has to tell: rows as lists, and what each node bears.
type model struct {
	r     *treap.Rope[text]
	rows  [][]int
	own   []text
	fails map[api.Errno]int
}

// at is where a node stands: in which row, behind how many; false if there is none.
func (m *model) at(a int) (row, i int, ok bool) {
	for row := range m.rows {
		if i := slices.Index(m.rows[row], a); i >= 0 {
			return row, i, true
		}
	}
	return 0, 0, false
}

func (m *model) all(row []int) text {
	var all text
	for _, a := range row {
		all += m.own[a-1]
	}
	return all
}

// letter is what a node may bear; the sum of such may be long, so they are mostly one letter.
func letter(r *rand.Rand) text {
	return text([]string{"a", "b", "c", "d", "", "xy"}[r.IntN(6)])
}

func (m *model) make(t *testing.T, v text) {
	t.Helper()
	a, e := m.r.Make(v)
	m.own = append(m.own, v)
	m.rows = append(m.rows, []int{len(m.own)})
	got(t, "Make", a, e, len(m.own))
}

func (m *model) set(t *testing.T, a int, v text) {
	t.Helper()
	wanted := api.ErrNode
	if _, _, ok := m.at(a); ok {
		wanted = api.OK
		m.own[a-1] = v
	}
	m.fails[wanted]++
	want(t, "Set", m.r.Set(a, v), wanted)
}

func (m *model) join(t *testing.T, a, b int) {
	t.Helper()
	row, _, there := m.at(a)
	other, _, both := m.at(b)
	wanted := api.OK
	switch {
	case !there || !both:
		wanted = api.ErrNode
	case row == other:
		wanted = api.ErrLink
	default:
		m.rows[row] = slices.Concat(m.rows[row], m.rows[other])
		m.rows = slices.Delete(m.rows, other, other+1)
	}
	m.fails[wanted]++
	want(t, "Join", m.r.Join(a, b), wanted)
}

func (m *model) cut(t *testing.T, a int) {
	t.Helper()
	row, i, ok := m.at(a)
	wanted := api.ErrNode
	if ok {
		wanted = api.OK
	}
	if i > 0 {
		m.rows = append(m.rows, slices.Clone(m.rows[row][i:]))
		m.rows[row] = m.rows[row][:i]
	}
	m.fails[wanted]++
	want(t, "Cut", m.r.Cut(a), wanted)
}

// same holds what is told of a node against the model.
func (m *model) same(t *testing.T, a, b int) {
	t.Helper()
	in, i, _ := m.at(a)
	row := m.rows[in]
	v, e := m.r.Value(a)
	got(t, "Value", v, e, m.own[a-1])
	v, e = m.r.All(a)
	got(t, "All", v, e, m.all(row))
	n, e := m.r.Index(a)
	got(t, "Index", n, e, i)
	n, e = m.r.Size(a)
	got(t, "Size", n, e, len(row))
	n, e = m.r.At(a, b%len(row))
	got(t, "At", n, e, row[b%len(row)])
	n, e = m.r.At(a, len(row))
	fails(t, "At", n, e, api.ErrArg)
	if list, e := m.r.List(a); e != api.OK || !slices.Equal(list, row) {
		t.Fatalf("List(%d) = %v, %d, want %v", a, list, e, row)
	}
	other, _, _ := m.at(b)
	same, e := m.r.Same(a, b)
	got(t, "Same", same, e, in == other)
	for _, letter := range []string{"a", "y", "z"} {
		first := 0
		if i := slices.IndexFunc(row, func(a int) bool { return strings.Contains(string(m.own[a-1]), letter) }); i >= 0 {
			first = row[i]
		}
		n, e = m.r.Seek(a, func(v text) bool { return strings.Contains(string(v), letter) })
		got(t, "Seek", n, e, first)
	}
}

func (m *model) call(t *testing.T, r *rand.Rand, most int) {
	t.Helper()
	a, b := r.IntN(len(m.own)+1)+r.IntN(2), r.IntN(len(m.own)+1)+r.IntN(2)
	switch r.IntN(8) {
	case 0:
		if len(m.own) < most {
			m.make(t, letter(r))
		}
	case 1:
		m.set(t, a, letter(r))
	case 2, 3, 4, 5:
		m.join(t, a, b)
	case 6, 7:
		m.cut(t, a)
	}
}

// P15.1: any calls in any order, whatever chance says.
func TestAnyCalls(t *testing.T) {
	seen := map[api.Errno]int{}
	for name, seeds := range manySeeds() {
		for run := range uint64(8) {
			r := rand.New(rand.NewPCG(run, 15))
			m := &model{r: treap.New[text](seeds...), fails: seen}
			most := []int{3, 12, 60}[run%3]
			for range 400 {
				m.call(t, r, most)
				if len(m.own) == 0 {
					continue
				}
				for range 6 {
					m.same(t, 1+r.IntN(len(m.own)), 1+r.IntN(len(m.own)))
				}
				if t.Failed() {
					t.Fatalf("seeds %s, run %d", name, run)
				}
			}
			for a := range m.own {
				for b := range m.own {
					m.same(t, a+1, b+1)
				}
			}
		}
	}
	for _, e := range []api.Errno{api.OK, api.ErrNode, api.ErrLink} {
		if seen[e] < 100 {
			t.Errorf("%d came up %d times", e, seen[e])
		}
	}
}
