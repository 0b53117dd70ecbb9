package mvcc

import (
	"testing"

	"skein/api"
)

// What is kept of commits is no more than those who are under way need.
func TestKept(t *testing.T) {
	x := New(0)
	kept := func(wanted int) {
		t.Helper()
		if len(x.commits) != wanted {
			t.Fatalf("%d are kept, want %d", len(x.commits), wanted)
		}
	}
	commit := func(ids ...int) {
		n, _ := x.Begin()
		for _, id := range ids {
			x.Touch(n, api.Ref{Id: id})
		}
		if _, e := x.Commit(n); e != api.OK {
			t.Fatalf("Commit = %d", e)
		}
	}
	commit(1, 2, 3)
	kept(0)
	first, _ := x.Begin()
	commit(1, 2)
	second, _ := x.Begin()
	commit(2, 3, 4)
	third, _ := x.Begin()
	kept(4)
	x.Abort(second)
	kept(4)
	x.Abort(first)
	kept(0)
	commit(5)
	kept(1)
	x.Commit(third)
	kept(0)
}
