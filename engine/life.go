package engine

import (
	"skein/api"
	"skein/graphdb"
)

// life is the time from one opening of the database to the next. The database counts its transactions from 1 on in each of them, so a life knows how many began ahead of it.
type life struct {
	*graphdb.DB     // nil if it couldn't be opened
	before      int // how many transactions began in earlier lives
	begun       int // how many began in this one
}

// next is the life behind a life, of a database that was opened anew.
func (l life) next(b *graphdb.DB) life { return life{DB: b, before: l.before + l.begun} }

// number is a transaction's number as the database has it: 0, which none has, if it began in an earlier life.
func (l *life) number(n int) int { return max(n, l.before) - l.before }

// begin begins a transaction: its number among those of all lives.
func (l *life) begin() (int64, api.Errno) {
	n, err := l.Begin()
	if err != api.OK {
		return 0, err
	}
	l.begun = n
	return int64(l.before + n), api.OK
}

// do does a step that is the database's.
func (l *life) do(s api.Step) api.Echo {
	n := l.number(s.N)
	switch s.Kind {
	case api.XBegin:
		begun, err := l.begin()
		return api.Echo{Err: err, N: begun}
	case api.XWrite:
		return api.Echo{Err: l.Write(n, s.Put)}
	case api.XAsk:
		a := l.Ask(n, s.Q)
		return api.Echo{Err: a.Err, Ans: a}
	case api.XCommit:
		time, err := l.Commit(n)
		return api.Echo{Err: err, N: time}
	case api.XAbort:
		return api.Echo{Err: l.Abort(n)}
	case api.XCheck:
		return api.Echo{Err: l.Check()}
	}
	count, err := l.Sweep()
	return api.Echo{Err: err, N: int64(count)}
}
