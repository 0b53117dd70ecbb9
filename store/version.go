package store

import (
	"bytes"
	"iter"
	"slices"

	"skein/api"
	"skein/keys"
	"skein/num"
)

// lastKey is the key in the tree of the greatest time that was applied. It stands ahead of all versions.
const lastKey = "\x00"

// What the value of a version begins with.
const (
	gone = 0
	has  = 1
)

// version says what a row has from a time on.
type version struct {
	key  []byte
	time int64
	val  []byte
	gone bool
}

func isTime(t int64) bool { return t >= 0 && t <= api.MaxTime }

// versionKey is the key in the tree of a row's version at a time, or at the nearest one that there is.
func versionKey(key []byte, t int64) []byte {
	b, _ := keys.Version(key, min(max(t, 0), api.MaxTime))
	return b
}

// aheadOfRow is a key in the tree behind which, or at which, a row's versions begin.
func aheadOfRow(key []byte) []byte { return versionKey(key, api.MaxTime) }

// behindRow is a key in the tree ahead of which a row's versions end.
func behindRow(key []byte) []byte { return append(versionKey(key, 0), 0) }

// pair is how a version stands in the tree.
func (v version) pair() api.Pair {
	x := api.Pair{Key: versionKey(v.key, v.time), Val: []byte{gone}}
	if !v.gone {
		x.Val = append([]byte{has}, v.val...)
	}
	return x
}

// parse reads a version.
func parse(x api.Pair) (version, bool) {
	key, t, e := keys.Split(x.Key)
	if e != api.OK || len(x.Val) == 0 {
		return version{}, false
	}
	switch x.Val[0] {
	case gone:
		return version{key: key, time: t, gone: true}, len(x.Val) == 1
	case has:
		return version{key: key, time: t, val: x.Val[1:]}, true
	}
	return version{}, false
}

// parseTable reads all pairs of a tree: the greatest time that was applied; false if they are no table.
func parseTable(pairs []api.Pair) (int64, bool) {
	last := int64(never)
	if len(pairs) > 0 && string(pairs[0].Key) == lastKey {
		t, end, e := num.GetS(pairs[0].Val, 0)
		if e != api.OK || end != len(pairs[0].Val) || !isTime(t) {
			return 0, false
		}
		last, pairs = t, pairs[1:]
	}
	for _, x := range pairs {
		if v, ok := parse(x); !ok || v.time > last {
			return 0, false
		}
	}
	return last, true
}

// written are rows as their versions at a time stand in the tree.
func written(t int64, rows []api.Row) ([]api.Pair, api.Errno) {
	var out []api.Pair
	seen := map[string]struct{}{}
	for _, r := range rows {
		x := version{key: r.Key, time: t, gone: r.Gone}
		if !r.Gone {
			x.val = r.Val
		}
		if len(x.val) > longest || len(versionKey(r.Key, t)) > api.MaxKeyLen {
			return nil, api.ErrLong
		}
		if _, ok := seen[string(r.Key)]; ok {
			return nil, api.ErrArg
		}
		seen[string(r.Key)] = struct{}{}
		out = append(out, x.pair())
	}
	return out, api.OK
}

// byRow goes through versions that stand in order row by row.
func byRow(all []version) iter.Seq[[]version] {
	return func(yield func([]version) bool) {
		for len(all) > 0 {
			n := 1
			for n < len(all) && bytes.Equal(all[n].key, all[0].key) {
				n++
			}
			if !yield(all[:n]) {
				return
			}
			all = all[n:]
		}
	}
}

// at is the place of a row's last version at or ahead of a time, or behind all if there is none.
func at(row []version, t int64) int {
	i := slices.IndexFunc(row, func(v version) bool { return v.time <= t })
	if i < 0 {
		return len(row)
	}
	return i
}

// valueAt is what a row has at a time.
func valueAt(row []version, t int64) ([]byte, bool) {
	i := at(row, t)
	if i == len(row) || row[i].gone {
		return nil, false
	}
	return row[i].val, true
}

// unasked are a row's versions that no time from one on asks for, the oldest first. One that says that the row goes is the last: what it hides is gone by then.
func unasked(row []version, from int64) []version {
	i := at(row, from)
	if i < len(row) && !row[i].gone {
		i++
	}
	out := slices.Clone(row[i:])
	slices.Reverse(out)
	return out
}
