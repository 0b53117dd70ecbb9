package index

import "skein/api"

func isId(id int) bool { return id >= 1 && id <= api.MaxId }

// right tells whether a question is of a kind that is answered here, and names ids.
func right(q api.Query) bool {
	switch q.Kind {
	case api.QJoined, api.QPathMax, api.QPathSum:
		return isId(q.U) && isId(q.V)
	case api.QSpan:
		return isId(q.U)
	case api.QWeight, api.QForest:
		return true
	}
	return false
}

// told is a sum that isn't too great to be told.
func told(sum int64, e api.Errno) (int64, api.Errno) {
	if sum > api.MaxSum {
		return 0, api.ErrOverflow
	}
	return sum, e
}

// along is what is told of a path, if its sum is.
func (x *Index) along(u, v int) (api.Agg, api.Errno) {
	path, e := x.least.Along(u, v)
	if _, e = told(int64(real(path.Sum)), e); e != api.OK {
		return api.Agg{}, e
	}
	return path, api.OK
}
