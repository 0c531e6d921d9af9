package space

import (
	"tachograph/api"
	"tachograph/policy"
	"tachograph/series"
)

// Add adds a sample.
func (s *Space) Add(key string, x api.Sample, p int) api.Errno {
	to, e := s.writable(key)
	if e != api.OK {
		return e
	}
	return s.write(key, to, x, p)
}

// Incr adds to the last value.
func (s *Space) Incr(key string, t, by int) (int, api.Errno) {
	to, e := s.writable(key)
	if e != api.OK {
		return 0, e
	}
	sum, e := raised(to, t, by)
	if e != api.OK {
		return 0, e
	}
	if e := s.write(key, to, api.Sample{T: t, V: sum}, policy.Last); e != api.OK {
		return 0, e
	}
	return sum, api.OK
}

// raised is the last value of a series and a number more, if it may stand at t.
func raised(x *series.Series, t, by int) (int, api.Errno) {
	last, _ := x.Last() // the zero one, if there is none
	switch {
	case t < 0 || t >= api.MaxTime:
		return 0, api.ErrArg
	case last.T > t:
		return 0, api.ErrOld
	}
	return policy.Add(last.V, by)
}

// Del takes samples out.
func (s *Space) Del(key string, from, to int) (int, api.Errno) {
	x, e := s.writable(key)
	if e != api.OK {
		return 0, e
	}
	gone := times(x.Range(from, to))
	many := x.Del(from, to)
	s.remake(s.rules.Of(key), gone)
	return many, api.OK
}

// writable is the own series of a key that is not made, or why there is none.
func (s *Space) writable(key string) (*series.Series, api.Errno) {
	x, e := s.find(key)
	if e != api.OK {
		return nil, e
	}
	if _, made := s.rules.Into(key); made {
		return nil, api.ErrRule
	}
	return x, api.OK
}

// write adds a sample to a key's own series, and makes what the rules from the key make of that.
func (s *Space) write(key string, to *series.Series, x api.Sample, p int) api.Errno {
	ahead := to.Max()
	if e := to.Add(x, p); e != api.OK {
		return e
	}
	s.remake(s.rules.Of(key), touched(ahead, x.T))
	return api.OK
}

// touched is the times of which the buckets may be others behind a write at t: that of the Max ahead, too, if t is above it, since its bucket may be closed now. They rise.
func touched(ahead, t int) []int {
	if ahead >= 0 && ahead < t {
		return []int{ahead, t}
	}
	return []int{t}
}
