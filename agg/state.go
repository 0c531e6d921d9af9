package agg

import (
	"math"

	"tachograph/api"
	"tachograph/policy"
)

// State is what numbers make.
//
// It has no closure of its own, each call asks for its kind's: so a State that is copied as a value has nothing in common with the first one that either could change.
type State struct {
	kind      int // 0: one that New did not give
	many      int // how many numbers there are
	made      int // what they make; of Count and Range nothing
	low, high int // of Range the least one and the greatest one
}

// work is what a kind does.
type work struct {
	add   func(s *State, v int) // to the numbers that s has, if there are some
	value func(s *State) int    // of a state that has some
}

// workOf is what a right kind does.
func workOf(kind int) work {
	switch kind {
	case Sum:
		return joining(policy.Cap)
	case Min:
		return joining(func(made, v int) int { return min(made, v) })
	case Max:
		return joining(func(made, v int) int { return max(made, v) })
	case First:
		return joining(func(made, _ int) int { return made })
	case Last:
		return joining(func(_, v int) int { return v })
	case Range:
		return spanning()
	}
	return counting()
}

// joining makes one number of those ahead and of one more.
func joining(join func(made, v int) int) work {
	return work{
		add: func(s *State, v int) {
			if s.many > 0 {
				v = join(s.made, v)
			}
			s.made = v
		},
		value: func(s *State) int { return s.made },
	}
}

// spanning tells how far numbers lie apart.
func spanning() work {
	return work{
		add: func(s *State, v int) {
			if s.many == 0 {
				s.low, s.high = v, v
			}
			s.low, s.high = min(s.low, v), max(s.high, v)
		},
		value: func(s *State) int {
			if apart := s.high - s.low; apart >= 0 {
				return apart
			}
			return math.MaxInt // a difference beyond the end wraps round to below 0
		},
	}
}

// counting tells how many numbers there are, that a state of any kind knows.
func counting() work {
	return work{
		add:   func(*State, int) {},
		value: func(s *State) int { return s.many },
	}
}

// isNone tells of a state that is nil, or that New did not give.
func (s *State) isNone() bool {
	return s == nil || s.kind == 0
}

// New is one without numbers.
func New(kind int) (*State, api.Errno) {
	if !Right(kind) {
		return nil, api.ErrArg
	}
	return &State{kind: kind}, api.OK
}

// Add adds a number.
func (s *State) Add(v int) api.Errno {
	if s.isNone() {
		return api.ErrNil
	}
	workOf(s.kind).add(s, v)
	s.many++
	return api.OK
}

// Value is what they make.
func (s *State) Value() (int, bool) {
	if s.isNone() || s.many == 0 {
		return 0, false
	}
	return workOf(s.kind).value(s), true
}

// Len is how many there are.
func (s *State) Len() int {
	if s.isNone() {
		return 0
	}
	return s.many
}

// Copy is another one with the same.
func (s *State) Copy() *State {
	if s.isNone() {
		return nil
	}
	other := *s
	return &other
}
