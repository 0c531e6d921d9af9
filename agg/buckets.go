package agg

import "tachograph/api"

// canCut tells whether there are buckets of this size and alignment. (One that an alignment finds room in is not below 1.)
func canCut(size, align int) bool {
	return align >= 0 && align < size && size <= api.MaxTime
}

// canHold tells whether a time is one that a bucket can have: the end of all times, too.
func canHold(t int) bool {
	return t >= 0 && t <= api.MaxTime
}

// Start is where a time's bucket begins.
func Start(t, size, align int) int {
	if !canCut(size, align) || !canHold(t) || t < align {
		return 0
	}
	return t - (t-align)%size
}

// End is where a bucket ends.
func End(b, size, align int) int {
	if !canCut(size, align) || !canHold(b) {
		return 0
	}
	if b < align {
		return align // what is ahead of the alignment is a bucket by itself, shorter than the others
	}
	return Start(b, size, align) + size
}

// Buckets is what each bucket's samples make.
func Buckets(kind, size, align int, l []api.Sample) []api.Sample {
	if !Right(kind) || !canCut(size, align) || !canHoldAll(l) {
		return nil
	}
	var told []api.Sample
	for len(l) > 0 {
		many := together(size, align, l)
		v, _ := Fold(kind, l[:many])
		told = append(told, api.Sample{T: Start(l[0].T, size, align), V: v})
		l = l[many:]
	}
	return told
}

// canHoldAll tells whether the samples' times are such.
func canHoldAll(l []api.Sample) bool {
	for _, x := range l {
		if !canHold(x.T) {
			return false
		}
	}
	return true
}

// together is how many samples, of one or more, from the first one on stand in its bucket.
func together(size, align int, l []api.Sample) int {
	for i, x := range l {
		if Start(x.T, size, align) != Start(l[0].T, size, align) {
			return i
		}
	}
	return len(l)
}
