package rows

import (
	"tachograph/agg"
	"tachograph/api"
)

// Fill is buckets, the empty ones among them.
func Fill(kind, size, align int, l []api.Sample) ([]api.Sample, api.Errno) {
	if !canFold(kind, size, align) || !areBuckets(size, align, l) {
		return nil, api.ErrArg
	}
	told := filled(kind, size, align, l)
	if len(told) > mostFilled {
		return nil, api.ErrBig
	}
	return told, api.OK
}

// areBuckets tells whether samples stand at beginnings of buckets, each one above the one ahead.
func areBuckets(size, align int, l []api.Sample) bool {
	for i, x := range l {
		// Start tells 0 of what is no time of a bucket, so that it is never its own beginning
		if agg.Start(x.T, size, align) != x.T || i > 0 && x.T <= l[i-1].T {
			return false
		}
	}
	return true
}

// filled is buckets with the empty ones between them, or too many of these: there can be 2^40, so that it ends behind the first one that is too many.
func filled(kind, size, align int, l []api.Sample) []api.Sample {
	var told []api.Sample
samples:
	for i, x := range l {
		told = append(told, x)
		v, ok := empty(kind, x.V)
		if !ok || i+1 == len(l) {
			continue
		}
		for b := agg.End(x.T, size, align); b < l[i+1].T; b = agg.End(b, size, align) {
			if len(told) > mostFilled {
				break samples
			}
			told = append(told, api.Sample{T: b, V: v})
		}
	}
	return told
}

// empty is the value of an empty bucket behind one with the value ahead, and whether a kind tells empty ones.
func empty(kind, ahead int) (int, bool) {
	switch kind {
	case agg.Sum, agg.Count:
		return 0, true
	case agg.Last:
		return ahead, true
	}
	return 0, false
}
