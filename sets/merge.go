package sets

import "cmp"

// wanted is what is taken of two lists: what is in the first one alone, in the second one alone, in both.
type wanted struct{ first, second, both bool }

// merge is what is wanted of two sorted lists, sorted, in a list of its own.
func merge[T cmp.Ordered](a, b []T, w wanted) []T {
	var l []T
	for len(a) > 0 && len(b) > 0 {
		switch c := cmp.Compare(a[0], b[0]); {
		case c < 0:
			l = put(l, w.first, a[0])
			a = a[1:]
		case c > 0:
			l = put(l, w.second, b[0])
			b = b[1:]
		default:
			l = put(l, w.both, a[0])
			a, b = a[1:], b[1:]
		}
	}
	l = put(l, w.first, a...)
	return put(l, w.second, b...)
}

// put is a list with more behind it, if that is wanted.
func put[T any](l []T, wants bool, more ...T) []T {
	if !wants {
		return l
	}
	return append(l, more...)
}
