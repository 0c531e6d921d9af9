package space

import (
	"slices"

	"tachograph/agg"
	"tachograph/api"
	"tachograph/graph"
	"tachograph/policy"
	"tachograph/series"
)

// Link makes a rule.
func (s *Space) Link(r graph.Rule) api.Errno {
	if e := s.Relink(r); e != api.OK {
		return e
	}
	s.keys[r.Dst].series.Del(0, api.MaxTime)
	all := s.keys[r.Src].series.Range(0, api.MaxTime)
	s.remake([]graph.Rule{r}, times(all))
	return api.OK
}

// Relink makes a rule, and no bucket.
func (s *Space) Relink(r graph.Rule) api.Errno {
	switch {
	case s.isNone():
		return api.ErrNil
	case !graph.Right(r):
		return api.ErrArg
	case !s.has(r.Src) || !s.has(r.Dst):
		return api.ErrNone
	}
	return s.rules.Add(r)
}

// Unlink takes a rule away.
func (s *Space) Unlink(src, dst string) api.Errno {
	if s.isNone() {
		return api.ErrNil
	}
	_, e := s.rules.Drop(src, dst)
	return e
}

// remake makes, by each of the rules, each closed bucket that has one of the times, which rise.
func (s *Space) remake(rules []graph.Rule, times []int) {
	for _, r := range rules {
		eachClosed(r, s.keys[r.Src].series, times, laying(r.Kind, s.keys[r.Dst].series))
	}
}

// laying is what a rule does with a bucket: what the samples in it make is laid where it begins, and what stands there is taken out, if there are none.
func laying(kind int, dst *series.Series) func(b int, l []api.Sample) {
	return func(b int, l []api.Sample) {
		v, ok := agg.Fold(kind, l)
		if !ok {
			dst.Del(b, b)
			return
		}
		dst.Add(api.Sample{T: b, V: v}, policy.Last) // what the destination does not retain any more is none of its buckets
	}
}

// eachClosed hands on each closed bucket of a rule that has one of the times, which rise: where it begins, and the source's samples in it.
func eachClosed(r graph.Rule, src *series.Series, times []int, do func(b int, l []api.Sample)) {
	starts := closed(r, src.Max(), times)
	if len(starts) == 0 {
		return
	}
	// a series is asked once, since it lays a copy of a whole chunk for a single sample
	l := src.Range(starts[0], agg.End(starts[len(starts)-1], r.Size, r.Align)-1)
	for _, b := range starts {
		do(b, within(l, b, agg.End(b, r.Size, r.Align)))
	}
}

// closed is where the closed buckets begin that have one of the times, which rise: each one once, rising.
func closed(r graph.Rule, greatest int, times []int) []int {
	open := agg.Start(greatest, r.Size, r.Align) // of -1, which is no time, 0: then none is closed
	var starts []int
	for _, t := range times {
		b := agg.Start(t, r.Size, r.Align)
		if agg.End(b, r.Size, r.Align) <= open && !endsWith(starts, b) {
			starts = append(starts, b)
		}
	}
	return starts
}

// endsWith tells whether a list's last number is n.
func endsWith(l []int, n int) bool {
	return len(l) > 0 && l[len(l)-1] == n
}

// within is the samples of rising times from b up to end, without that.
func within(l []api.Sample, b, end int) []api.Sample {
	first, _ := slices.BinarySearchFunc(l, b, byTime)
	last, _ := slices.BinarySearchFunc(l, end, byTime)
	return l[first:last]
}

// byTime holds a sample's time against another one.
func byTime(x api.Sample, t int) int {
	return x.T - t
}

// times is the samples' times.
func times(l []api.Sample) []int {
	var told []int
	for _, x := range l {
		told = append(told, x.T)
	}
	return told
}
