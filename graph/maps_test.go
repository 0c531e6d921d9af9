package graph

import (
	"slices"
	"strconv"
	"testing"
)

// checkMaps holds both maps against each other: each rule stands in both, and of a key that is no source any more nothing stays, which no call tells of.
func checkMaps(t *testing.T, what string, g *Graph) {
	t.Helper()
	many := 0
	for src, l := range g.from {
		many += len(l)
		if len(l) == 0 {
			t.Errorf("%s: %q stays without rules", what, src)
		}
		for _, r := range l {
			if r.Src != src || g.into[r.Dst] != r {
				t.Errorf("%s: from %q: %q to %q", what, src, r.Src, r.Dst)
			}
		}
	}
	for dst, r := range g.into {
		if r.Dst != dst || !slices.Contains(g.from[r.Src], r) {
			t.Errorf("%s: into %q: %q to %q", what, dst, r.Src, r.Dst)
		}
	}
	if many != len(g.into) {
		t.Errorf("%s: %d and %d rules", what, many, len(g.into))
	}
}

func TestBothMapsHaveTheSame(t *testing.T) {
	g := New()
	for i := range 400 {
		src, dst := "s"+strconv.Itoa(i*i%5), "d"+strconv.Itoa(i*7%11)
		switch i % 6 {
		case 0, 1, 2:
			g.Add(Rule{Src: src, Dst: dst, Kind: 1 + i%7, Size: 10, Align: i % 10})
		case 3:
			if l := g.Of(src); len(l) > 0 {
				g.Drop(src, l[i%len(l)].Dst)
			}
		case 4:
			g.Gone(dst)
			g.Of("never" + src)
			g.Into("never" + dst)
			g.Drop("never"+src, "never")
			g.Add(Rule{Src: "never" + src, Dst: dst})
		case 5:
			if i%5 == 0 {
				g.Gone(src)
			}
		}
		checkMaps(t, "step "+strconv.Itoa(i), g)
		checkMaps(t, "a copy", g.Copy())
	}
	for i, r := range g.All() {
		if i%2 == 0 {
			g.Drop(r.Src, r.Dst)
		} else {
			g.Gone(r.Dst)
		}
		checkMaps(t, "taken out", g)
	}
	if len(g.from) != 0 || len(g.into) != 0 {
		t.Errorf("without rules: %d and %d stay", len(g.from), len(g.into))
	}
}
