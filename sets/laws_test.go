package sets_test

import (
	"slices"
	"testing"

	"tachograph/sets"
)

// P8.3

// checkLaws holds what two lists become against the laws.
func checkLaws(t *testing.T, a, b []string) {
	t.Helper()
	check(t, "And", sets.And(a, b), sets.And(b, a), a, b)
	check(t, "Or", sets.Or(a, b), sets.Or(b, a), a, b)
	and, less := sets.And(a, b), sets.Less(a, b)
	for _, s := range a {
		if sets.Has(and, s) == sets.Has(less, s) {
			t.Errorf("%q of %q and %q: in both And and Less, or in none", s, a, b)
		}
	}
	check(t, "what is in both And and Less", sets.And(and, less), nil, a, b)
	check(t, "And and Less together", sets.Or(and, less), sets.Of(a...), a, b)
	check(t, "Or without the first one", sets.Less(sets.Or(a, b), a), sets.Less(b, a), a, b)
}

func TestLawsOfTwo(t *testing.T) {
	lists := short([]string{"", "a", "aa", "\x80"}, 3)
	for _, a := range lists {
		for _, b := range lists {
			checkLaws(t, a, b)
		}
	}
	for seed := range uint64(30) {
		checkLaws(t, mixed(int(10*seed), seed), mixed(150, seed+50))
	}
}

func TestLawsOfThree(t *testing.T) {
	lists := short([]string{"", "a", "\xff"}, 2)
	for seed := range uint64(5) {
		lists = append(lists, mixed(100, seed))
	}
	for _, a := range lists {
		for _, b := range lists {
			for _, c := range lists {
				check(t, "And", sets.And(sets.And(a, b), c), sets.And(a, sets.And(b, c)), a, b, c)
				check(t, "Or", sets.Or(sets.Or(a, b), c), sets.Or(a, sets.Or(b, c)), a, b, c)
			}
		}
	}
}

// R4, R5

// call is one call on lists and a text.
type call struct {
	name string
	do   func(a, b []string, s string) []string
}

// calls is all that answer lists.
func calls() []call {
	return []call{
		{"Of", func(a, b []string, s string) []string { return sets.Of(a...) }},
		{"And", func(a, b []string, s string) []string { return sets.And(a, b) }},
		{"Or", func(a, b []string, s string) []string { return sets.Or(a, b) }},
		{"Less", func(a, b []string, s string) []string { return sets.Less(a, b) }},
		{"Add", func(a, b []string, s string) []string { return sets.Add(a, s) }},
		{"Del", func(a, b []string, s string) []string { return sets.Del(a, s) }},
	}
}

// rooms is pairs of lists to hand in, each with room behind it.
func rooms() [][2][]string {
	return [][2][]string{
		{of("a b c d e f x x x"), of("b c d e f g x x x")},
		{of("f e d c b a x x x"), of("g f e d c b x x x")},
		{of("a b c a b c x x x"), of("d e d e f f x x x")},
		{of("a b c d e f x x x"), of("f e d c b a x x x")},
		{of("a a a b b b x x x"), of("a b c d e f x x x")},
	}
}

// scribble writes over a list, and over the room behind it.
func scribble(l []string) {
	l = l[:cap(l)]
	for i := range l {
		l[i] = "!"
	}
}

func TestListsAreLeftAlone(t *testing.T) {
	for _, c := range calls() {
		for _, room := range rooms() {
			a, b := slices.Clone(room[0]), slices.Clone(room[1])
			for i := range 7 {
				for j := range 7 {
					for _, s := range of("a c f z") {
						scribble(c.do(a[:i], b[:j], s))
						scribble(c.do(a[:i], a[:j], s)) // two lists of one room
						sets.Right(a[:i])
						sets.Has(a[:i], s)
						if !slices.Equal(a, room[0]) || !slices.Equal(b, room[1]) {
							t.Fatalf("%s of %d and %d and %s: %q and %q, and ahead of it %q", c.name, i, j, s, a, b, room)
						}
					}
				}
			}
		}
	}
}

func TestAnswersAreNewMemory(t *testing.T) {
	for _, c := range calls() {
		for _, room := range rooms() {
			for many := range 7 {
				a, b := slices.Clone(room[0][:many]), slices.Clone(room[1][:6])
				first, second := c.do(a, b, "c"), c.do(a, b, "c")
				want := slices.Clone(second)
				scribble(first)
				scribble(a) // nor is it kept
				scribble(b)
				check(t, c.name, second, want, room[0][:many], room[1])
				check(t, c.name, c.do(room[0][:many], room[1][:6], "c"), want, room[0][:many], room[1])
			}
		}
	}
}
