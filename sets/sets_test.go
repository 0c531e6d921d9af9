package sets_test

import (
	"slices"
	"strings"
	"testing"

	"tachograph/sets"
)

// below tells whether one text is below another one, byte by byte.
func below(a, b string) bool {
	for i := range len(a) {
		if i == len(b) {
			return false // b begins a
		}
		if a[i] != b[i] {
			return a[i] < b[i]
		}
	}
	return len(a) < len(b)
}

// whole is what the chapter's words say that Of makes of a list: each text is put ahead of the first one that is above it, if it is not there.
func whole(l []string) []string {
	var all []string
	for _, s := range l {
		i := 0
		for i < len(all) && below(all[i], s) {
			i++
		}
		if i == len(all) || all[i] != s {
			all = slices.Insert(all, i, s)
		}
	}
	return all
}

// isIn tells whether a text is in a list.
func isIn(l []string, s string) bool {
	for _, x := range l {
		if x == s {
			return true
		}
	}
	return false
}

// those is the texts of a list of which something holds, each once, sorted.
func those(l []string, holds func(s string) bool) []string {
	var all []string
	for _, s := range whole(l) {
		if holds(s) {
			all = append(all, s)
		}
	}
	return all
}

// of is the words of a text.
func of(s string) []string {
	return strings.Fields(s)
}

// oddTexts is texts at the edges, sorted.
func oddTexts() []string {
	return []string{
		"", "\x00", "\x00\x00", "\x00a", "\x01", "A", "Z", "a", "a\x00", "a\x00b", "aa", "aaa", "ab", "a\x7f", "a\x80", "a\xff", "b", "ba",
		"\x7f", "\x7f\xff", "\x80", "\x80\x00", "\x80\x80", "\xc3", "\xc3\xa9", "\xe2\x82", "\xe2\x82\xac", "\xef\xbf\xbd", "\xf0\x9f\x98\x80", "\xfe", "\xff", "\xff\x00", "\xff\xff",
	}
}

// short is all lists of at most so many of some texts, each of them in each place.
func short(texts []string, most int) [][]string {
	all := [][]string{nil}
	from := 0
	for range most {
		to := len(all)
		for _, l := range all[from:to] {
			for _, s := range texts {
				all = append(all, append(slices.Clone(l), s))
			}
		}
		from = to
	}
	return all
}

// numbers is a row of numbers that look like chance, always the same of one seed.
func numbers(many int, seed uint64) []int {
	l := make([]int, many)
	x := 88172645463325252 + seed*2654435761
	for i := range l {
		x ^= x << 13
		x ^= x >> 7
		x ^= x << 17
		l[i] = int(x >> 20)
	}
	return l
}

// mixed is many texts in no order, many of them more than once.
func mixed(many int, seed uint64) []string {
	odd := oddTexts()
	var l []string
	for _, n := range numbers(many, seed) {
		l = append(l, odd[n%len(odd)]+odd[n>>8%len(odd)])
	}
	return l
}

// check holds a list that was told, of something, against the one that must be.
func check(t *testing.T, what string, got, want []string, of ...any) {
	t.Helper()
	if !slices.Equal(got, want) {
		t.Errorf("%s of %q: %q, want %q", what, of, got, want)
	}
}

// checkRight holds what Right tells against what it must.
func checkRight(t *testing.T, l []string, want bool) {
	t.Helper()
	if sets.Right(l) != want {
		t.Errorf("Right of %q: %v", l, !want)
	}
}

// checkOf holds what Of makes of a list against what it must, and Right against it.
func checkOf(t *testing.T, l, want []string) {
	t.Helper()
	got := sets.Of(l...)
	check(t, "Of", got, want, l)
	checkRight(t, got, true)
	check(t, "Of", sets.Of(got...), want, got)
}

// P8.1

func TestRightOfNoneAndOne(t *testing.T) {
	checkRight(t, nil, true)
	checkRight(t, []string{}, true)
	for _, s := range oddTexts() {
		checkRight(t, []string{s}, true)
	}
}

func TestRightOfTwo(t *testing.T) {
	odd := oddTexts()
	for i, a := range odd {
		for j, b := range odd {
			checkRight(t, []string{a, b}, i < j)
		}
	}
}

func TestRightOfMany(t *testing.T) {
	odd := oddTexts()
	checkRight(t, odd, true)
	for i := range odd {
		for j := range i {
			turned := slices.Clone(odd)
			turned[i], turned[j] = turned[j], turned[i]
			checkRight(t, turned, false)
			same := slices.Clone(odd)
			same[i] = same[j]
			checkRight(t, same, false)
		}
		checkRight(t, slices.Insert(slices.Clone(odd), i, odd[i]), false) // the same one twice
		checkRight(t, slices.Delete(slices.Clone(odd), i, i+1), true)
	}
	slices.Reverse(odd)
	checkRight(t, odd, false)
}

func TestRightOfPlainLists(t *testing.T) {
	for _, c := range []struct {
		l    string
		want bool
	}{
		{"a b c", true},
		{"a c b", false},
		{"b a c", false},
		{"a b b", false},
		{"a a b", false},
		{"a b a", false},
		{"a ab abc b", true},
		{"a abc ab b", false},
		{"10 9", true}, // by bytes, not as numbers
		{"9 10", false},
		{"B a", true}, // nor whatever the letters' cases
		{"a B", false},
		{"a z é", true},
		{"é z", false},
	} {
		checkRight(t, of(c.l), c.want)
	}
}

func TestOfNoneAndOne(t *testing.T) {
	check(t, "Of", sets.Of(), nil)
	checkOf(t, nil, nil)
	checkOf(t, []string{}, nil)
	for _, s := range oddTexts() {
		checkOf(t, []string{s}, []string{s})
	}
	check(t, "Of", sets.Of("b", "", "a"), []string{"", "a", "b"}, "b", "", "a")
}

func TestOfTwo(t *testing.T) {
	odd := oddTexts()
	for i, a := range odd {
		for j, b := range odd {
			switch {
			case i < j:
				checkOf(t, []string{a, b}, []string{a, b})
			case i > j:
				checkOf(t, []string{a, b}, []string{b, a})
			default:
				checkOf(t, []string{a, b}, []string{a})
			}
		}
	}
}

func TestOfEachOrder(t *testing.T) {
	odd := oddTexts()
	checkOf(t, odd, odd)
	turned := slices.Clone(odd)
	slices.Reverse(turned)
	checkOf(t, turned, odd)
	for step := range len(odd) { // 33 of them: a step that 3 and 11 don't part meets each one
		if step%3 == 0 || step%11 == 0 {
			continue
		}
		var l []string
		for i := range odd {
			l = append(l, odd[i*step%len(odd)])
		}
		checkOf(t, l, odd)
		checkOf(t, append(l, turned...), odd)
		checkOf(t, append(slices.Clone(odd), l...), odd)
	}
}

func TestOfTheSameTwice(t *testing.T) {
	odd := oddTexts()
	for i, s := range odd {
		checkOf(t, slices.Insert(slices.Clone(odd), i, s), odd) // side by side
		checkOf(t, append(slices.Clone(odd), s), odd)           // far apart
		checkOf(t, append([]string{s}, odd...), odd)
		checkOf(t, slices.Repeat([]string{s}, 100), []string{s})
	}
	checkOf(t, slices.Repeat(odd, 3), odd)
}

func TestOfMany(t *testing.T) {
	for seed := range 20 {
		l := mixed(50*seed, uint64(seed))
		checkOf(t, l, whole(l))
	}
	var l, want []string
	for n := range 50000 {
		s := string([]byte{byte(n >> 16), byte(n >> 8), byte(n)})
		l, want = append(l, s), append(want, s)
	}
	slices.Reverse(l)
	checkOf(t, append(l, l...), want)
}

// P8.2

// checkPair holds what And, Or and Less make of two lists against what they must.
func checkPair(t *testing.T, a, b []string) {
	t.Helper()
	check(t, "And", sets.And(a, b), those(a, func(s string) bool { return isIn(b, s) }), a, b)
	check(t, "Or", sets.Or(a, b), whole(slices.Concat(a, b)), a, b)
	check(t, "Less", sets.Less(a, b), those(a, func(s string) bool { return !isIn(b, s) }), a, b)
}

// checkText holds what Has, Add and Del make of a list and a text against what they must.
func checkText(t *testing.T, l []string, s string) {
	t.Helper()
	if sets.Has(l, s) != isIn(l, s) {
		t.Errorf("Has of %q and %q: %v", l, s, !isIn(l, s))
	}
	check(t, "Add", sets.Add(l, s), whole(append(slices.Clone(l), s)), l, s)
	check(t, "Del", sets.Del(l, s), those(l, func(x string) bool { return x != s }), l, s)
}

func TestPairsByExample(t *testing.T) {
	for _, c := range []struct{ a, b, and, or, less string }{
		{"a b", "b c", "b", "a b c", "a"}, // the chapter's own
		{"", "", "", "", ""},
		{"", "a b", "", "a b", ""},
		{"a b", "", "", "a b", "a b"},
		{"a b c", "a b c", "a b c", "a b c", ""},
		{"a c e", "b d f", "", "a b c d e f", "a c e"},
		{"b d f", "a c e", "", "a b c d e f", "b d f"},
		{"a b", "c d", "", "a b c d", "a b"},
		{"c d", "a b", "", "a b c d", "c d"},
		{"a b c d", "b c", "b c", "a b c d", "a d"},
		{"b c", "a b c d", "b c", "a b c d", ""},
		{"a b c", "a", "a", "a b c", "b c"},
		{"a b c", "c", "c", "a b c", "a b"},
		{"a ab b", "a abc b", "a b", "a ab abc b", "ab"},
		{"b a", "c b", "b", "a b c", "a"},   // none of both is sorted
		{"a b", "c b", "b", "a b c", "a"},   // one is
		{"b a", "b c", "b", "a b c", "a"},   // the other one is
		{"b a b a", "b b", "b", "a b", "a"}, // the same twice
		{"a a", "a a", "a", "a", ""},        // in order, but twice
		{"d c b a", "a c", "a c", "a b c d", "b d"},
	} {
		a, b := of(c.a), of(c.b)
		check(t, "And", sets.And(a, b), of(c.and), a, b)
		check(t, "Or", sets.Or(a, b), of(c.or), a, b)
		check(t, "Less", sets.Less(a, b), of(c.less), a, b)
		checkPair(t, a, b)
	}
}

func TestPairsOfAllShortLists(t *testing.T) {
	for _, texts := range [][]string{{"", "a", "ab", "b"}, {"\x7f", "\x80", "\xff", "\xff\x00"}} {
		lists := short(texts, 3) // sorted ones, and others
		for _, a := range lists {
			for _, b := range lists {
				checkPair(t, a, b)
			}
		}
	}
}

func TestPairsOfSortedLists(t *testing.T) {
	texts := []string{"", "\x00", "a", "aa", "b", "\x80", "\xff"}
	var lists [][]string
	for n := range 1 << len(texts) {
		var l []string
		for i, s := range texts {
			if n>>i&1 == 1 {
				l = append(l, s)
			}
		}
		lists = append(lists, l)
	}
	for _, a := range lists {
		for _, b := range lists {
			checkPair(t, a, b)
		}
	}
}

func TestPairsOfOneList(t *testing.T) {
	odd := oddTexts()
	for i := range odd {
		l := odd[i:]
		check(t, "And", sets.And(l, l), l, l, l)
		check(t, "Or", sets.Or(l, l), l, l, l)
		check(t, "Less", sets.Less(l, l), nil, l, l)
		checkPair(t, odd[:i], l)          // side by side in one room
		checkPair(t, odd[:i+1], l)        // with one in common
		checkPair(t, odd[i/2:i+1], l)     // and more
		checkPair(t, odd, odd[i/2:i])     // one within the other one
		checkPair(t, odd[i/2:i], odd)     // the other way round
		checkPair(t, odd[:0], odd[:i])    // with none
		checkPair(t, odd[:i], []string{}) // on either side
	}
}

func TestPairsOfMixedLists(t *testing.T) {
	for seed := range uint64(30) {
		a, b := mixed(int(seed*7), seed), mixed(int(200-seed*5), seed+100)
		for _, c := range [][2][]string{{a, b}, {b, a}, {a, a}, {whole(a), b}, {a, whole(b)}, {whole(a), whole(b)}, {a, nil}, {nil, b}} {
			checkPair(t, c[0], c[1])
		}
	}
}

func TestPairsOfLongLists(t *testing.T) {
	var a, b, and, or, less []string
	for n := range 60000 {
		s := string([]byte{byte(n >> 16), byte(n >> 8), byte(n)})
		inA, inB := n%2 == 0, n%3 == 0
		if inA {
			a = append(a, s)
		}
		if inB {
			b = append(b, s)
		}
		if inA && inB {
			and = append(and, s)
		}
		if inA || inB {
			or = append(or, s)
		}
		if inA && !inB {
			less = append(less, s)
		}
	}
	for range 2 { // sorted, and turned round then
		if !slices.Equal(sets.And(a, b), and) || !slices.Equal(sets.Or(a, b), or) || !slices.Equal(sets.Less(a, b), less) {
			t.Error("long lists")
		}
		slices.Reverse(a)
		slices.Reverse(b)
	}
}

func TestHas(t *testing.T) {
	odd := oddTexts()
	for i, s := range odd {
		for _, l := range [][]string{odd, odd[i:], odd[:i+1], odd[i : i+1]} { // between, ahead of all, behind all, alone
			if !sets.Has(l, s) {
				t.Errorf("%q is not in %q", s, l)
			}
		}
		for _, l := range [][]string{nil, {}, odd[:i], odd[i+1:], slices.Delete(slices.Clone(odd), i, i+1)} {
			if sets.Has(l, s) {
				t.Errorf("%q is in %q", s, l)
			}
		}
	}
	for _, s := range []string{"a ", "B", "c", "\u00ea", "\xff\xff\xff"} { // near to some, but none of them
		if sets.Has(odd, s) {
			t.Errorf("%q is there", s)
		}
	}
}

func TestHasOfListsThatAreNotSorted(t *testing.T) {
	l := of("d b e a b")
	for _, s := range of("a b d e") {
		if !sets.Has(l, s) {
			t.Errorf("%q is not there", s)
		}
	}
	for _, s := range []string{"", "c", "f", "A", "ab"} {
		if sets.Has(l, s) {
			t.Errorf("%q is there", s)
		}
	}
	turned := oddTexts()
	slices.Reverse(turned)
	for _, s := range turned {
		if !sets.Has(turned, s) {
			t.Errorf("%q is not there", s)
		}
	}
}

func TestAddAndDelByExample(t *testing.T) {
	for _, c := range []struct{ l, s, add, del string }{
		{"", "a", "a", ""},
		{"b", "a", "a b", "b"},
		{"b", "c", "b c", "b"},
		{"b", "b", "b", ""},
		{"b d", "a", "a b d", "b d"}, // ahead of all
		{"b d", "c", "b c d", "b d"}, // between two
		{"b d", "e", "b d e", "b d"}, // behind all
		{"b d", "b", "b d", "d"},
		{"b d", "d", "b d", "b"},
		{"b d f", "d", "b d f", "b f"},
		{"b d", "ba", "b ba d", "b d"},
		{"ba d", "b", "b ba d", "ba d"},
		{"d b", "c", "b c d", "b d"}, // not sorted
		{"d b", "b", "b d", "d"},
		{"d b", "x", "b d x", "b d"},
		{"b d b", "b", "b d", "d"}, // all of them
		{"b b", "b", "b", ""},
		{"b b", "c", "b c", "b"},
	} {
		check(t, "Add", sets.Add(of(c.l), c.s), of(c.add), c.l, c.s)
		check(t, "Del", sets.Del(of(c.l), c.s), of(c.del), c.l, c.s)
	}
}

func TestTextsOfAllShortLists(t *testing.T) {
	for _, texts := range [][]string{{"", "a", "ab", "b"}, {"\x7f", "\x80", "\xff", "\xff\x00"}} {
		for _, l := range short(texts, 4) {
			for _, s := range append(texts, "\x00", "aa", "abc", "c", "\xfe", "\xff\xff") {
				checkText(t, l, s)
			}
		}
	}
}

func TestTextsOfOddLists(t *testing.T) {
	odd := oddTexts()
	for i, s := range odd {
		checkText(t, odd, s)
		checkText(t, nil, s)
		without := slices.Delete(slices.Clone(odd), i, i+1)
		checkText(t, without, s)
		check(t, "Add", sets.Add(without, s), odd, without, s)
		check(t, "Del", sets.Del(odd, s), without, odd, s)
		slices.Reverse(without)
		check(t, "Add", sets.Add(without, s), odd, without, s)
	}
	for seed := range uint64(20) {
		l := mixed(40, seed)
		checkText(t, l, l[seed])
		checkText(t, l, "nobody")
		checkText(t, whole(l), l[seed])
		checkText(t, whole(l), "nobody")
	}
}

func TestAListThatGrowsAndShrinks(t *testing.T) {
	var l, was []string
	for _, s := range mixed(300, 7) {
		l = sets.Add(l, s)
		was = append(was, s)
		check(t, "Add", l, whole(was), was)
	}
	for len(was) > 0 {
		s := was[len(was)/2]
		l = sets.Del(l, s)
		was = those(was, func(x string) bool { return x != s })
		check(t, "Del", l, was, s)
	}
	check(t, "Del", l, nil, "all")
}
