package index_test

import (
	"slices"
	"strconv"
	"strings"
	"testing"

	"tachograph/api"
	"tachograph/index"
)

// of is the labels of a text: name=value, and a blank ahead of the next one.
func of(s string) []api.Label {
	var l []api.Label
	for _, w := range strings.Fields(s) {
		name, value, _ := strings.Cut(w, "=")
		l = append(l, api.Label{Name: name, Value: value})
	}
	return l
}

// pile is what an index must have: keys with their labels, in no order.
type pile []entry

// entry is a key with its labels.
type entry struct {
	key string
	l   []api.Label
}

// without is a pile without a key.
func (p pile) without(key string) pile {
	var o pile
	for _, e := range p {
		if e.key != key {
			o = append(o, e)
		}
	}
	return o
}

// with is a pile with a key that has just these labels.
func (p pile) with(key string, l []api.Label) pile {
	return append(p.without(key), entry{key, slices.Clone(l)})
}

// keys is the keys of a pile that have a label of which something holds; all of them, if it is nil.
func (p pile) keys(holds func(l api.Label) bool) []string {
	var all []string
	for _, e := range p {
		has := holds == nil
		for _, l := range e.l {
			has = has || holds(l)
		}
		if has {
			all = append(all, e.key)
		}
	}
	slices.Sort(all)
	return all
}

// labels is those of a key, by their names.
func (p pile) labels(key string) []api.Label {
	var all []api.Label
	for _, e := range p {
		if e.key == key {
			all = append(all, e.l...)
		}
	}
	slices.SortFunc(all, func(a, b api.Label) int { return strings.Compare(a.Name, b.Name) })
	return all
}

// size is how many labels all keys have.
func (p pile) size() int {
	many := 0
	for _, e := range p {
		many += len(e.l)
	}
	return many
}

// has tells whether a key is there.
func (p pile) has(key string) bool {
	return slices.Contains(p.keys(nil), key)
}

// asked is what an index is asked: keys, names and values.
type asked struct{ keys, names, values []string }

// checkList holds keys that were told against those that must be.
func checkList(t *testing.T, what string, got, want []string) {
	t.Helper()
	if !slices.Equal(got, want) {
		t.Errorf("%s: %q, want %q", what, got, want)
	}
}

// checkLabels holds labels that were told against those that must be.
func checkLabels(t *testing.T, what string, got, want []api.Label) {
	t.Helper()
	if !slices.Equal(got, want) {
		t.Errorf("%s: %q, want %q", what, got, want)
	}
}

// checkError holds an error against the one that must be.
func checkError(t *testing.T, what string, got, want api.Errno) {
	t.Helper()
	if got != want {
		t.Errorf("%s: error %d, want %d", what, got, want)
	}
}

// checkIndex holds all that an index tells against a pile.
func checkIndex(t *testing.T, what string, x *index.Index, p pile, a asked) {
	t.Helper()
	checkList(t, what+": Keys", x.Keys(), p.keys(nil))
	if got, want := x.Size(), p.size(); got != want {
		t.Errorf("%s: Size %d, want %d", what, got, want)
	}
	for _, key := range a.keys {
		if got, want := x.Has(key), p.has(key); got != want {
			t.Errorf("%s: Has %q: %v", what, key, got)
		}
		checkLabels(t, what+": Labels "+strconv.Quote(key), x.Labels(key), p.labels(key))
	}
	for _, name := range a.names {
		want := p.keys(func(l api.Label) bool { return l.Name == name })
		checkList(t, what+": With "+strconv.Quote(name), x.With(name), want)
		for _, value := range a.values {
			want := p.keys(func(l api.Label) bool { return l == api.Label{Name: name, Value: value} })
			checkList(t, what+": Find "+strconv.Quote(name)+" "+strconv.Quote(value), x.Find(name, value), want)
		}
	}
}

// few is what indexes of short names are asked, and odd things as well.
func few() asked {
	long := strings.Repeat("k", 65)
	l := []string{"a", "b", "c", "d", "x", "y", "z", "1", "2", "3", "", "A", "X", "aa", "é", "\x00", "\xff", long[:64], long}
	return asked{l, l, l}
}

// lengths is texts of so many bytes, each of another kind of bytes.
func lengths(many int) []string {
	var l []string
	for _, s := range []string{"a", "Z9_", " ", "\x00", "\x7f", "\x80", "\xff", "é", "\xf0\x9f\x98\x80", "\xe2\x82", "\xc3\x28", "=,()\r\n"} {
		l = append(l, strings.Repeat(s, many/len(s)+1)[:many])
	}
	return l
}

// numbered is so many labels of names that differ.
func numbered(many int) []api.Label {
	var l []api.Label
	for i := range many {
		l = append(l, api.Label{Name: "n" + strconv.Itoa(i), Value: "v"})
	}
	return l
}

// P9.1

func TestKey(t *testing.T) {
	for _, many := range []int{0, 1, 2, 3, 31, 32, 33, 62, 63, 64, 65, 66, 127, 128, 129, 256, 257, 320, 1 << 16} {
		for _, s := range lengths(many) {
			if got, want := index.Key(s), many >= 1 && many <= 64; got != want {
				t.Errorf("Key of %d bytes, %.20q: %v", many, s, got)
			}
		}
	}
}

func TestKeyOfEachByte(t *testing.T) {
	for b := range 256 {
		if s := string([]byte{byte(b)}); !index.Key(s) {
			t.Errorf("Key of %q: no", s)
		}
	}
}

func TestKeyCountsBytes(t *testing.T) {
	if !index.Key(strings.Repeat("é", 32)) {
		t.Error("32 runes of two bytes are 64 bytes")
	}
	if index.Key(strings.Repeat("é", 33)) {
		t.Error("33 runes of two bytes are 66 bytes")
	}
}

// checkRight holds what Right tells, and Set, against what they must.
func checkRight(t *testing.T, l []api.Label, want bool) {
	t.Helper()
	if index.Right(l) != want {
		t.Errorf("Right of %q: %v", l, !want)
	}
	e, left := api.ErrArg, pile{}
	if want {
		e, left = api.OK, left.with("k", l)
	}
	x := index.New()
	checkError(t, "Set", x.Set("k", l), e)
	checkLabels(t, "Labels", x.Labels("k"), left.labels("k"))
	checkList(t, "Keys", x.Keys(), left.keys(nil))
}

func TestRightByTheNumberOfLabels(t *testing.T) {
	checkRight(t, []api.Label{}, true)
	for many := range 20 {
		checkRight(t, numbered(many), many <= 8)
	}
	checkRight(t, numbered(1000), false)
}

func TestRightByNamesAndValues(t *testing.T) {
	for _, many := range []int{0, 1, 2, 63, 64, 65, 66, 128, 257} {
		right := many >= 1 && many <= 64
		for _, s := range lengths(many) {
			for place := range 8 {
				l := numbered(8)
				l[place].Name = s
				checkRight(t, l, right)
				l = numbered(8)
				l[place].Value = s
				checkRight(t, l, right)
				checkRight(t, []api.Label{{Name: s, Value: s}}, right)
			}
		}
	}
}

func TestRightByEqualNames(t *testing.T) {
	for many := 2; many <= 8; many++ {
		for i := range many {
			for j := range i {
				l := numbered(many)
				l[i].Name = l[j].Name
				checkRight(t, l, false)
				l[i].Value = "other"
				checkRight(t, l, false)
			}
		}
	}
}

func TestRightOfPlainLabels(t *testing.T) {
	for _, c := range []struct {
		l    string
		want bool
	}{
		{"", true},
		{"x=1", true},
		{"x=x", true},
		{"x=1 y=1", true},
		{"y=1 x=1", true},
		{"x=y y=x", true},
		{"x=1 X=1", true}, // names are bytes, whatever letters they are
		{"x=1 xx=1", true},
		{"xx=1 x=1", true},
		{"x=1 x=1", false},
		{"x=1 x=2", false},
		{"x=1 y=1 x=1", false},
		{"x=1 y=1 z=1 x=3", false},
		{"x=", false},
		{"=1", false},
		{"=", false},
		{"x=1 y=", false},
		{"x=1 =1", false},
		{"x= y=1", false},
		{"=1 x=1", false},
		{"a=1 b=1 c=1 d=1 e=1 f=1 g=1 h=1", true},
		{"h=1 g=1 f=1 e=1 d=1 c=1 b=1 a=1", true},
		{"a=1 b=1 c=1 d=1 e=1 f=1 g=1 h=1 i=1", false},
		{"a=1 b=1 c=1 d=1 e=1 f=1 g=1 h=1 a=1", false},
	} {
		checkRight(t, of(c.l), c.want)
	}
}

// P9.2

func TestSetOfKeys(t *testing.T) {
	for _, many := range []int{0, 1, 2, 63, 64, 65, 66, 128, 257} {
		want := api.ErrArg
		if many >= 1 && many <= 64 {
			want = api.OK
		}
		for _, key := range lengths(many) {
			for _, s := range []string{"", "x=1", "x=1 y=2"} {
				x, p := index.New(), pile{}
				checkError(t, "Set", x.Set(key, of(s)), want)
				if want == api.OK {
					p = p.with(key, of(s))
				}
				a := few()
				a.keys = append(a.keys, key)
				checkIndex(t, "behind Set of "+strconv.Quote(key), x, p, a)
				if x.Drop(key) != (want == api.OK) {
					t.Errorf("Drop of %q", key)
				}
				checkIndex(t, "behind Drop of "+strconv.Quote(key), x, nil, a)
			}
		}
	}
}

func TestSetAnew(t *testing.T) {
	sets := []string{"", "x=1", "x=2", "y=1", "x=1 y=1", "y=1 x=1", "y=2 x=1", "x=y y=x", "z=3 y=2 x=1", "a=1 b=1 c=1 d=1 x=1 y=1 z=1 1=x"}
	for _, first := range sets {
		for _, second := range sets {
			x, p := index.New(), pile{}
			for _, c := range []entry{{"b", of("x=1 z=2")}, {"a", of(first)}, {"a", of(second)}, {"a", of(first)}} {
				checkError(t, "Set", x.Set(c.key, c.l), api.OK)
				p = p.with(c.key, c.l)
				checkIndex(t, first+" and "+second, x, p, few())
			}
		}
	}
}

// TestSetThatIsRefused: what was there stays.
func TestSetThatIsRefused(t *testing.T) {
	long := strings.Repeat("k", 65)
	wrong := []entry{
		{"", nil},
		{"", of("x=1")},
		{long, nil},
		{long, of("x=1")},
		{"", of("x=1 x=2")},
	}
	for _, key := range []string{"a", "b", "c", "d"} {
		for _, s := range []string{"x=", "=1", "=", "x=1 x=1", "x=1 x=2", "x=2 y=1 x=2", "x=1 y=", "x=" + long, long + "=1", "a=1 b=1 c=1 d=1 e=1 f=1 g=1 h=1 i=1"} {
			wrong = append(wrong, entry{key, of(s)})
		}
	}
	x, p := index.New(), pile{}
	for _, c := range []entry{{"a", of("x=1 y=2")}, {"b", of("x=2")}, {"c", nil}} {
		checkError(t, "Set", x.Set(c.key, c.l), api.OK)
		p = p.with(c.key, c.l)
	}
	for _, c := range wrong {
		checkError(t, "Set of "+strconv.Quote(c.key), x.Set(c.key, c.l), api.ErrArg)
		checkIndex(t, "behind a Set that is refused", x, p, few())
	}
}

func TestDrop(t *testing.T) {
	x, p := index.New(), pile{}
	for _, c := range []entry{{"a", of("x=1 y=2")}, {"b", of("x=1")}, {"c", nil}, {"x", of("a=b")}} {
		x.Set(c.key, c.l)
		p = p.with(c.key, c.l)
	}
	for _, key := range []string{"d", "1", "y", "", "a", "a", "b", "", "b", "x", "x", "c", "c", "d"} {
		if got, want := x.Drop(key), p.has(key); got != want {
			t.Errorf("Drop of %q: %v", key, got)
		}
		p = p.without(key)
		checkIndex(t, "behind Drop of "+strconv.Quote(key), x, p, few())
	}
	for _, s := range []string{"x=1", "y=1", "", "x=2 y=2"} {
		x.Set("a", of(s))
		checkIndex(t, "set again", x, pile{}.with("a", of(s)), few())
		if !x.Drop("a") || x.Drop("a") {
			t.Error("dropped again")
		}
		checkIndex(t, "dropped again", x, nil, few())
	}
}

// P9.3

// orders is all orders of some labels.
func orders(l []api.Label) [][]api.Label {
	if len(l) == 0 {
		return [][]api.Label{nil}
	}
	var all [][]api.Label
	for i, one := range l {
		for _, rest := range orders(slices.Delete(slices.Clone(l), i, i+1)) {
			all = append(all, append([]api.Label{one}, rest...))
		}
	}
	return all
}

func TestLabelsAreSortedByName(t *testing.T) {
	for _, c := range []struct{ l []api.Label }{
		{of("a=4 b=3 c=2 d=1")},
		{of("10=x 9=y B=z a=w")},
		{of("a=3 aa=2 ab=1 b=0")},
		{of("a=1 z=2 é=3 \xff=4")},
		{of("\x00=1 \x00\x00=2 \x01=3 \x7f=4 \x80=5")},
		{of("n=n n\x00=m o=a")},
	} {
		for _, l := range orders(c.l) {
			x := index.New()
			checkError(t, "Set", x.Set("k", l), api.OK)
			checkLabels(t, "Labels", x.Labels("k"), c.l)
		}
	}
}

func TestHasAndKeys(t *testing.T) {
	x := index.New()
	checkList(t, "Keys of none", x.Keys(), nil)
	l := []string{"k", "\xff", "a", "kk", "\x00", "é", "K", "10", "9", "a\x00", "k"}
	for i, key := range l {
		if want := slices.Contains(l[:i], key); x.Has(key) != want {
			t.Errorf("Has of %q ahead of Set: %v", key, !want)
		}
		checkError(t, "Set", x.Set(key, numbered(i%9)), api.OK)
		if !x.Has(key) {
			t.Errorf("Has of %q behind Set: no", key)
		}
	}
	checkList(t, "Keys", x.Keys(), []string{"\x00", "10", "9", "K", "a", "a\x00", "k", "kk", "é", "\xff"})
	for _, s := range []string{"", "n0", "v", "A", "kkk", "k\x00", "1"} {
		if x.Has(s) || len(x.Labels(s)) != 0 {
			t.Errorf("%q is not there", s)
		}
	}
}

// P9.4

// TestExample is the chapter's.
func TestExample(t *testing.T) {
	x := index.New()
	x.Set("a", of("x=1"))
	x.Set("b", of("x=2"))
	checkList(t, "Find", x.Find("x", "1"), []string{"a"})
	checkList(t, "With", x.With("x"), []string{"a", "b"})
}

// TestFindAndWithOverTime: what no key has, one has, all have, and what the last one has no more.
func TestFindAndWithOverTime(t *testing.T) {
	x := index.New()
	for i, c := range []struct {
		key, l    string // a stroke: it is dropped
		one, with string // of x=1, and of x
		size      int
	}{
		{"b", "x=1", "b", "b", 1},
		{"a", "x=1 y=1", "a b", "a b", 3},
		{"c", "1=x", "a b", "a b", 4}, // a value that is another one's name
		{"c", "x=y", "a b", "a b c", 4},
		{"c", "x=1", "a b c", "a b c", 4},
		{"a", "x=2 y=1", "b c", "a b c", 4},
		{"a", "x=3", "b c", "a b c", 3},
		{"a", "x=1", "a b c", "a b c", 3},
		{"b", "y=1", "a c", "a c", 3},
		{"c", "-", "a", "a", 2},
		{"a", "", "", "", 1}, // the last one is set anew
		{"a", "x=1", "a", "a", 2},
		{"a", "-", "", "", 1}, // the last one is dropped
		{"a", "x=2", "", "a", 2},
		{"b", "-", "", "a", 1},
		{"a", "y=2 z=x", "", "", 2},
	} {
		if c.l == "-" {
			x.Drop(c.key)
		} else {
			x.Set(c.key, of(c.l))
		}
		what := "step " + strconv.Itoa(i)
		checkList(t, what+": Find", x.Find("x", "1"), strings.Fields(c.one))
		checkList(t, what+": With", x.With("x"), strings.Fields(c.with))
		if x.Size() != c.size {
			t.Errorf("%s: Size %d, want %d", what, x.Size(), c.size)
		}
	}
}

func TestFindOfWhatCanBeNoLabel(t *testing.T) {
	x := index.New()
	long := strings.Repeat("k", 64)
	x.Set("a", []api.Label{{Name: long, Value: long}, {Name: "x", Value: "1"}})
	checkList(t, "Find of 64", x.Find(long, long), []string{"a"})
	checkList(t, "With of 64", x.With(long), []string{"a"})
	for _, s := range []string{"", long + "k", long[:63], "1"} {
		checkList(t, "Find", x.Find(s, "1"), nil)
		checkList(t, "Find", x.Find("x", s+s), nil)
		checkList(t, "Find", x.Find(long, s), nil)
		checkList(t, "With", x.With(s), nil)
	}
}

func TestCopy(t *testing.T) {
	checkIndex(t, "a copy of none", index.New().Copy(), nil, few())
	p := pile{}.with("a", of("x=1 y=2")).with("b", of("x=1")).with("c", nil).with("d", of("z=a"))
	turn := []func(x *index.Index){
		func(x *index.Index) { x.Set("a", of("x=2 y=2")) },
		func(x *index.Index) { x.Set("a", nil) },
		func(x *index.Index) { x.Set("x", of("x=1")) },
		func(x *index.Index) { x.Set("x", of("1=2")) },
		func(x *index.Index) { x.Drop("b") },
		func(x *index.Index) { x.Drop("d") },
		func(x *index.Index) { x.Drop("c"); x.Drop("a"); x.Drop("b"); x.Drop("d") },
	}
	for _, first := range turn {
		for _, second := range turn {
			x := index.New()
			for _, e := range p {
				x.Set(e.key, e.l)
			}
			o := x.Copy()
			checkIndex(t, "a copy", o, p, few())
			first(x)
			checkIndex(t, "a copy, when the other one has turned", o, p, few())
			own := o.Copy()
			second(o)
			checkIndex(t, "a copy of a copy", own, p, few())
			second(x)
			first(o)
			checkIndex(t, "a copy of a copy, when both have turned", own, p, few())
		}
	}
}

// R1

// TestIndexThatIsNone: one of nil, and one that New did not give.
func TestIndexThatIsNone(t *testing.T) {
	for _, x := range []*index.Index{nil, new(index.Index), {}} {
		for range 2 {
			checkError(t, "Set", x.Set("a", of("x=1")), api.ErrNil)
			checkError(t, "Set", x.Set("a", nil), api.ErrNil)
			checkError(t, "Set of what is wrong", x.Set("", of("x=1 x=1")), api.ErrNil)
			if x.Drop("a") || x.Drop("") || x.Copy() != nil {
				t.Error("Drop or Copy of none")
			}
			checkIndex(t, "none", x, nil, few())
		}
	}
}
