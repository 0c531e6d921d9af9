package space_test

import (
	"maps"
	"slices"
	"strconv"
	"strings"
	"testing"

	"tachograph/agg"
	"tachograph/api"
	"tachograph/filter"
	"tachograph/graph"
	"tachograph/policy"
	"tachograph/rows"
	"tachograph/space"
)

// at is a sample.
func at(t, v int) api.Sample { return api.Sample{T: t, V: v} }

// of is the samples of a text: time:value, and a blank ahead of the next one.
func of(s string) []api.Sample {
	var l []api.Sample
	for _, w := range strings.Fields(s) {
		t, v, _ := strings.Cut(w, ":")
		l = append(l, at(number(t), number(v)))
	}
	return l
}

// number is what a text of digits tells.
func number(s string) int {
	n, err := strconv.Atoi(s)
	if err != nil {
		panic(err)
	}
	return n
}

// say is samples to be read, as of reads them.
func say(l []api.Sample) string {
	var told []string
	for _, x := range l {
		told = append(told, strconv.Itoa(x.T)+":"+strconv.Itoa(x.V))
	}
	s := strings.Join(told, " ")
	return "[" + s[:min(len(s), 300)] + "]"
}

// labelled is the labels of a text: name=value, and a blank ahead of the next one.
func labelled(s string) []api.Label {
	var l []api.Label
	for _, w := range strings.Fields(s) {
		name, value, _ := strings.Cut(w, "=")
		l = append(l, api.Label{Name: name, Value: value})
	}
	return l
}

// sums is a rule of sums of 10.
func sums(src, dst string) graph.Rule {
	return graph.Rule{Src: src, Dst: dst, Kind: agg.Sum, Size: 10}
}

// cut is a rule of its own kind, size and alignment.
func cut(src, dst string, kind, size, align int) graph.Rule {
	return graph.Rule{Src: src, Dst: dst, Kind: kind, Size: size, Align: align}
}

// plain is options without a retention, by the policy Last.
func plain(labels string) space.Options {
	return space.Options{Size: 128, Policy: policy.Last, Labels: labelled(labels)}
}

// The pile: what a space must have, from the chapter's words.

// row is what a key must have.
type row struct {
	size, retention, policy, max, line int
	samples                            []api.Sample // rising
	labels                             []api.Label  // by name
}

// where is where a sample of a time stands, or would stand.
func (r *row) where(t int) int {
	i := 0
	for i < len(r.samples) && r.samples[i].T < t {
		i++
	}
	return i
}

// from is the samples from a time up to another one, that one too.
func (r *row) from(from, to int) []api.Sample {
	var l []api.Sample
	for _, x := range r.samples {
		if x.T >= from && x.T <= to {
			l = append(l, x)
		}
	}
	return l
}

// trim lets the line rise, and takes out what is below it.
func (r *row) trim() {
	if r.retention > 0 && r.max-r.retention > r.line {
		r.line = r.max - r.retention
	}
	r.samples = r.from(r.line, 1<<40)
}

// add is what series.Add does and tells.
func (r *row) add(x api.Sample, p int) api.Errno {
	if p == 0 {
		p = r.policy
	}
	if x.T < 0 || x.T > 1<<40-1 || p < 1 || p > 6 {
		return api.ErrArg
	}
	if x.T < r.line {
		return api.ErrOld
	}
	i := r.where(x.T)
	if i < len(r.samples) && r.samples[i].T == x.T {
		v, e := policy.Merge(p, r.samples[i].V, x.V)
		if e != api.OK {
			return e
		}
		r.samples = slices.Clone(r.samples)
		r.samples[i].V = v
	} else {
		r.samples = slices.Insert(slices.Clone(r.samples), i, x)
	}
	if x.T > r.max {
		r.max = x.T
	}
	r.trim()
	return api.OK
}

// del is what series.Del does and tells.
func (r *row) del(from, to int) int {
	gone := len(r.from(from, to))
	var l []api.Sample
	for _, x := range r.samples {
		if x.T < from || x.T > to {
			l = append(l, x)
		}
	}
	r.samples = l
	return gone
}

// start is where the bucket begins that has a time.
func start(t, size, align int) int {
	if t < align {
		return 0
	}
	return t - (t-align)%size
}

// end is where the bucket ends that begins at b.
func end(b, size, align int) int {
	if b < align {
		return align
	}
	return b + size
}

// pile is keys, and rules in no order.
type pile struct {
	keys  map[string]*row
	rules []graph.Rule
}

func newPile() *pile { return &pile{keys: map[string]*row{}} }

// copied is another pile with the same.
func (p *pile) copied() *pile {
	o := newPile()
	for key, r := range p.keys {
		one := *r // its lists are never written in
		o.keys[key] = &one
	}
	o.rules = slices.Clone(p.rules)
	return o
}

// isKey is what the words say of a key, of a label's name and of its value.
func isKey(s string) bool { return len(s) > 0 && len(s) < 65 }

// areRight is what they say of labels.
func areRight(l []api.Label) bool {
	names := map[string]int{}
	for _, one := range l {
		names[one.Name]++
		if !isKey(one.Name) || !isKey(one.Value) || names[one.Name] > 1 {
			return false
		}
	}
	return len(l) < 9
}

// canKeep is what they say of a retention and a policy.
func canKeep(retention, p int) bool {
	return retention >= 0 && retention <= 1<<40 && p > 0 && p < 7
}

// byName is labels by their names.
func byName(l []api.Label) []api.Label {
	var told []api.Label
	for _, one := range l {
		i := 0
		for i < len(told) && told[i].Name < one.Name {
			i++
		}
		told = slices.Insert(told, i, one)
	}
	return told
}

func (p *pile) create(key string, o space.Options) api.Errno {
	if !isKey(key) || !areRight(o.Labels) || o.Size < 128 || o.Size > 4096 || !canKeep(o.Retention, o.Policy) {
		return api.ErrArg
	}
	if p.keys[key] != nil {
		return api.ErrTwice
	}
	p.keys[key] = &row{size: o.Size, retention: o.Retention, policy: o.Policy, max: -1, labels: byName(o.Labels)}
	return api.OK
}

func (p *pile) restore(key string, o space.Options, greatest, line int, l []api.Sample) api.Errno {
	if e := p.create(key, o); e != api.OK {
		return e
	}
	wrong := greatest < -1 || greatest > 1<<40-1 || line < 0 || line > max(greatest, 0) || o.Retention > 0 && line < greatest-o.Retention
	for i, x := range l {
		wrong = wrong || x.T < line || x.T > greatest || i > 0 && l[i-1].T >= x.T
	}
	if wrong {
		delete(p.keys, key)
		return api.ErrArg
	}
	r := p.keys[key]
	r.max, r.line, r.samples = greatest, line, slices.Clone(l)
	return api.OK
}

func (p *pile) alter(key string, retention, how int, l []api.Label) api.Errno {
	r := p.keys[key]
	switch {
	case r == nil:
		return api.ErrNone
	case !areRight(l), !canKeep(retention, how):
		return api.ErrArg
	}
	r.retention, r.policy, r.labels = retention, how, byName(l)
	r.trim()
	return api.OK
}

func (p *pile) drop(key string) bool {
	if p.keys[key] == nil {
		return false
	}
	delete(p.keys, key)
	p.rules = p.those(func(r graph.Rule) bool { return r.Src != key && r.Dst != key })
	return true
}

// those is the rules of which something holds, by Src, then by Dst.
func (p *pile) those(holds func(r graph.Rule) bool) []graph.Rule {
	var l []graph.Rule
	for _, r := range p.rules {
		if !holds(r) {
			continue
		}
		i := 0
		for i < len(l) && (l[i].Src < r.Src || l[i].Src == r.Src && l[i].Dst < r.Dst) {
			i++
		}
		l = slices.Insert(l, i, r)
	}
	return l
}

// made tells whether a rule goes into a key.
func (p *pile) made(key string) bool {
	return len(p.those(func(r graph.Rule) bool { return r.Dst == key })) > 0
}

// make makes a rule's bucket that has a time, if it is closed.
func (p *pile) make(r graph.Rule, t int) {
	src, dst := p.keys[r.Src], p.keys[r.Dst]
	b := start(t, r.Size, r.Align)
	if end(b, r.Size, r.Align) > start(src.max, r.Size, r.Align) {
		return
	}
	l := src.from(b, end(b, r.Size, r.Align)-1)
	if len(l) == 0 {
		dst.del(b, b)
		return
	}
	v, _ := agg.Fold(r.Kind, l)
	dst.add(at(b, v), policy.Last)
}

// refused is why nothing can be written to a key.
func (p *pile) refused(key string) api.Errno {
	switch {
	case p.keys[key] == nil:
		return api.ErrNone
	case p.made(key):
		return api.ErrRule
	}
	return api.OK
}

func (p *pile) add(key string, x api.Sample, how int) api.Errno {
	if e := p.refused(key); e != api.OK {
		return e
	}
	ahead := p.keys[key].max
	if e := p.keys[key].add(x, how); e != api.OK {
		return e
	}
	for _, r := range p.those(func(r graph.Rule) bool { return r.Src == key }) {
		if p.keys[key].max > ahead && ahead != -1 {
			p.make(r, ahead)
		}
		p.make(r, x.T)
	}
	return api.OK
}

func (p *pile) incr(key string, t, by int) (int, api.Errno) {
	if e := p.refused(key); e != api.OK {
		return 0, e
	}
	if t < 0 || t >= 1<<40 {
		return 0, api.ErrArg
	}
	last := 0
	if l := p.keys[key].samples; len(l) > 0 {
		if l[len(l)-1].T > t {
			return 0, api.ErrOld
		}
		last = l[len(l)-1].V
	}
	sum := last + by // it goes round, if it is beyond an end
	if by > 0 && sum < last || by < 0 && sum > last {
		return 0, api.ErrOver
	}
	if e := p.add(key, at(t, sum), policy.Last); e != api.OK {
		return 0, e
	}
	return sum, api.OK
}

func (p *pile) del(key string, from, to int) (int, api.Errno) {
	if e := p.refused(key); e != api.OK {
		return 0, e
	}
	gone := p.keys[key].from(from, to)
	many := p.keys[key].del(from, to)
	for _, r := range p.those(func(r graph.Rule) bool { return r.Src == key }) {
		for _, x := range gone {
			p.make(r, x.T)
		}
	}
	return many, api.OK
}

func (p *pile) relink(r graph.Rule) api.Errno {
	switch {
	case !isKey(r.Src), !isKey(r.Dst), r.Src == r.Dst, r.Kind < 1, r.Kind > 7, r.Size < 1, r.Size > 1<<40, r.Align < 0, r.Align >= r.Size:
		return api.ErrArg
	case p.keys[r.Src] == nil, p.keys[r.Dst] == nil:
		return api.ErrNone
	case p.made(r.Dst):
		return api.ErrTwice
	case p.made(r.Src), len(p.those(func(one graph.Rule) bool { return one.Src == r.Dst })) > 0:
		return api.ErrRule
	}
	p.rules = append(p.rules, r)
	return api.OK
}

func (p *pile) link(r graph.Rule) api.Errno {
	if e := p.relink(r); e != api.OK {
		return e
	}
	p.keys[r.Dst].samples = nil
	for _, x := range p.keys[r.Src].samples {
		p.make(r, x.T)
	}
	return api.OK
}

func (p *pile) unlink(src, dst string) api.Errno {
	rest := p.those(func(r graph.Rule) bool { return r.Src != src || r.Dst != dst })
	if len(rest) == len(p.rules) {
		return api.ErrNone
	}
	p.rules = rest
	return api.OK
}

// Both: each call is done on a space and on its pile, and behind it all that the space tells is held against the pile.

// both is a space, and what it must have.
type both struct {
	t *testing.T
	s *space.Space
	p *pile
	// those that are asked for, whether they are there or not
	keys []string
}

// begin is a space with plain keys, each of which has a label k with its name.
func begin(t *testing.T, keys ...string) *both {
	t.Helper()
	b := &both{t, space.New(), newPile(), slices.Concat(keys, []string{"", "nokey", strings.Repeat("k", 65)})}
	for _, key := range keys {
		b.create(key, plain("k="+key), api.OK)
	}
	return b
}

// errors holds an error against the pile's one and against what a test wants; -1: whatever the pile tells.
func (b *both) errors(what string, got, piled, want api.Errno) {
	b.t.Helper()
	if got != piled || want >= 0 && want != got {
		b.t.Errorf("%s: %d, not %d (wanted %d)", what, got, piled, want)
	}
	b.check(what)
}

func (b *both) create(key string, o space.Options, want api.Errno) {
	b.t.Helper()
	b.errors("Create of "+strconv.QuoteToASCII(key), b.s.Create(key, o), b.p.create(key, o), want)
}

func (b *both) restore(key string, o space.Options, max, line int, l []api.Sample, want api.Errno) {
	b.t.Helper()
	b.errors("Restore of "+strconv.QuoteToASCII(key), b.s.Restore(key, o, max, line, l), b.p.restore(key, o, max, line, l), want)
}

func (b *both) alter(key string, retention, how int, l []api.Label, want api.Errno) {
	b.t.Helper()
	b.errors("Alter of "+strconv.QuoteToASCII(key), b.s.Alter(key, retention, how, l), b.p.alter(key, retention, how, l), want)
}

func (b *both) drop(key string) bool {
	b.t.Helper()
	what := "Drop of " + strconv.QuoteToASCII(key)
	got, want := b.s.Drop(key), b.p.drop(key)
	if got != want {
		b.t.Errorf("%s: %t", what, got)
	}
	b.check(what)
	return got
}

func (b *both) add(key string, x api.Sample, how int, want api.Errno) {
	b.t.Helper()
	b.errors("Add to "+strconv.QuoteToASCII(key)+" of "+say([]api.Sample{x}), b.s.Add(key, x, how), b.p.add(key, x, how), want)
}

// adds adds samples by the key's own policy.
func (b *both) adds(key, samples string) {
	b.t.Helper()
	for _, x := range of(samples) {
		b.add(key, x, 0, api.OK)
	}
}

// incr answers what Incr told.
func (b *both) incr(key string, t, by int, want api.Errno) int {
	b.t.Helper()
	what := "Incr of " + strconv.QuoteToASCII(key) + " at " + strconv.Itoa(t) + " by " + strconv.Itoa(by)
	v, e := b.s.Incr(key, t, by)
	piled, why := b.p.incr(key, t, by)
	if v != piled {
		b.t.Errorf("%s: %d, not %d", what, v, piled)
	}
	b.errors(what, e, why, want)
	return v
}

// del answers how many there were.
func (b *both) del(key string, from, to int, want api.Errno) int {
	b.t.Helper()
	what := "Del in " + strconv.QuoteToASCII(key) + " from " + strconv.Itoa(from) + " to " + strconv.Itoa(to)
	many, e := b.s.Del(key, from, to)
	piled, why := b.p.del(key, from, to)
	if many != piled {
		b.t.Errorf("%s: %d, not %d", what, many, piled)
	}
	b.errors(what, e, why, want)
	return many
}

func (b *both) link(r graph.Rule, want api.Errno) {
	b.t.Helper()
	b.errors("Link of "+sayRule(r), b.s.Link(r), b.p.link(r), want)
}

func (b *both) relink(r graph.Rule, want api.Errno) {
	b.t.Helper()
	b.errors("Relink of "+sayRule(r), b.s.Relink(r), b.p.relink(r), want)
}

func (b *both) unlink(src, dst string, want api.Errno) {
	b.t.Helper()
	b.errors("Unlink of "+sayRule(sums(src, dst)), b.s.Unlink(src, dst), b.p.unlink(src, dst), want)
}

// sayRule is a rule to be read.
func sayRule(r graph.Rule) string {
	s := strconv.QuoteToASCII(r.Src) + ">" + strconv.QuoteToASCII(r.Dst)
	for _, n := range []int{r.Kind, r.Size, r.Align} {
		s += "," + strconv.Itoa(n)
	}
	return s
}

// has holds a key's samples against a text.
func (b *both) has(key, want string) {
	b.t.Helper()
	l, e := b.s.Tell(key, rows.Query{To: 1 << 40})
	if e != api.OK || !slices.Equal(l, of(want)) {
		b.t.Errorf("%q has %s, %d, not %s", key, say(l), e, want)
	}
}

// check holds all that a space tells against its pile.
func (b *both) check(what string) {
	b.t.Helper()
	checkSpace(b.t, what, b.s, b.p)
	for _, key := range b.keys {
		if b.p.keys[key] == nil {
			checkNone(b.t, what, b.s, key)
		}
	}
}

// checkSpace holds the keys, what each one has, what is found, and the rules.
func checkSpace(t *testing.T, what string, s *space.Space, p *pile) {
	t.Helper()
	keys := slices.Sorted(maps.Keys(p.keys))
	checkTexts(t, what+": Keys", s.Keys(), keys)
	checkTexts(t, what+": Find of no terms", s.Find(nil), keys)
	checkTexts(t, what+": Find of a label k", s.Find([]filter.Term{{Name: "k", Not: true}}), p.with("k"))
	if l, want := s.Rules(), p.those(func(r graph.Rule) bool { return true }); !slices.Equal(l, want) {
		t.Errorf("%s: Rules are %v, not %v", what, l, want)
	}
	for _, key := range keys {
		checkKey(t, what+": "+strconv.QuoteToASCII(key), s, key, p.keys[key])
	}
}

// with is the keys with a label of this name.
func (p *pile) with(name string) []string {
	var l []string
	for key, r := range p.keys {
		for _, one := range r.labels {
			if one.Name == name {
				l = append(l, key)
			}
		}
	}
	slices.Sort(l)
	return l
}

// checkKey holds what is told of a key that is there.
func checkKey(t *testing.T, what string, s *space.Space, key string, r *row) {
	t.Helper()
	o, ok := s.Options(key)
	if !ok || o.Size != r.size || o.Retention != r.retention || o.Policy != r.policy || !slices.Equal(o.Labels, r.labels) {
		t.Errorf("%s: Options are %v, %t, not those of %v", what, o, ok, *r)
	}
	x := s.Series(key)
	if x == nil {
		t.Fatalf("%s: no series", what)
	}
	if x.Retention() != r.retention || x.Policy() != r.policy || x.Max() != r.max || x.Line() != r.line {
		t.Errorf("%s: retention %d, policy %d, Max %d, line %d, not those of %v", what, x.Retention(), x.Policy(), x.Max(), x.Line(), *r)
	}
	if l := x.Range(0, 1<<40); !slices.Equal(l, r.samples) {
		t.Errorf("%s: the series has %s, not %s", what, say(l), say(r.samples))
	}
	if l, e := s.Tell(key, rows.Query{To: 1 << 40}); e != api.OK || !slices.Equal(l, r.samples) {
		t.Errorf("%s: Tell tells %s, %d, not %s", what, say(l), e, say(r.samples))
	}
}

// checkNone holds what is told of a key that is not there.
func checkNone(t *testing.T, what string, s *space.Space, key string) {
	t.Helper()
	if s.Series(key) != nil {
		t.Errorf("%s: a series of %q", what, key)
	}
	if o, ok := s.Options(key); ok || o.Size != 0 || o.Retention != 0 || o.Policy != 0 || len(o.Labels) != 0 {
		t.Errorf("%s: Options of %q: %v, %t", what, key, o, ok)
	}
	for _, q := range []rows.Query{{To: 1 << 40}, {Count: -1}} {
		if l, e := s.Tell(key, q); len(l) != 0 || e != api.ErrNone {
			t.Errorf("%s: Tell of %q: %s, %d", what, key, say(l), e)
		}
	}
}

// checkTexts holds a list of texts.
func checkTexts(t *testing.T, what string, l, want []string) {
	t.Helper()
	if !slices.Equal(l, want) {
		t.Errorf("%s: %q, not %q", what, l, want)
	}
}
