package series

import (
	"slices"
	"sort"

	"tachograph/api"
	"tachograph/chunk"
)

// begun is how many chunks begin at a time of at most t.
func begun(l []*chunk.Chunk, t int) int {
	return sort.Search(len(l), func(i int) bool {
		first, _ := l[i].First()
		return first.T > t
	})
}

// window is where the chunks stand that can have samples from from to to: the first one's place, and the place behind the last one.
func window(l []*chunk.Chunk, from, to int) (int, int) {
	if from > to {
		return 0, 0
	}
	return max(0, begun(l, from)-1), begun(l, to)
}

// put puts a sample in: into the last chunk that begins no later than it, or into the first one.
func (s *Series) put(x api.Sample, p int) api.Errno {
	if len(s.chunks) == 0 {
		s.chunks = []*chunk.Chunk{alone(s.size, x)}
		return api.OK
	}
	at := max(0, begun(s.chunks, x.T)-1)
	parts, e := with(s.chunks[at].Copy(), x, p)
	if e != api.OK {
		return e
	}
	s.replace(at, at+1, parts)
	return api.OK
}

// alone is a chunk of one sample.
func alone(size int, x api.Sample) *chunk.Chunk {
	c, _ := chunk.New(size) // a series has a size that New takes
	c.Put(x, 0)             // without another one of its time no policy is asked
	return c
}

// with is the chunks that a chunk and a sample more become.
func with(c *chunk.Chunk, x api.Sample, p int) ([]*chunk.Chunk, api.Errno) {
	e := c.Put(x, p)
	if e != api.ErrFull {
		return []*chunk.Chunk{c}, e
	}
	if last, _ := c.Last(); last.T < x.T { // samples mostly come in order: so the chunks that they leave behind stay full
		return []*chunk.Chunk{c, alone(c.Size(), x)}, api.OK
	}
	o, e := c.Split()
	if e != api.OK {
		return nil, e
	}
	first, _ := o.First()
	if x.T < first.T {
		l, e := with(c, x, p)
		return append(l, o), e
	}
	l, e := with(o, x, p)
	return slices.Insert(l, 0, c), e
}

// fitting is the chunks in which the samples of a chunk fit.
func fitting(c *chunk.Chunk) []*chunk.Chunk {
	if c.Used() <= c.Size() {
		return []*chunk.Chunk{c}
	}
	o, _ := c.Split() // one sample always fits: so it has two, or more
	return append(fitting(c), fitting(o)...)
}

// replace lays other chunks in the place of some.
//
// A neighbour is joined only if it is small; then the one beyond it is not: so no others are looked at.
func (s *Series) replace(first, end int, parts []*chunk.Chunk) {
	left, right := max(0, first-1), min(len(s.chunks), end+1)
	near := slices.Concat(s.chunks[left:first], parts, s.chunks[end:right])
	s.chunks = slices.Concat(s.chunks[:left], arranged(near), s.chunks[right:])
}

// arranged is the same samples in chunks of which none is empty, and no two neighbours are both small.
func arranged(l []*chunk.Chunk) []*chunk.Chunk {
	var done []*chunk.Chunk
	for _, c := range l {
		last := len(done) - 1
		switch {
		case c.Len() == 0:
		case last >= 0 && isSmall(done[last]) && isSmall(c):
			done[last] = joined(done[last], c)
		default:
			done = append(done, c)
		}
	}
	return done
}

// isSmall tells of a chunk that has less than a quarter of its size.
func isSmall(c *chunk.Chunk) bool {
	return 4*c.Used() < c.Size()
}

// joined is a chunk of the samples of two small ones. They always fit: together they have less than half of the bits for which there is room, and to stand one behind the other costs at most 75 more.
func joined(a, b *chunk.Chunk) *chunk.Chunk {
	c := a.Copy()
	c.Join(b.Copy())
	return c
}

// laid is samples of rising times in chunks of a size.
//
// Halves are joined, for one by one each sample more would lay all of its chunk anew. Neighbours that stay apart did not find room in one chunk: so they are not both small.
func laid(size int, l []api.Sample) []*chunk.Chunk {
	if len(l) == 0 {
		return nil
	}
	if len(l) == 1 {
		return []*chunk.Chunk{alone(size, l[0])}
	}
	half := len(l) / 2
	a, b := laid(size, l[:half]), laid(size, l[half:])
	if a[len(a)-1].Join(b[0]) == api.OK {
		b = b[1:]
	}
	return append(a, b...)
}
