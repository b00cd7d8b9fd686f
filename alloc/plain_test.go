package alloc_test

import (
	"math"
	"slices"
	"testing"

	"coppice/alloc"
	"coppice/api"
)

// plainSector is what the chapter's words say of a sector.
type plainSector struct {
	held, waits bool // neither: it is free
	holders     int
	born        int
	awaited     int
}

// plainAlloc is an allocator as the chapter's words say it.
type plainAlloc struct {
	from    int
	sectors []plainSector
}

func plainNew(from, to int) *plainAlloc {
	return &plainAlloc{from, make([]plainSector, to-from)}
}

// at is a sector; nil: there is no such one.
func (p *plainAlloc) at(n int) *plainSector {
	for i := range p.sectors {
		if p.from+i == n {
			return &p.sectors[i]
		}
	}
	return nil
}

func (p *plainAlloc) Take(gen int) (int, api.Errno) {
	for i, s := range p.sectors {
		if !s.held && !s.waits {
			return p.from + i, p.Mark(p.from+i, gen)
		}
	}
	return 0, api.ErrNoSpace
}

func (p *plainAlloc) Mark(n, gen int) api.Errno {
	s := p.at(n)
	if s == nil {
		return api.ErrSector
	}
	if s.held || s.waits {
		return api.ErrThere
	}
	*s = plainSector{held: true, holders: 1, born: gen}
	return api.OK
}

func (p *plainAlloc) Hold(n int) api.Errno {
	s := p.at(n)
	if s == nil || !s.held {
		return api.ErrFree
	}
	if s.holders == 5000 {
		return api.ErrMany
	}
	s.holders++
	return api.OK
}

func (p *plainAlloc) Drop(n, gen int) api.Errno {
	s := p.at(n)
	if s == nil || !s.held {
		return api.ErrFree
	}
	s.holders--
	if s.holders == 0 {
		*s = plainSector{waits: s.born != gen, awaited: gen}
	}
	return api.OK
}

func (p *plainAlloc) Free(gen int) int {
	freed := 0
	for i, s := range p.sectors {
		if s.waits && s.awaited <= gen {
			p.sectors[i] = plainSector{}
			freed++
		}
	}
	return freed
}

func (p *plainAlloc) Count(n int) int {
	if s := p.at(n); s != nil {
		return s.holders
	}
	return 0
}

func (p *plainAlloc) Room() int {
	free := 0
	for _, s := range p.sectors {
		if !s.held && !s.waits {
			free++
		}
	}
	return free
}

func (p *plainAlloc) Waiting() int {
	waiting := 0
	for _, s := range p.sectors {
		if s.waits {
			waiting++
		}
	}
	return waiting
}

// either is an allocator, or a plain one.
type either interface {
	Take(gen int) (int, api.Errno)
	Mark(n, gen int) api.Errno
	Hold(n int) api.Errno
	Drop(n, gen int) api.Errno
	Free(gen int) int
	Count(n int) int
	Room() int
	Waiting() int
}

// call is one of those that may change something.
type call struct {
	kind   byte
	n, gen int
}

// done does a call; the number that it answers (0: none), and the error.
func done(a either, c call) (int, api.Errno) {
	switch c.kind {
	case 't':
		return a.Take(c.gen)
	case 'm':
		return 0, a.Mark(c.n, c.gen)
	case 'h':
		return 0, a.Hold(c.n)
	case 'd':
		return 0, a.Drop(c.n, c.gen)
	}
	return a.Free(c.gen), api.OK
}

// same asks whether both are seen to be the same, from one sector ahead of the first to one behind the last.
func same(a either, p *plainAlloc) bool {
	for n := p.from - 1; n <= p.from+len(p.sectors); n++ {
		if a.Count(n) != p.Count(n) {
			return false
		}
	}
	return a.Room() == p.Room() && a.Waiting() == p.Waiting()
}

// row is a new allocator behind calls, and the plain one that it should be like.
func row(t *testing.T, from, to int, calls []call) (*alloc.Alloc, *plainAlloc) {
	t.Helper()
	a, p := made(t, from, to), plainNew(from, to)
	for i, c := range calls {
		n, e := done(a, c)
		if wn, we := done(p, c); n != wn || e != we || !same(a, p) {
			t.Fatalf("P5.1: %c(%d, %d) behind %v: %d, error %d, want %d, %d; or it isn't as it should be then", c.kind, c.n, c.gen, calls[:i], n, e, wn, we)
		}
	}
	return a, p
}

// few are calls of each kind on two sectors in two generations.
func few() []call {
	calls := []call{{'t', 0, 1}, {'t', 0, 2}, {'h', 0, 0}, {'h', 1, 0}, {'f', 0, 0}, {'f', 0, 1}, {'f', 0, 2}}
	for n := range 2 {
		for gen := 1; gen <= 2; gen++ {
			calls = append(calls, call{'m', n, gen}, call{'d', n, gen})
		}
	}
	return calls
}

// TestAllShortRows goes through all rows of a few calls; behind each, all is dropped, and freed generation by generation, so that births and what is waited for come out.
func TestAllShortRows(t *testing.T) {
	const long = 4
	kinds := few()
	rows := 1
	for range long {
		rows *= len(kinds)
	}
	for one := range rows {
		var calls []call
		for i, rest := 0, one; i < long; i, rest = i+1, rest/len(kinds) {
			calls = append(calls, kinds[rest%len(kinds)])
		}
		for gen := 1; gen <= 2; gen++ {
			end := slices.Clone(calls)
			for n := range 2 {
				end = append(end, slices.Repeat([]call{{'d', n, gen}}, long)...)
			}
			row(t, 0, 2, append(end, call{'f', 0, 0}, call{'f', 0, 1}, call{'t', 0, 3}, call{'f', 0, 2}, call{'t', 0, 3}, call{'t', 0, 3}))
		}
	}
}

// anyCall is a call by chance, at times of a sector that isn't there, or in an odd generation.
func anyCall(next func(int) int, from, to int) call {
	c := call{"ttmmhhhhddddddf"[next(15)], from + next(to-from+2) - 1, next(6)}
	if next(20) == 0 {
		c.n = odd[next(len(odd))]
	}
	if next(10) == 0 {
		c.gen = odd[next(len(odd))]
	}
	return c
}

func TestAnyCallsInAnyOrder(t *testing.T) {
	for seed := range uint64(400) {
		next := numbers(seed*7919 + 1)
		from := next(5)
		to := from + next(12)
		var calls []call
		for range 200 {
			calls = append(calls, anyCall(next, from, to))
		}
		row(t, from, to, calls)
	}
}

// TestErrorsChangeNothing does the same calls with those that are refused and without them.
func TestErrorsChangeNothing(t *testing.T) {
	refused := 0
	for seed := range uint64(200) {
		next := numbers(seed*104729 + 1)
		a, b := made(t, 2, 6), made(t, 2, 6)
		for i := range 150 {
			c := anyCall(next, 2, 6)
			n, e := done(a, c)
			if e != api.OK {
				refused++
				if n != 0 {
					t.Fatal("P0.2: beside an error", c, n)
				}
				continue
			}
			if wn, we := done(b, c); n != wn || e != we {
				t.Fatalf("P5.1: what was refused has changed something: seed %d, call %d, %c(%d, %d): %d, error %d, want %d, %d", seed, i, c.kind, c.n, c.gen, n, e, wn, we)
			}
			for n := 1; n <= 6; n++ {
				if a.Count(n) != b.Count(n) || a.Room() != b.Room() || a.Waiting() != b.Waiting() {
					t.Fatal("P5.1: what was refused has changed something: seed", seed, "call", i)
				}
			}
		}
	}
	if refused == 0 {
		t.Fatal("nothing was refused")
	}
}

// book is what somebody who uses an allocator writes down, without knowing what it does inside.
type book struct {
	holds map[int]int // of each sector how often it is held
	waits map[int]int // of those that were dropped wholly, in another generation than that of birth: until when
	born  map[int]int
}

// took writes down a sector that was taken, and tells whether it was to be had.
func (b *book) took(n, gen int) bool {
	_, waits := b.waits[n]
	ok := b.holds[n] == 0 && !waits
	b.holds[n], b.born[n] = 1, gen
	return ok
}

// dropped writes down a holder less.
func (b *book) dropped(n, gen int) {
	b.holds[n]--
	if b.holds[n] == 0 && b.born[n] != gen {
		b.waits[n] = gen
	}
}

// freed writes down that a generation is over.
func (b *book) freed(gen int) {
	for n, until := range b.waits {
		if until <= gen {
			delete(b.waits, n)
		}
	}
}

// TestWhatIsTakenIsNobodysElse uses an allocator as a heap does, from generation to generation, and drops all in the end.
func TestWhatIsTakenIsNobodysElse(t *testing.T) {
	for seed := range uint64(100) {
		next := numbers(seed*31337 + 1)
		a := made(t, 2, 42)
		b := &book{map[int]int{}, map[int]int{}, map[int]int{}}
		gen, taken := 1, 0
		for range 600 {
			n := 2 + next(40)
			switch next(8) {
			case 0, 1, 2:
				if n, e := a.Take(gen); e == api.OK {
					taken++
					if n < 2 || n >= 42 || !b.took(n, gen) {
						t.Fatal("P5.2, P5.3: Take of what is held, or waits: seed", seed, "sector", n)
					}
				}
			case 3:
				if a.Mark(n, gen) == api.OK && !b.took(n, gen) {
					t.Fatal("P5.2, P5.3: Mark of what is held, or waits: seed", seed, "sector", n)
				}
			case 4:
				if a.Hold(n) == api.OK {
					b.holds[n]++
				}
			case 5, 6:
				if a.Drop(n, gen) == api.OK {
					b.dropped(n, gen)
				}
			case 7:
				if next(6) == 0 {
					a.Free(gen)
					b.freed(gen)
					gen++
				}
			}
			if a.Waiting() != len(b.waits) || a.Count(n) != b.holds[n] {
				t.Fatal("P5.1: seed", seed, "wait", a.Waiting(), len(b.waits))
			}
		}
		if taken < 40 {
			t.Fatal("too few were taken", taken)
		}
		dropAll(t, a, gen)
	}
}

// dropAll drops all that is held of an allocator from 2 to 42, some in another generation than the last, and asks whether all is free then.
func dropAll(t *testing.T, a *alloc.Alloc, gen int) {
	t.Helper()
	for n := 2; n < 42; n++ {
		for range a.Count(n) {
			wants(t, "P5.4: Drop", a.Drop(n, gen-n%3), api.OK)
		}
	}
	held := 40 - a.Room()
	if a.Waiting() != held {
		t.Error("P5.4: what isn't free waits", held, a.Waiting())
	}
	frees(t, "P5.4: Free of the greatest generation", a, gen, held)
	is(t, "P5.4: all is free", a, 40, 0, 1, make([]int, 42)...)
	for n := 2; n < 42; n++ {
		takes(t, "P5.4: all is free", a, gen+1, n)
	}
	full(t, "P5.4: all was free", a)
}

func TestAllOfTheGreatestAllocatorIsFreeInTheEnd(t *testing.T) {
	a := made(t, 0, 4096)
	for n := range 4096 {
		takes(t, "P5.4: Take", a, n%7, n)
		if n%5 == 0 {
			wants(t, "P5.4: Hold", a.Hold(n), api.OK)
		}
	}
	for n := range 4096 {
		for range a.Count(n) {
			wants(t, "P5.4: Drop", a.Drop(n, 6), api.OK)
		}
	}
	born := 4096 / 7 // of each seven one is born in 6
	is(t, "P5.4: all is free, or waits", a, born, 4096-born, 0)
	frees(t, "P5.4: a lesser generation", a, 5, 0)
	frees(t, "P5.4: the greatest generation", a, 6, 4096-born)
	is(t, "P5.4: all is free", a, 4096, 0, 0, make([]int, 4097)...)
	for n := range 4096 {
		takes(t, "P5.4: all is free", a, math.MaxInt, n)
	}
	full(t, "P5.4: all was free", a)
}

// TestSameCallsSameAnswers does the same several times: what comes out hangs on nothing else, the order of maps neither.
func TestSameCallsSameAnswers(t *testing.T) {
	told := func() []int {
		next := numbers(5)
		a := made(t, 0, 300)
		var all []int
		for range 2000 {
			n, e := done(a, anyCall(next, 0, 300))
			all = append(all, n, int(e), a.Room(), a.Waiting())
		}
		return all
	}
	first := told()
	for range 5 {
		if !slices.Equal(told(), first) {
			t.Fatal("P0.5: the same calls, another answer")
		}
	}
}
