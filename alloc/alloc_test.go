package alloc_test

import (
	"math"
	"slices"
	"testing"

	"coppice/alloc"
	"coppice/api"
)

// The calls as the chapter lists them.
var (
	_ func(from, to int) (*alloc.Alloc, api.Errno)   = alloc.New
	_ func(a *alloc.Alloc, gen int) (int, api.Errno) = (*alloc.Alloc).Take
	_ func(a *alloc.Alloc, n, gen int) api.Errno     = (*alloc.Alloc).Mark
	_ func(a *alloc.Alloc, n int) api.Errno          = (*alloc.Alloc).Hold
	_ func(a *alloc.Alloc, n, gen int) api.Errno     = (*alloc.Alloc).Drop
	_ func(a *alloc.Alloc, gen int) (howMany int)    = (*alloc.Alloc).Free
	_ func(a *alloc.Alloc, n int) (holders int)      = (*alloc.Alloc).Count
	_ func(a *alloc.Alloc) (free int)                = (*alloc.Alloc).Room
	_ func(a *alloc.Alloc) (waiting int)             = (*alloc.Alloc).Waiting
)

// odd are numbers at the edges of what may be told.
var odd = []int{math.MinInt, math.MinInt + 1, -5000, -1, 0, 1, 5000, api.MaxGen, math.MaxInt - 1, math.MaxInt}

// numbers answers ever the same row of numbers, so that a test that fails fails again.
func numbers(seed uint64) func(below int) int {
	return func(below int) int {
		seed ^= seed << 13
		seed ^= seed >> 7
		seed ^= seed << 17
		return int(seed >> 20 % uint64(below))
	}
}

// made is an allocator that New answers without an error.
func made(t *testing.T, from, to int) *alloc.Alloc {
	t.Helper()
	a, e := alloc.New(from, to)
	if e != api.OK || a == nil {
		t.Fatal("P5.1: New", from, to, e)
	}
	return a
}

// takes asks whether Take answers these sectors, one behind the other.
func takes(t *testing.T, what string, a *alloc.Alloc, gen int, want ...int) {
	t.Helper()
	for _, w := range want {
		if n, e := a.Take(gen); e != api.OK || n != w {
			t.Errorf("%s: Take(%d): %d, error %d, want %d", what, gen, n, e, w)
		}
	}
}

// full asks whether Take finds none that is free.
func full(t *testing.T, what string, a *alloc.Alloc) {
	t.Helper()
	if n, e := a.Take(3); n != 0 || e != api.ErrNoSpace {
		t.Errorf("%s: Take: %d, error %d, want 0 and ErrNoSpace", what, n, e)
	}
}

// wants asks whether a call answered this error.
func wants(t *testing.T, what string, got, want api.Errno) {
	t.Helper()
	if got != want {
		t.Errorf("%s: error %d, want %d", what, got, want)
	}
}

// frees asks how many Free answers.
func frees(t *testing.T, what string, a *alloc.Alloc, gen, want int) {
	t.Helper()
	if got := a.Free(gen); got != want {
		t.Errorf("%s: Free(%d): %d, want %d", what, gen, got, want)
	}
}

// is asks how many are free, how many wait, and how many hold the sectors from the first one on.
func is(t *testing.T, what string, a *alloc.Alloc, room, waiting, first int, counts ...int) {
	t.Helper()
	if a.Room() != room || a.Waiting() != waiting {
		t.Errorf("%s: room %d, %d wait; want %d, %d", what, a.Room(), a.Waiting(), room, waiting)
	}
	for i, want := range counts {
		if got := a.Count(first + i); got != want {
			t.Errorf("%s: Count(%d): %d, want %d", what, first+i, got, want)
		}
	}
}

func TestExample(t *testing.T) {
	a := made(t, 2, 5)
	is(t, "P5.1: New", a, 3, 0, 0, 0, 0, 0, 0, 0, 0)
	takes(t, "P5.1: the example", a, 7, 2, 3)
	is(t, "P5.1: behind Take", a, 1, 0, 0, 0, 0, 1, 1, 0, 0)
	wants(t, "P5.1: Drop(2, 7)", a.Drop(2, 7), api.OK)
	is(t, "P5.1: it is free", a, 2, 0, 2, 0, 1, 0)
	wants(t, "P5.1: Drop(3, 8)", a.Drop(3, 8), api.OK)
	is(t, "P5.1: it waits", a, 2, 1, 2, 0, 0, 0)
	takes(t, "P5.1: the example", a, 8, 2)
	frees(t, "P5.1: the example", a, 8, 1)
	is(t, "P5.1: behind Free", a, 2, 0, 2, 1, 0, 0)
	takes(t, "P5.1: the example", a, 9, 3)
	is(t, "P5.1: in the end", a, 1, 0, 2, 1, 1, 0)
}

func TestNewAtItsBounds(t *testing.T) {
	for _, b := range [][2]int{{0, 0}, {0, 1}, {0, 4095}, {0, 4096}, {1, 1}, {1, 2}, {7, 7}, {2, 8}, {4095, 4095}, {4095, 4096}, {4096, 4096}} {
		from, to := b[0], b[1]
		a := made(t, from, to)
		is(t, "P5.1: New", a, to-from, 0, from-1, 0, 0, 0)
		for _, n := range append(slices.Clone(odd[:4]), from-1, to, to+1, 4096, math.MaxInt) {
			if n < from || n >= to {
				wants(t, "P5.1: Mark of a sector that isn't there", a.Mark(n, 1), api.ErrSector)
			}
		}
		for n := from; n < to; n++ {
			takes(t, "P5.1: Take", a, 1, n)
		}
		full(t, "P5.1: New", a)
		is(t, "P5.1: all is taken", a, 0, 0, from-1, 0)
		is(t, "P5.1: all is taken", a, 0, 0, to, 0, 0)
	}
}

func TestNewBeyondItsBounds(t *testing.T) {
	far := [][2]int{
		{-1, -1}, {-1, 0}, {-1, 5}, {-1, 4096}, {math.MinInt, 0}, {math.MinInt, math.MinInt}, {math.MinInt, math.MaxInt}, {-7, -5},
		{1, 0}, {5, 4}, {0, -1}, {4096, 4095}, {0, math.MinInt}, {math.MaxInt, math.MinInt}, {math.MaxInt, 0}, {4097, 4096},
		{0, 4097}, {4096, 4097}, {4097, 4097}, {5000, 5001}, {0, math.MaxInt}, {math.MaxInt, math.MaxInt}, {2, 1 << 32}, {0, 1<<32 + 5},
	}
	for _, b := range far {
		if a, e := alloc.New(b[0], b[1]); a != nil || e != api.ErrArg {
			t.Errorf("P5.1: New(%d, %d): an allocator %v, error %d, want none and ErrArg", b[0], b[1], a != nil, e)
		}
	}
}

func TestTakeIsTheLeast(t *testing.T) {
	a := made(t, 10, 16)
	takes(t, "P5.1: the least", a, 1, 10, 11, 12, 13, 14, 15)
	full(t, "P5.1: none is free", a)
	is(t, "P5.1: behind ErrNoSpace", a, 0, 0, 9, 0, 1, 1, 1, 1, 1, 1, 0)
	for _, n := range []int{14, 11, 13} {
		wants(t, "P5.1: Drop", a.Drop(n, 1), api.OK)
	}
	takes(t, "P5.1: the least behind Drop", a, 2, 11, 13)
	wants(t, "P5.1: Drop", a.Drop(10, 1), api.OK)
	takes(t, "P5.1: the least behind Drop", a, 2, 10, 14)
	full(t, "P5.1: none is free", a)
	for _, n := range []int{15, 12, 10} {
		wants(t, "P5.1: Drop", a.Drop(n, 5), api.OK)
	}
	full(t, "P5.3: three wait", a)
	frees(t, "P5.1: of all that wait", a, 5, 3)
	takes(t, "P5.1: the least behind Free", a, 6, 10, 12, 15)
	full(t, "P5.1: none is free", a)
}

func TestTakeGoesAroundWhatIsMarked(t *testing.T) {
	a := made(t, 2, 8)
	for _, n := range []int{2, 4, 7} {
		wants(t, "P5.1: Mark", a.Mark(n, 1), api.OK)
	}
	takes(t, "P5.1: the least beside the marked", a, 1, 3, 5, 6)
	full(t, "P5.1: none is free", a)
	is(t, "P5.1: all is held once", a, 0, 0, 2, 1, 1, 1, 1, 1, 1)
}

func TestMark(t *testing.T) {
	a := made(t, 3, 7)
	for _, n := range []int{math.MinInt, -3, -1, 0, 2, 7, 8, 4096, 1 << 32, 1<<32 + 4, math.MaxInt} {
		wants(t, "P5.1: Mark of a sector that isn't there", a.Mark(n, 1), api.ErrSector)
		is(t, "P5.1: Mark of a sector that isn't there", a, 4, 0, n, 0)
	}
	wants(t, "P5.1: Mark of the first", a.Mark(3, 1), api.OK)
	wants(t, "P5.1: Mark of the last", a.Mark(6, 2), api.OK)
	is(t, "P5.1: both are held once", a, 2, 0, 2, 0, 1, 0, 0, 1, 0)
	wants(t, "P5.1: Mark of one that is marked", a.Mark(3, 1), api.ErrThere)
	wants(t, "P5.1: Mark of one that is marked", a.Mark(6, 5), api.ErrThere)
	takes(t, "P5.1: beside them", a, 1, 4)
	wants(t, "P5.1: Mark of one that is taken", a.Mark(4, 1), api.ErrThere)
	wants(t, "P5.1: Hold", a.Hold(4), api.OK)
	wants(t, "P5.1: Mark of one that two hold", a.Mark(4, 1), api.ErrThere)
	is(t, "P5.1: Mark holds nothing once more", a, 1, 0, 3, 1, 2, 0, 1)
	wants(t, "P5.1: Drop", a.Drop(6, 9), api.OK)
	for _, gen := range []int{2, 8, 9, 10} {
		wants(t, "P5.1: Mark of one that waits", a.Mark(6, gen), api.ErrThere)
	}
	is(t, "P5.1: it waits", a, 1, 1, 3, 1, 2, 0, 0)
	frees(t, "P5.1: it is free", a, 9, 1)
	wants(t, "P5.1: Mark of one that is free again", a.Mark(6, 10), api.OK)
	wants(t, "P5.1: Drop in the generation of Mark", a.Drop(6, 10), api.OK)
	wants(t, "P5.1: Mark of one that is free at once", a.Mark(6, 10), api.OK)
	is(t, "P5.1: in the end", a, 1, 0, 3, 1, 2, 0, 1)
}

func TestHoldAndDropOfWhatIsNotHeld(t *testing.T) {
	a := made(t, 3, 6)
	takes(t, "P5.1: Take", a, 1, 3, 4)
	wants(t, "P5.1: Drop", a.Drop(4, 2), api.OK)
	away := []int{math.MinInt, -1, 0, 2, 6, 7, 4096, 5000, 1<<32 + 3, math.MaxInt}
	for _, n := range append(away, 5, 4) { // 5 is free, 4 waits
		wants(t, "P5.1: Hold of what isn't held", a.Hold(n), api.ErrFree)
		for _, gen := range []int{0, 1, 2, 3} {
			wants(t, "P5.1: Drop of what isn't held", a.Drop(n, gen), api.ErrFree)
		}
		is(t, "P5.1: nothing has changed", a, 1, 1, n, 0)
	}
	is(t, "P5.1: nothing has changed", a, 1, 1, 2, 0, 1, 0, 0, 0)
	frees(t, "P5.1: it waits for what it waited for", a, 1, 0)
	frees(t, "P5.1: it waits for what it waited for", a, 2, 1)
	wants(t, "P5.1: Hold of one that is free again", a.Hold(4), api.ErrFree)
	wants(t, "P5.1: Drop of one that is free again", a.Drop(4, 2), api.ErrFree)
	wants(t, "P5.1: Drop", a.Drop(3, 1), api.OK)
	wants(t, "P5.1: Hold of one that is free at once", a.Hold(3), api.ErrFree)
	wants(t, "P5.1: Drop of one that is free at once", a.Drop(3, 1), api.ErrFree)
	is(t, "P5.1: all is free", a, 3, 0, 3, 0, 0, 0)
}

func TestHoldUpToTheMost(t *testing.T) {
	a := made(t, 0, 3)
	takes(t, "P5.1: Take", a, 1, 0)
	wants(t, "P5.1: Mark", a.Mark(2, 1), api.OK)
	for want := 2; want <= 5000; want++ {
		for _, n := range []int{0, 2} {
			if e := a.Hold(n); e != api.OK || a.Count(n) != want {
				t.Fatalf("P5.1: Hold(%d): error %d, %d holders, want %d", n, e, a.Count(n), want)
			}
		}
	}
	for range 3 {
		wants(t, "P5.1: more than 5000 holders", a.Hold(0), api.ErrMany)
	}
	is(t, "P5.1: 5000 holders", a, 1, 0, 0, 5000, 0, 5000)
	wants(t, "P5.1: Drop", a.Drop(0, 7), api.OK)
	is(t, "P5.1: one holder less", a, 1, 0, 0, 4999, 0, 5000)
	wants(t, "P5.1: Hold", a.Hold(0), api.OK)
	wants(t, "P5.1: more than 5000 holders", a.Hold(0), api.ErrMany)
	for left := 4999; left >= 0; left-- {
		is(t, "P5.1: holders drop it", a, 1, 0, 0, left+1, 0, 5000)
		wants(t, "P5.1: Drop", a.Drop(0, 1), api.OK)
	}
	is(t, "P5.1: all holders have dropped it", a, 2, 0, 0, 0, 0, 5000)
	wants(t, "P5.1: nobody holds it", a.Drop(0, 1), api.ErrFree)
	takes(t, "P5.1: held once, whoever held it", a, 1, 0)
	is(t, "P5.1: held once, whoever held it", a, 1, 0, 0, 1, 0, 5000)
}

func TestDropByGenerations(t *testing.T) {
	ways := []func(a *alloc.Alloc, gen int) api.Errno{
		func(a *alloc.Alloc, gen int) api.Errno { return a.Mark(0, gen) },
		func(a *alloc.Alloc, gen int) api.Errno { _, e := a.Take(gen); return e },
	}
	for _, way := range ways {
		for _, born := range odd {
			for _, gen := range odd {
				a := made(t, 0, 1)
				wants(t, "P5.1: born", way(a, born), api.OK)
				wants(t, "P5.1: Drop", a.Drop(0, gen), api.OK)
				if born == gen {
					is(t, "P5.1: it is free at once", a, 1, 0, 0, 0)
					frees(t, "P5.1: nothing waits", a, math.MaxInt, 0)
					takes(t, "P5.1: it is free at once", a, gen, 0)
					continue
				}
				is(t, "P5.1: it waits", a, 0, 1, 0, 0)
				full(t, "P5.3: it waits", a)
				if gen > math.MinInt {
					frees(t, "P5.3: a lesser generation", a, gen-1, 0)
					full(t, "P5.3: a lesser generation is over", a)
				}
				frees(t, "P5.1: its generation", a, gen, 1)
				is(t, "P5.1: it is free", a, 1, 0, 0, 0)
				takes(t, "P5.1: it is free", a, gen, 0)
			}
		}
	}
}

func TestDropBySeveralHolders(t *testing.T) {
	a := made(t, 5, 8)
	takes(t, "P5.1: Take", a, 4, 5, 6, 7)
	for n := 5; n < 8; n++ {
		wants(t, "P5.1: Hold", a.Hold(n), api.OK)
		wants(t, "P5.1: Hold", a.Hold(n), api.OK)
	}
	is(t, "P5.1: three holders each", a, 0, 0, 5, 3, 3, 3)
	drops := [][3]int{{8, 9, 4}, {4, 4, 6}, {4, 9, 3}} // the last one says whether it waits, and for what
	for i := range 2 {
		for j, gens := range drops {
			wants(t, "P5.1: Drop", a.Drop(5+j, gens[i]), api.OK)
			is(t, "P5.1: somebody holds it yet", a, 0, 0, 5+j, 2-i)
		}
		frees(t, "P5.1: nothing waits", a, math.MaxInt, 0)
		full(t, "P5.2: all are held", a)
	}
	for j, gens := range drops {
		wants(t, "P5.1: Drop", a.Drop(5+j, gens[2]), api.OK)
	}
	is(t, "P5.1: one is free, two wait", a, 1, 2, 5, 0, 0, 0)
	frees(t, "P5.1: none waits for 2", a, 2, 0)
	frees(t, "P5.1: one waits for 3", a, 3, 1)
	frees(t, "P5.1: none waits for 5", a, 5, 0)
	frees(t, "P5.1: one waits for 6", a, 6, 1)
	is(t, "P5.1: all is free", a, 3, 0, 5, 0, 0, 0)
}

// TestBirthIsTheLastOne asks whether something of an earlier life is kept.
func TestBirthIsTheLastOne(t *testing.T) {
	a := made(t, 0, 1)
	takes(t, "P5.1: Take", a, 1, 0)
	wants(t, "P5.1: Drop", a.Drop(0, 2), api.OK)
	frees(t, "P5.1: it waited", a, 2, 1)
	takes(t, "P5.1: Take", a, 5, 0)
	wants(t, "P5.1: Drop", a.Drop(0, 1), api.OK)
	is(t, "P5.1: it isn't born in 1 any more", a, 0, 1, 0, 0)
	frees(t, "P5.1: it waits for 1 now", a, 0, 0)
	frees(t, "P5.1: it waits for 1 now", a, 1, 1)
	takes(t, "P5.1: Take", a, 2, 0)
	wants(t, "P5.1: Drop", a.Drop(0, 2), api.OK)
	is(t, "P5.1: it is born in 2", a, 1, 0, 0, 0)
	frees(t, "P5.1: nothing waits", a, math.MaxInt, 0)
}

func TestFree(t *testing.T) {
	a := made(t, 1, 9)
	frees(t, "P5.1: nothing is known", a, math.MaxInt, 0)
	takes(t, "P5.1: Take", a, 0, 1, 2, 3, 4, 5, 6, 7)
	for i, gen := range []int{3, 1, 3, 2, 3, 9} {
		wants(t, "P5.1: Drop", a.Drop(1+i, gen), api.OK)
	}
	is(t, "P5.1: six wait, one is held, one is free", a, 1, 6, 1, 0, 0, 0, 0, 0, 0, 1, 0)
	frees(t, "P5.1: a lesser one than all", a, 0, 0)
	is(t, "P5.1: a lesser one than all", a, 1, 6, 7, 1)
	frees(t, "P5.1: of 1 and 2", a, 2, 2)
	is(t, "P5.1: of 1 and 2", a, 3, 4, 7, 1)
	frees(t, "P5.1: once more", a, 2, 0)
	takes(t, "P5.1: what waited for 1 and 2, then what was free", a, 3, 2, 4, 8)
	full(t, "P5.3: what waits for 3 and 9", a)
	frees(t, "P5.1: of 3", a, 8, 3)
	is(t, "P5.1: of 3", a, 3, 1, 1, 0, 1, 0, 1, 0, 0, 1, 1)
	frees(t, "P5.1: of 9", a, math.MaxInt, 1)
	frees(t, "P5.1: what is held stays", a, math.MaxInt, 0)
	is(t, "P5.1: what is held stays", a, 4, 0, 1, 0, 1, 0, 1, 0, 0, 1, 1)
	takes(t, "P5.1: in the end", a, 4, 1, 3, 5, 6)
	full(t, "P5.1: in the end", a)
}

// TestFreeIsNotKept: a generation that is over isn't remembered; what is dropped for it later waits again.
func TestFreeIsNotKept(t *testing.T) {
	a := made(t, 0, 2)
	frees(t, "P5.1: nothing waits", a, math.MaxInt, 0)
	takes(t, "P5.1: Take", a, 1, 0, 1)
	wants(t, "P5.1: Drop", a.Drop(0, 2), api.OK)
	is(t, "P5.1: it waits", a, 0, 1, 0, 0, 1)
	full(t, "P5.3: it waits", a)
	frees(t, "P5.1: its generation", a, 2, 1)
	wants(t, "P5.1: Drop", a.Drop(1, 2), api.OK)
	is(t, "P5.1: it waits", a, 1, 1, 0, 0, 0)
	frees(t, "P5.1: its generation, again", a, 2, 1)
}

func TestGenerationsThatAreNegativeOrHuge(t *testing.T) {
	a := made(t, 0, len(odd))
	for i, gen := range odd {
		takes(t, "P5.1: Take", a, gen, i)
	}
	for i, gen := range odd {
		wants(t, "P5.1: Drop", a.Drop(i, gen^1), api.OK)
	}
	is(t, "P5.1: all wait", a, 0, len(odd), 0, make([]int, len(odd))...)
	left := map[int]int{}
	for _, gen := range odd {
		left[gen^1]++
	}
	for len(left) > 0 {
		least := math.MaxInt
		for gen := range left {
			least = min(least, gen)
		}
		if least > math.MinInt {
			frees(t, "P5.3: a lesser one", a, least-1, 0)
		}
		frees(t, "P5.1: the least one", a, least, left[least])
		delete(left, least)
	}
	is(t, "P5.4: all is free", a, len(odd), 0, 0, make([]int, len(odd))...)
}

func TestCountOfWhatIsNotThere(t *testing.T) {
	a := made(t, 3, 5)
	takes(t, "P5.1: Take", a, 0, 3, 4)
	for _, n := range append(slices.Clone(odd), 2, 5, 6, 4096, 1<<32+3) {
		if got := a.Count(n); got != 0 {
			t.Errorf("P5.1: Count(%d): %d", n, got)
		}
	}
	is(t, "P5.1: Count of those that are there", a, 0, 0, 3, 1, 1)
}

// TestWhatWaitsStaysSo asks what waits all that it may be asked: it goes on waiting, for the same generation.
func TestWhatWaitsStaysSo(t *testing.T) {
	for _, gen := range []int{-3, 4, 5, 6, 1000} {
		a := made(t, 0, 1)
		takes(t, "P5.1: Take", a, 1, 0)
		wants(t, "P5.1: Drop", a.Drop(0, 5), api.OK)
		wants(t, "P5.1: dropped again", a.Drop(0, gen), api.ErrFree)
		wants(t, "P5.1: dropped again in its generation of birth", a.Drop(0, 1), api.ErrFree)
		wants(t, "P5.1: held again", a.Hold(0), api.ErrFree)
		wants(t, "P5.1: marked", a.Mark(0, gen), api.ErrThere)
		full(t, "P5.3: taken", a)
		is(t, "P5.1: it waits", a, 0, 1, 0, 0)
		frees(t, "P5.3: for the same generation", a, 4, 0)
		is(t, "P5.1: it waits", a, 0, 1, 0, 0)
		frees(t, "P5.1: for the same generation", a, 5, 1)
		is(t, "P5.1: it is free", a, 1, 0, 0, 0)
	}
}

func TestNilAllocator(t *testing.T) {
	var a *alloc.Alloc
	for _, n := range odd {
		if s, e := a.Take(n); s != 0 || e != api.ErrNil {
			t.Error("P5.1: Take of a nil allocator", s, e)
		}
		for _, gen := range odd {
			wants(t, "P5.1: Mark of a nil allocator", a.Mark(n, gen), api.ErrNil)
			wants(t, "P5.1: Drop of a nil allocator", a.Drop(n, gen), api.ErrNil)
		}
		wants(t, "P5.1: Hold of a nil allocator", a.Hold(n), api.ErrNil)
		if a.Free(n) != 0 || a.Count(n) != 0 {
			t.Error("P5.1: Free, Count of a nil allocator", n)
		}
	}
	if a.Room() != 0 || a.Waiting() != 0 {
		t.Error("P5.1: Room, Waiting of a nil allocator")
	}
}

func TestTwoAllocators(t *testing.T) {
	a, b := made(t, 0, 4), made(t, 0, 4)
	takes(t, "P5.1: one", a, 1, 0, 1, 2)
	is(t, "P0.5: the other one has nothing of it", b, 4, 0, 0, 0, 0, 0, 0)
	takes(t, "P5.1: the other one", b, 1, 0)
	wants(t, "P5.1: Hold", b.Hold(0), api.OK)
	wants(t, "P5.1: Drop", a.Drop(0, 5), api.OK)
	wants(t, "P5.1: Drop", a.Drop(1, 1), api.OK)
	is(t, "P0.5: one", a, 2, 1, 0, 0, 0, 1, 0)
	is(t, "P0.5: the other one", b, 3, 0, 0, 2, 0, 0, 0)
	frees(t, "P0.5: nothing waits there", b, 5, 0)
	is(t, "P0.5: one", a, 2, 1, 0, 0, 0, 1, 0)
	frees(t, "P5.1: one", a, 5, 1)
	wants(t, "P0.5: nobody holds it there", b.Drop(2, 1), api.ErrFree)
	takes(t, "P0.5: one", a, 2, 0, 1, 3)
	takes(t, "P0.5: the other one", b, 2, 1, 2, 3)
	wants(t, "P5.1: Drop", b.Drop(3, 3), api.OK)
	is(t, "P0.5: one", a, 0, 0, 0, 1, 1, 1, 1)
	is(t, "P0.5: the other one", b, 0, 1, 0, 2, 1, 1, 0)
}
