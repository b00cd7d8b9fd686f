package heap_test

import (
	"slices"
	"strings"
	"testing"

	"coppice/api"
	"coppice/disk"
	"coppice/heap"
)

// state is all that a heap and its disk tell, the power but for its being gone.
type state struct {
	gen, room, open int
	counts          []int
	nodes           []api.Node
	errors          []api.Errno
	sectors         []string
}

// stateOf asks a heap and its disk for all of it.
func stateOf(t *testing.T, h *heap.Heap, d *disk.Disk) state {
	t.Helper()
	s := state{gen: h.Gen(), room: h.Room(), open: d.Open()}
	for p := -1; p <= d.Sectors(); p++ {
		n, e := h.Get(p)
		s.counts, s.nodes, s.errors = append(s.counts, h.Count(p)), append(s.nodes, n), append(s.errors, e)
	}
	if !d.Down() {
		s.sectors = sectors(t, d)
	}
	return s
}

// unchanged asks whether a heap and its disk are as they were.
func unchanged(t *testing.T, what string, h *heap.Heap, d *disk.Disk, was state) {
	t.Helper()
	now := stateOf(t, h, d)
	if now.gen != was.gen || now.room != was.room || now.open != was.open || !slices.Equal(now.counts, was.counts) {
		t.Errorf("P7.1: %s: something has changed: %d %d %d %v, was %d %d %d %v", what, now.gen, now.room, now.open, now.counts, was.gen, was.room, was.open, was.counts)
	}
	if !slices.EqualFunc(now.nodes, was.nodes, same) || !slices.Equal(now.errors, was.errors) || !slices.Equal(now.sectors, was.sectors) {
		t.Errorf("P7.1: %s: something has changed in what is read", what)
	}
}

// refuses asks whether Put answers this error, and changes nothing.
func refuses(t *testing.T, what string, h *heap.Heap, d *disk.Disk, n api.Node, want api.Errno) {
	t.Helper()
	was := stateOf(t, h, d)
	if p, e := h.Put(n); p != 0 || e != want {
		t.Errorf("P7.1: Put, %s: %d, error %d, want 0 and %d", what, p, e, want)
	}
	unchanged(t, what, h, d, was)
}

// bigLeaf is a right leaf of just so many bytes, from 929 to 1055.
func bigLeaf(size int) api.Node {
	n := api.Node{Leaf: true}
	for i := range 6 { // 154 bytes each, behind two that stand ahead of all
		n.Items = append(n.Items, api.Item{Key: string(rune('a' + i)), Value: strings.Repeat("v", 150)})
	}
	n.Items = append(n.Items, api.Item{Key: strings.Repeat("k", size-928)})
	return n
}

// bigAbove is a right node of kids at a place that has too many bytes.
func bigAbove(place int) api.Node {
	return above(slices.Repeat([]int{place}, 300)...)
}

// wrongNodes are nodes that aren't right; those with kids have them at a place.
func wrongNodes(place int) map[string]api.Node {
	return map[string]api.Node{
		"the zero node":         {},
		"a leaf without items":  {Leaf: true},
		"no kids":               {Kids: []api.Kid{}},
		"a leaf with kids":      {Leaf: true, Items: leaf("a").Items, Kids: above(place).Kids},
		"a leaf of kids alone":  {Leaf: true, Kids: above(place).Kids},
		"items without a leaf":  {Items: leaf("a").Items},
		"items beside kids":     {Items: leaf("a").Items, Kids: above(place).Kids},
		"an empty key":          leaf(""),
		"a long key":            leaf(strings.Repeat("k", 273)),
		"a long value":          {Leaf: true, Items: []api.Item{{Key: "a", Value: strings.Repeat("v", 161)}}},
		"keys that fall":        leaf("b", "a"),
		"a key twice":           leaf("a", "a"),
		"kids' keys that fall":  {Kids: []api.Kid{{Key: "b", Place: place}, {Key: "a", Place: place}}},
		"a kid's key twice":     {Kids: []api.Kid{{Key: "", Place: place}, {Key: "", Place: place}}},
		"a kid's long key":      {Kids: []api.Kid{{Key: strings.Repeat("k", 273), Place: place}}},
		"a kid in sector 1":     above(place, 1),
		"a kid in sector 0":     above(0),
		"a kid in sector -1":    above(-1),
		"a kid in sector 4096":  above(4096),
		"a kid far off":         above(1 << 62),
		"a kid in sector - far": above(-1 << 63),
	}
}

func TestPutWritesABlock(t *testing.T) {
	h, d := made(t, 8, 258)
	puts(t, "P7.1: a leaf", h, leaf("k"), 2)
	puts(t, "P7.1: a node with kids", h, above(2), 3)
	tail := strings.Repeat("\x00", 1000)
	for place, want := range map[int]string{
		2: "CP\x01\x00\x06\x00\x00\x00\x00\x00\x00\x01\x02\x01\x01\x01k\x01K" + tail,
		3: "CP\x02\x00\x04\x00\x00\x00\x00\x00\x00\x01\x02\x02\x01\x00\x02" + tail,
	} {
		if s, e := d.Read(place); e != api.OK || !strings.HasPrefix(s, want) {
			t.Errorf("P7.1: what stands in sector %d: % x, error %d", place, s[:20], e)
		}
	}
	if d.Open() != 2 {
		t.Error("P7.1: Put writes once and flushes nothing; open:", d.Open())
	}
	zeros := strings.Repeat("\x00", api.SectorBytes)
	for _, n := range []int{0, 1, 4, 5, 6, 7} {
		if s, _ := d.Read(n); s != zeros {
			t.Error("P7.1: Put has written into another sector", n)
		}
	}
}

func TestPutWritesByTheGeneration(t *testing.T) {
	for _, gen := range []int{0, 1, 77, api.MaxGen} {
		h, d := made(t, 8, gen)
		puts(t, "P7.1: Put", h, leaf("a"), 2)
		if s, _ := d.Read(2); s != sectorOf(t, 1, gen, leaf("a")) {
			t.Error("P7.1: a block of another generation", gen)
		}
		if gen == api.MaxGen {
			continue
		}
		wants(t, "P7.1: Settle", h.Settle(), api.OK)
		puts(t, "P7.1: Put", h, above(2, 2), 3)
		if s, _ := d.Read(3); s != sectorOf(t, 2, gen+1, above(2, 2)) {
			t.Error("P7.1: a block of another generation behind Settle", gen)
		}
	}
}

func TestPutTakesTheLeastFreeSector(t *testing.T) {
	h, _ := made(t, 10, 1)
	for want := 2; want < 10; want++ {
		puts(t, "P7.1: one by one", h, leaf("a"), want)
	}
	for _, p := range []int{7, 3, 9} {
		wants(t, "P7.1: Drop", h.Drop(p), api.OK)
	}
	for _, want := range []int{3, 7, 9} {
		puts(t, "P7.1: the least one", h, leaf("b"), want)
	}
	wants(t, "P7.1: Settle", h.Settle(), api.OK)
	wants(t, "P7.1: Drop of 4, which waits", h.Drop(4), api.OK)
	wants(t, "P7.1: Drop of 6, which waits", h.Drop(6), api.OK)
	is(t, "P7.1: both wait", h, 2, 0)
	wants(t, "P7.1: Settle", h.Settle(), api.OK)
	puts(t, "P7.1: the least one that waited", h, leaf("c"), 4)
	puts(t, "P7.1: the other one", h, leaf("c"), 6)
}

func TestPutOfNodesThatAreNotRight(t *testing.T) {
	h, d := made(t, 8, 1)
	puts(t, "P7.1: Put", h, leaf("a"), 2)
	for what, n := range wrongNodes(2) {
		refuses(t, what, h, d, n, api.ErrNode)
	}
	puts(t, "P7.1: the power and the sectors are as they were", h, leaf("b"), 3)
}

func TestPutOfNodesThatAreTooBig(t *testing.T) {
	h, d := made(t, 8, 1)
	for size := 1008; size <= 1055; size++ {
		refuses(t, "a big leaf", h, d, bigLeaf(size), api.ErrBig)
	}
	puts(t, "P7.1: one of 1007 bytes fits", h, bigLeaf(1007), 2)
	gets(t, "P7.1: one of 1007 bytes", h, 2, bigLeaf(1007))
	refuses(t, "big, with kids", h, d, bigAbove(2), api.ErrBig)
	is(t, "P7.1: nobody holds the kid more", h, 1, 5, 1)
}

func TestPutOfKidsThatNobodyHolds(t *testing.T) {
	h, d := made(t, 8, 1)
	refuses(t, "no kid is held", h, d, above(2), api.ErrFree)
	puts(t, "P7.1: Put", h, leaf("a"), 2)
	puts(t, "P7.1: Put", h, leaf("b"), 3)
	for _, p := range []int{4, 7, 8, 9, 4095} {
		refuses(t, "one kid", h, d, above(p), api.ErrFree)
		refuses(t, "the first kid", h, d, above(p, 2, 3), api.ErrFree)
		refuses(t, "the kid amid", h, d, above(2, p, 3), api.ErrFree)
		refuses(t, "the last kid", h, d, above(2, 3, p), api.ErrFree)
	}
	wants(t, "P7.1: Drop", h.Drop(2), api.OK)
	refuses(t, "a kid that is free again", h, d, above(2), api.ErrFree)
	wants(t, "P7.1: Settle", h.Settle(), api.OK)
	wants(t, "P7.1: Drop", h.Drop(3), api.OK)
	refuses(t, "a kid that waits", h, d, above(3), api.ErrFree)
}

func TestPutOfKidsThatAreNamedSeveralTimes(t *testing.T) {
	h, _ := made(t, 10, 1)
	puts(t, "P7.1: Put", h, leaf("a"), 2)
	puts(t, "P7.1: Put", h, leaf("b"), 3)
	puts(t, "P7.1: 2 thrice and 3 twice", h, above(2, 3, 2, 3, 2), 4)
	is(t, "P7.1: as often as it is named", h, 1, 5, 4, 3, 1, 0)
	puts(t, "P7.1: once more", h, above(4, 4, 2), 5)
	is(t, "P7.1: as often as it is named", h, 1, 4, 5, 3, 3, 1)
	gets(t, "P7.1: Get", h, 4, above(2, 3, 2, 3, 2))
	wants(t, "P7.1: Drop of the leaf", h.Drop(2), api.OK)
	wants(t, "P7.1: Drop of the other", h.Drop(3), api.OK)
	wants(t, "P7.1: Drop of the node", h.Drop(4), api.OK)
	is(t, "P7.2: all are held by others", h, 1, 4, 4, 2, 2, 1)
	wants(t, "P7.1: Drop of the root", h.Drop(5), api.OK)
	is(t, "P7.5: each as often as it is named", h, 1, 8, 0, 0, 0, 0)
}

func TestPutOfKidsWithTooManyHolders(t *testing.T) {
	h, d := made(t, 16, 1)
	puts(t, "P7.1: Put", h, leaf("a"), 2)
	puts(t, "P7.1: Put", h, leaf("b"), 3)
	holds(t, h, 2, 4998)
	refuses(t, "three holders more", h, d, above(2, 2, 2), api.ErrMany)
	refuses(t, "three, another one between", h, d, above(2, 3, 2, 3, 2), api.ErrMany)
	puts(t, "P7.1: one holder more", h, above(2), 4)
	refuses(t, "two holders more", h, d, above(2, 2), api.ErrMany)
	puts(t, "P7.1: the last holder", h, above(3, 2), 5)
	is(t, "P7.1: MaxCount holders", h, 1, 10, 5000, 2, 1, 1)
	refuses(t, "above MaxCount", h, d, above(2), api.ErrMany)
	refuses(t, "the first kid", h, d, above(2, 3), api.ErrMany)
	refuses(t, "the last kid", h, d, above(3, 2), api.ErrMany)
	puts(t, "P7.1: another kid", h, above(3), 6)
	wants(t, "P7.1: Drop", h.Drop(5), api.OK)
	puts(t, "P7.1: one holder less, and one more", h, above(2), 5)
	holds(t, h, 3, 4999)
	puts(t, "P7.1: the last one of the other", h, above(3), 7)
	refuses(t, "both", h, d, above(2, 3), api.ErrMany)
}

func TestPutTwiceTheLastHolders(t *testing.T) {
	h, _ := made(t, 8, 1)
	puts(t, "P7.1: Put", h, leaf("a"), 2)
	holds(t, h, 2, 4998)
	puts(t, "P7.1: two holders more, up to MaxCount", h, above(2, 2), 3)
	is(t, "P7.1: MaxCount holders", h, 1, 4, 5000, 1)
	wants(t, "P7.1: Drop", h.Drop(3), api.OK)
	is(t, "P7.1: both less", h, 1, 5, 4998, 0)
}

// filled is a heap of 8 sectors, none of which is free: leaves in 2 to 6, of which 2 has MaxCount holders, and 7 waits.
func filled(t *testing.T) (*heap.Heap, *disk.Disk) {
	t.Helper()
	h, d := made(t, 8, 1)
	for p := 2; p < 8; p++ {
		puts(t, "P7.1: Put", h, leaf("a"), p)
	}
	holds(t, h, 2, 5000)
	wants(t, "P7.1: Settle", h.Settle(), api.OK)
	wants(t, "P7.1: Drop", h.Drop(7), api.OK)
	is(t, "P7.1: none is free", h, 2, 0, 5000, 1, 1, 1, 1, 0)
	return h, d
}

func TestPutWithNoSectorFree(t *testing.T) {
	h, d := filled(t)
	refuses(t, "a leaf", h, d, leaf("b"), api.ErrNoSpace)
	refuses(t, "a node with kids", h, d, above(3, 4), api.ErrNoSpace)
	wants(t, "P7.1: Settle", h.Settle(), api.OK)
	puts(t, "P7.1: what waited is free", h, above(3, 4), 7)
	refuses(t, "full again", h, d, leaf("b"), api.ErrNoSpace)
}

func TestPutWithoutPower(t *testing.T) {
	h, d := made(t, 8, 1)
	puts(t, "P7.1: Put", h, leaf("a"), 2)
	d.Power(1)
	puts(t, "P7.1: the last call of the power", h, above(2), 3)
	was := stateOf(t, h, d)
	if p, e := h.Put(above(2, 3)); p != 0 || e != api.ErrDown {
		t.Error("P7.1: Put where the power goes", p, e)
	}
	if !d.Down() {
		t.Error("P7.1: Put asks the disk to write")
	}
	is(t, "P7.1: nothing has changed but the power", h, was.gen, was.room, was.counts[3:]...)
	refuses(t, "the power is gone", h, d, leaf("b"), api.ErrDown)
	refuses(t, "the power is gone, with kids", h, d, above(2, 3), api.ErrDown)
	getsNot(t, "P7.1: the power is gone", h, 2, api.ErrDown)
	wants(t, "P7.1: Drop without power", h.Drop(3), api.OK)
	is(t, "P7.1: the kids are known without the disk", h, 1, 5, 1, 0)
	wants(t, "P7.1: Drop without power", h.Drop(2), api.OK)
	is(t, "P7.5: all is free", h, 1, 6, 0, 0)
}

func TestPutThatFailedKeepsNoSectorWaiting(t *testing.T) {
	h, d := made(t, 8, 5)
	d.Power(0)
	for range 10 {
		_, e := h.Put(leaf("a"))
		wants(t, "P7.1: Put without power", e, api.ErrDown)
		is(t, "P7.1: the sector is free again", h, 5, 6, 0)
	}
}

func TestWhatIsRefusedIsNoCallOfThePower(t *testing.T) {
	h, d := filled(t)
	d.Power(1)
	for _, n := range []api.Node{{}, bigLeaf(1008), above(7), above(2), leaf("a")} {
		if _, e := h.Put(n); e == api.OK || e == api.ErrDown {
			t.Error("P7.1: Put that is to be refused ahead of the write", e)
		}
	}
	if d.Down() {
		t.Fatal("P7.1: a call of the disk where no sector is free")
	}
	wants(t, "P7.1: Settle", h.Settle(), api.OK)
	puts(t, "P7.1: the power's one call is left", h, leaf("b"), 7)
	_, e := h.Put(bigLeaf(1008))
	wants(t, "P7.1: too big", e, api.ErrBig)
	if d.Down() {
		t.Error("P7.1: a call of the disk for a node that is too big")
	}
}

func TestWhichErrorOfPutComesFirst(t *testing.T) {
	for _, down := range []bool{false, true} {
		h, d := filled(t)
		if down {
			cut(t, d)
		}
		for what, n := range wrongNodes(2) {
			refuses(t, what+", with too many holders", h, d, n, api.ErrNode)
		}
		for what, n := range wrongNodes(7) {
			refuses(t, what+", that nobody holds", h, d, n, api.ErrNode)
		}
		wrongAndBig := bigAbove(2)
		wrongAndBig.Kids[299].Key = ""
		refuses(t, "not right, and too big", h, d, wrongAndBig, api.ErrNode)
		refuses(t, "too big, with too many holders", h, d, bigAbove(2), api.ErrBig)
		refuses(t, "too big, with kids that nobody holds", h, d, bigAbove(7), api.ErrBig)
		refuses(t, "too big a leaf", h, d, bigLeaf(1008), api.ErrBig)
		refuses(t, "one with too many holders, one that nobody holds", h, d, above(2, 7), api.ErrFree)
		refuses(t, "one that nobody holds, one with too many holders", h, d, above(7, 2), api.ErrFree)
		refuses(t, "too many holders", h, d, above(3, 2), api.ErrMany)
		refuses(t, "no sector free", h, d, above(3, 4), api.ErrNoSpace)
	}
}
