package heap_test

import (
	"strings"
	"testing"

	"coppice/api"
	"coppice/disk"
	"coppice/heap"
)

func TestGet(t *testing.T) {
	h, d := made(t, 16, 1)
	nodes := []api.Node{
		leaf("a"), leaf("a", "b", "c"), leaf("\x00", "\x00\x00", "\xff"), bigLeaf(1007),
		{Leaf: true, Items: []api.Item{{Key: strings.Repeat("k", 272), Value: strings.Repeat("v", 160)}, {Key: "l"}}},
		above(2), above(2, 3, 4), above(2, 2, 7), {Kids: []api.Kid{{Key: "x", Place: 3}, {Key: strings.Repeat("y", 272), Place: 8}}},
	}
	for i, n := range nodes {
		puts(t, "P7.1: Put", h, n, 2+i)
	}
	for range 2 {
		for i, n := range nodes {
			gets(t, "P7.1: Get", h, 2+i, n)
		}
		wants(t, "P7.1: Settle", h.Settle(), api.OK)
		d.Flush()
	}
}

func TestGetOfWhatNobodyHolds(t *testing.T) {
	h, d := made(t, 8, 1)
	puts(t, "P7.1: Put", h, leaf("a"), 2)
	puts(t, "P7.1: Put", h, leaf("b"), 3)
	wants(t, "P7.1: Settle", h.Settle(), api.OK)
	puts(t, "P7.1: Put", h, leaf("c"), 4)
	wants(t, "P7.1: Drop of one that waits then", h.Drop(3), api.OK)
	wants(t, "P7.1: Drop of one that is free then", h.Drop(4), api.OK)
	for range 2 {
		for _, p := range append([]int{3, 4, 5, 6, 7}, noPlaces...) {
			getsNot(t, "P7.1: nobody holds it", h, p, api.ErrFree)
		}
		cut(t, d) // ErrFree comes ahead of the disk's error
	}
	getsNot(t, "P7.1: held, without power", h, 2, api.ErrDown)
}

// noNodes are sectors that are no block of a node of its kind.
func noNodes(t *testing.T) map[string]string {
	t.Helper()
	leafBytes, kidsBytes := "\x01\x01\x01a\x01b", "\x02\x01\x01a\x05"
	turned := []byte(blockOf(t, 1, 1, leafBytes))
	turned[15] ^= 4
	return map[string]string{
		"zeros":                       strings.Repeat("\x00", 1024),
		"bytes that are no block":     strings.Repeat("no block", 128),
		"a block with a bit turned":   string(turned),
		"kind 0, a leaf":              blockOf(t, 0, 1, leafBytes),
		"kind 0, a node with kids":    blockOf(t, 0, 1, kidsBytes),
		"kind 3, a leaf":              blockOf(t, 3, 1, leafBytes),
		"kind 3, a node with kids":    blockOf(t, 3, 1, kidsBytes),
		"kind 255":                    blockOf(t, 255, 1, leafBytes),
		"kind 1, a node with kids":    blockOf(t, 1, 1, kidsBytes),
		"kind 2, a leaf":              blockOf(t, 2, 1, leafBytes),
		"kind 1, no payload":          blockOf(t, 1, 1, ""),
		"kind 2, no payload":          blockOf(t, 2, 1, ""),
		"kind 1, no node":             blockOf(t, 1, 1, "no node"),
		"kind 2, no node":             blockOf(t, 2, 1, "no node"),
		"kind 1, a byte too many":     blockOf(t, 1, 1, leafBytes+"\x00"),
		"kind 1, a byte too few":      blockOf(t, 1, 1, leafBytes[:5]),
		"kind 2, a byte too many":     blockOf(t, 2, 1, kidsBytes+"\x00"),
		"kind 2, a kid in sector 1":   blockOf(t, 2, 1, "\x02\x01\x01a\x01"),
		"kind 1, a leaf of nothing":   blockOf(t, 1, 1, "\x01\x00"),
		"kind 2, a node without kids": blockOf(t, 2, 1, "\x02\x00"),
	}
}

func TestGetOfWhatIsLost(t *testing.T) {
	for what, sector := range noNodes(t) {
		h, d := made(t, 8, 1)
		puts(t, "P7.1: Put", h, leaf("a"), 2)
		puts(t, "P7.1: Put", h, above(2), 3)
		for p := 2; p < 4; p++ {
			writes(t, d, p, sector)
			getsNot(t, "P7.1: "+what, h, p, api.ErrLost)
		}
		is(t, "P7.1: it is held as it was", h, 1, 4, 2, 1)
	}
}

func TestGetOfAnotherNode(t *testing.T) {
	h, d := made(t, 8, 1)
	puts(t, "P7.1: Put", h, leaf("a"), 2)
	for _, gen := range []int{0, 1, 2, api.MaxGen} {
		writes(t, d, 2, sectorOf(t, 1, gen, leaf("other")))
		gets(t, "P7.1: a leaf of any generation", h, 2, leaf("other"))
		writes(t, d, 2, sectorOf(t, 2, gen, above(5, 4095)))
		gets(t, "P7.1: a node with any kids", h, 2, above(5, 4095))
	}
}

func TestHold(t *testing.T) {
	h, d := made(t, 8, 1)
	for _, p := range append([]int{2, 7}, noPlaces...) {
		wants(t, "P7.1: Hold of what nobody holds", h.Hold(p), api.ErrFree)
	}
	puts(t, "P7.1: Put", h, leaf("a"), 2)
	puts(t, "P7.1: Put", h, above(2), 3)
	wants(t, "P7.1: Hold", h.Hold(3), api.OK)
	is(t, "P7.1: not what is below it", h, 1, 4, 2, 2)
	wants(t, "P7.1: Hold", h.Hold(2), api.OK)
	is(t, "P7.1: one holder more", h, 1, 4, 3, 2)
	cut(t, d)
	wants(t, "P7.1: Hold without power", h.Hold(2), api.OK)
	wants(t, "P7.1: Settle", h.Settle(), api.OK)
	for range 4 {
		wants(t, "P7.1: Drop", h.Drop(2), api.OK)
	}
	wants(t, "P7.1: Hold of what waits", h.Hold(2), api.ErrFree)
}

func TestHoldUpToMaxCount(t *testing.T) {
	h, _ := made(t, 8, 1)
	puts(t, "P7.1: Put", h, leaf("a"), 2)
	for i := 1; i < 5000; i++ {
		is(t, "P7.1: Count", h, 1, 5, i)
		wants(t, "P7.1: Hold", h.Hold(2), api.OK)
	}
	for range 2 {
		wants(t, "P7.1: Hold above MaxCount", h.Hold(2), api.ErrMany)
		is(t, "P7.1: MaxCount", h, 1, 5, 5000)
	}
	for i := 5000; i > 0; i-- {
		is(t, "P7.1: Count", h, 1, 5, i)
		gets(t, "P7.2: as long as somebody holds it", h, 2, leaf("a"))
		wants(t, "P7.1: Drop", h.Drop(2), api.OK)
	}
	is(t, "P7.1: it is free", h, 1, 6, 0)
	wants(t, "P7.1: Drop of what is free", h.Drop(2), api.ErrFree)
}

func TestDropOfWhatNobodyHolds(t *testing.T) {
	h, d := made(t, 8, 1)
	puts(t, "P7.1: Put", h, leaf("a"), 2)
	puts(t, "P7.1: Put", h, above(2), 3)
	wants(t, "P7.1: Settle", h.Settle(), api.OK)
	puts(t, "P7.1: Put", h, leaf("b"), 4)
	puts(t, "P7.1: Put", h, leaf("c"), 5)
	wants(t, "P7.1: Drop of one that is free then", h.Drop(4), api.OK)
	wants(t, "P7.1: Drop of one that waits then", h.Drop(3), api.OK)
	was := stateOf(t, h, d)
	for _, p := range append([]int{3, 4, 6, 7}, noPlaces...) {
		wants(t, "P7.1: Drop of what nobody holds", h.Drop(p), api.ErrFree)
		unchanged(t, "Drop of what nobody holds", h, d, was)
	}
}

func TestDropFreesAtOnceWhatIsOfThisGeneration(t *testing.T) {
	h, _ := made(t, 12, 1)
	puts(t, "P7.1: an old leaf", h, leaf("a"), 2)
	puts(t, "P7.1: another one", h, leaf("b"), 3)
	puts(t, "P7.1: an old node", h, above(2), 4)
	wants(t, "P7.1: Settle", h.Settle(), api.OK)
	puts(t, "P7.1: a new leaf", h, leaf("c"), 5)
	puts(t, "P7.1: a new node above old and new", h, above(4, 5, 3), 6)
	for _, p := range []int{2, 3, 4, 5} {
		wants(t, "P7.1: Drop of what 6 holds", h.Drop(p), api.OK)
	}
	is(t, "P7.1: all hang on 6", h, 2, 5, 1, 1, 1, 1, 1)
	wants(t, "P7.1: Drop", h.Drop(6), api.OK)
	is(t, "P7.1: 5 and 6 are free, the others wait", h, 2, 7, 0, 0, 0, 0, 0)
	puts(t, "P7.3: what waits isn't taken", h, leaf("d"), 5)
	puts(t, "P7.3: what waits isn't taken", h, leaf("e"), 6)
	puts(t, "P7.3: what waits isn't taken", h, leaf("f"), 7)
	wants(t, "P7.1: Settle", h.Settle(), api.OK)
	is(t, "P7.1: what waited is free", h, 3, 7, 0, 0, 0, 1, 1, 1)
	puts(t, "P7.1: the least one", h, leaf("g"), 2)
}

func TestDropWhereAKidIsHeldBySeveral(t *testing.T) {
	h, _ := made(t, 16, 1)
	puts(t, "P7.1: a leaf", h, leaf("a"), 2)
	puts(t, "P7.1: above it", h, above(2), 3)
	puts(t, "P7.1: above it, too", h, above(2), 4)
	puts(t, "P7.1: above both and the leaf", h, above(3, 4, 2), 5)
	puts(t, "P7.1: another one above both", h, above(4, 3), 6)
	for _, p := range []int{2, 3, 4} {
		wants(t, "P7.1: Drop from outside", h.Drop(p), api.OK)
	}
	is(t, "P7.1: held by one another", h, 1, 9, 3, 2, 2, 1, 1)
	wants(t, "P7.1: Drop", h.Drop(5), api.OK)
	is(t, "P7.2: 6 holds both, and they the leaf", h, 1, 10, 2, 1, 1, 0, 1)
	gets(t, "P7.2: below 6", h, 3, above(2))
	gets(t, "P7.2: below 6", h, 4, above(2))
	gets(t, "P7.2: below all", h, 2, leaf("a"))
	wants(t, "P7.1: Hold", h.Hold(3), api.OK)
	wants(t, "P7.1: Drop", h.Drop(6), api.OK)
	is(t, "P7.2: 3 is held from outside", h, 1, 12, 1, 1, 0, 0, 0)
	wants(t, "P7.1: Drop", h.Drop(3), api.OK)
	is(t, "P7.5: all is free", h, 1, 14, 0, 0, 0, 0, 0)
}

func TestDropOfADeepTree(t *testing.T) {
	h, d := made(t, 4096, 1)
	puts(t, "P7.1: the leaf", h, leaf("a"), 2)
	for p := 3; p < 4096; p++ {
		puts(t, "P7.1: a level more", h, above(p-1), p)
		wants(t, "P7.1: Drop of what is below it", h.Drop(p-1), api.OK)
	}
	refuses(t, "no sector is free", h, d, leaf("b"), api.ErrNoSpace)
	for p := 2; p < 4096; p++ {
		if h.Count(p) != 1 {
			t.Fatal("P7.1: Count", p, h.Count(p))
		}
	}
	gets(t, "P7.2: the lowest one", h, 2, leaf("a"))
	o := on(t, d.Copy(), 1)
	wants(t, "P7.4: Load of a deep tree", o.Load(4095), api.OK)
	is(t, "P7.4: all of it", o, 1, 0, 1, 1, 1)
	wants(t, "P7.1: Drop of a deep tree that was loaded", o.Drop(4095), api.OK)
	is(t, "P7.5: all is free", o, 1, 4094, 0, 0, 0)
	wants(t, "P7.1: Drop of a deep tree", h.Drop(4095), api.OK)
	is(t, "P7.5: all is free", h, 1, 4094, 0, 0, 0)
}

// wide has a tree of three levels put: a root above so many nodes, each above so many leaves. What is answered is the root.
func wide(t *testing.T, h *heap.Heap, nodes, leaves int) int {
	t.Helper()
	put := func(n api.Node) int {
		p, e := h.Put(n)
		if e != api.OK {
			t.Fatal("P7.1: Put", e)
		}
		for _, k := range n.Kids {
			wants(t, "P7.1: Drop of what is below it", h.Drop(k.Place), api.OK)
		}
		return p
	}
	var tops []int
	for range nodes {
		var below []int
		for range leaves {
			below = append(below, put(leaf("a")))
		}
		tops = append(tops, put(above(below...)))
	}
	return put(above(tops...))
}

func TestDropOfAWideTree(t *testing.T) {
	h, d := made(t, 4096, 1)
	root := wide(t, h, 50, 80)
	is(t, "P7.1: a wide tree", h, 1, 4094-4051)
	for p := 2; p < 2+4051; p++ {
		if h.Count(p) != 1 {
			t.Fatal("P7.1: Count", p, h.Count(p))
		}
	}
	o := on(t, d.Copy(), 2)
	wants(t, "P7.4: Load of a wide tree", o.Load(root), api.OK)
	is(t, "P7.4: all of it", o, 2, 4094-4051, 1, 1, 1)
	wants(t, "P7.1: Drop of a wide tree", h.Drop(root), api.OK)
	is(t, "P7.5: all is free", h, 1, 4094)
	wants(t, "P7.1: Drop of a wide tree that was loaded", o.Drop(root), api.OK)
	is(t, "P7.1: all of it waits", o, 2, 4094-4051, 0, 0, 0)
	wants(t, "P7.1: Settle", o.Settle(), api.OK)
	is(t, "P7.5: all is free", o, 3, 4094)
}

// dropped is a heap of which 2 was dropped more often than it was held from outside, while 3 has it as its kid.
func dropped(t *testing.T) (*heap.Heap, *disk.Disk) {
	t.Helper()
	h, d := made(t, 8, 1)
	puts(t, "P7.1: Put", h, leaf("a"), 2)
	puts(t, "P7.1: Put", h, above(2), 3)
	wants(t, "P7.1: Drop", h.Drop(2), api.OK)
	wants(t, "P7.1: Drop of what is held from inside", h.Drop(2), api.OK)
	is(t, "P7.1: nobody holds 2", h, 1, 5, 0, 1)
	return h, d
}

func TestDropOfWhatIsNotHeldFromOutside(t *testing.T) {
	h, _ := dropped(t)
	wants(t, "P7.1: Drop of a node whose kid nobody holds", h.Drop(3), api.OK)
	is(t, "P7.1: both are free", h, 1, 6, 0, 0)

	h, _ = dropped(t)
	puts(t, "P7.1: another one in its place", h, leaf("b"), 2)
	wants(t, "P7.1: Drop of a node whose kid is another one", h.Drop(3), api.OK)
	is(t, "P7.1: the kid is dropped, whoever put it", h, 1, 6, 0, 0)

	h, _ = dropped(t)
	puts(t, "P7.1: one that has 3 below it in its place", h, above(3), 2)
	is(t, "P7.1: in a circle", h, 1, 4, 1, 2)
	wants(t, "P7.1: Drop in a circle", h.Drop(2), api.OK)
	is(t, "P7.1: 3 is held from outside", h, 1, 5, 0, 1)
	wants(t, "P7.1: Drop", h.Drop(3), api.OK)
	is(t, "P7.1: both are free", h, 1, 6, 0, 0)

	h, _ = dropped(t)
	puts(t, "P7.1: one that has 3 below it in its place", h, above(3, 3), 2)
	wants(t, "P7.1: Drop", h.Drop(3), api.OK)
	is(t, "P7.1: in a circle", h, 1, 4, 1, 2)
	wants(t, "P7.1: Drop in a circle", h.Drop(2), api.OK)
	is(t, "P7.1: all is gone", h, 1, 6, 0, 0)
}
