package heap_test

import (
	"math"
	"strings"
	"testing"

	"coppice/api"
	"coppice/block"
	"coppice/disk"
	"coppice/heap"
	"coppice/node"
)

// The calls as the chapter lists them.
var (
	_ func(d *disk.Disk, gen int) (*heap.Heap, api.Errno)       = heap.New
	_ func(h *heap.Heap, n api.Node) (place int, err api.Errno) = (*heap.Heap).Put
	_ func(h *heap.Heap, place int) (api.Node, api.Errno)       = (*heap.Heap).Get
	_ func(h *heap.Heap, place int) api.Errno                   = (*heap.Heap).Hold
	_ func(h *heap.Heap, place int) api.Errno                   = (*heap.Heap).Drop
	_ func(h *heap.Heap, place int) api.Errno                   = (*heap.Heap).Load
	_ func(h *heap.Heap) api.Errno                              = (*heap.Heap).Settle
	_ func(h *heap.Heap) (gen int)                              = (*heap.Heap).Gen
	_ func(h *heap.Heap) (free int)                             = (*heap.Heap).Room
	_ func(h *heap.Heap, place int) (holders int)               = (*heap.Heap).Count
)

// noPlaces are numbers that are the places of no nodes on a disk of 8 sectors.
var noPlaces = []int{math.MinInt, -4096, -1, 0, 1, 8, 9, 4095, 4096, math.MaxInt}

// leaf is a leaf of these keys; each has itself, turned into capitals, as its value.
func leaf(keys ...string) api.Node {
	n := api.Node{Leaf: true}
	for _, k := range keys {
		n.Items = append(n.Items, api.Item{Key: k, Value: strings.ToUpper(k)})
	}
	return n
}

// above is a node of kids at these places.
func above(places ...int) api.Node {
	n := api.Node{}
	for i, p := range places {
		key := "" // the first kid's may be empty
		if i > 0 {
			key = string([]byte{byte(i >> 8), byte(i)})
		}
		n.Kids = append(n.Kids, api.Kid{Key: key, Place: p})
	}
	return n
}

// same tells whether two nodes are alike; a nil list is an empty one.
func same(a, b api.Node) bool {
	if a.Leaf != b.Leaf || len(a.Items) != len(b.Items) || len(a.Kids) != len(b.Kids) {
		return false
	}
	for i := range a.Items {
		if a.Items[i] != b.Items[i] {
			return false
		}
	}
	for i := range a.Kids {
		if a.Kids[i] != b.Kids[i] {
			return false
		}
	}
	return true
}

// blank is a new disk.
func blank(t *testing.T, sectors int) *disk.Disk {
	t.Helper()
	d, e := disk.New(sectors)
	if e != api.OK {
		t.Fatal("a new disk", sectors, e)
	}
	return d
}

// on is a heap on a disk that New answers without an error.
func on(t *testing.T, d *disk.Disk, gen int) *heap.Heap {
	t.Helper()
	h, e := heap.New(d, gen)
	if e != api.OK || h == nil {
		t.Fatal("P7.1: New", d.Sectors(), gen, e)
	}
	return h
}

// made is a heap on a disk of its own.
func made(t *testing.T, sectors, gen int) (*heap.Heap, *disk.Disk) {
	t.Helper()
	d := blank(t, sectors)
	return on(t, d, gen), d
}

// puts asks whether Put answers this place.
func puts(t *testing.T, what string, h *heap.Heap, n api.Node, want int) {
	t.Helper()
	if p, e := h.Put(n); e != api.OK || p != want {
		t.Errorf("%s: Put: %d, error %d, want %d", what, p, e, want)
	}
}

// wants asks whether a call answered this error.
func wants(t *testing.T, what string, got, want api.Errno) {
	t.Helper()
	if got != want {
		t.Errorf("%s: error %d, want %d", what, got, want)
	}
}

// gets asks whether Get answers this node.
func gets(t *testing.T, what string, h *heap.Heap, place int, want api.Node) {
	t.Helper()
	if n, e := h.Get(place); e != api.OK || !same(n, want) {
		t.Errorf("%s: Get(%d): %v, error %d, want %v", what, place, n, e, want)
	}
}

// getsNot asks whether Get answers this error, and no node.
func getsNot(t *testing.T, what string, h *heap.Heap, place int, want api.Errno) {
	t.Helper()
	if n, e := h.Get(place); e != want || !same(n, api.Node{}) {
		t.Errorf("%s: Get(%d): %v, error %d, want no node and %d", what, place, n, e, want)
	}
}

// is asks for the generation, how many are free, and how many hold the sectors from 2 on.
func is(t *testing.T, what string, h *heap.Heap, gen, room int, counts ...int) {
	t.Helper()
	if h.Gen() != gen || h.Room() != room {
		t.Errorf("%s: generation %d, room %d; want %d, %d", what, h.Gen(), h.Room(), gen, room)
	}
	for i, want := range counts {
		if got := h.Count(2 + i); got != want {
			t.Errorf("%s: Count(%d): %d, want %d", what, 2+i, got, want)
		}
	}
}

// holds has a place held so often in all.
func holds(t *testing.T, h *heap.Heap, place, count int) {
	t.Helper()
	for h.Count(place) < count {
		if e := h.Hold(place); e != api.OK {
			t.Fatal("P7.1: Hold", place, h.Count(place), e)
		}
	}
}

// sectorOf is the sector of a block with a node's bytes.
func sectorOf(t *testing.T, kind, gen int, n api.Node) string {
	t.Helper()
	payload, e := node.Encode(n)
	if e != api.OK {
		t.Fatal("a node that is no node", n, e)
	}
	return blockOf(t, kind, gen, payload)
}

// blockOf is the sector of a block.
func blockOf(t *testing.T, kind, gen int, payload string) string {
	t.Helper()
	s, e := block.Wrap(api.Block{Kind: kind, Gen: gen, Payload: payload})
	if e != api.OK {
		t.Fatal("a block that is no block", kind, gen, e)
	}
	return s
}

// writes has a sector written past the heap.
func writes(t *testing.T, d *disk.Disk, place int, sector string) {
	t.Helper()
	if e := d.Write(place, sector); e != api.OK {
		t.Fatal("Write", place, e)
	}
}

// cut has a disk's power gone.
func cut(t *testing.T, d *disk.Disk) {
	t.Helper()
	d.Power(0)
	if e := d.Flush(); e != api.ErrDown || !d.Down() {
		t.Fatal("a power that should be gone")
	}
}

// sectors is all that stands on a disk that has power.
func sectors(t *testing.T, d *disk.Disk) []string {
	t.Helper()
	var all []string
	for n := range d.Sectors() {
		s, e := d.Read(n)
		if e != api.OK {
			t.Fatal("Read", n, e)
		}
		all = append(all, s)
	}
	return all
}

func TestExample(t *testing.T) {
	h, _ := made(t, 8, 1)
	is(t, "P7.1: New", h, 1, 6, 0, 0, 0, 0, 0, 0, 0)
	puts(t, "P7.1: the example, a leaf", h, leaf("a"), 2)
	is(t, "P7.1: behind Put", h, 1, 5, 1, 0)
	puts(t, "P7.1: the example, with the kid 2", h, above(2), 3)
	is(t, "P7.1: behind the second Put", h, 1, 4, 2, 1, 0)
	wants(t, "P7.1: Drop(2)", h.Drop(2), api.OK)
	is(t, "P7.1: 2 is still held, by 3", h, 1, 4, 1, 1, 0)
	gets(t, "P7.2: by 3 alone", h, 2, leaf("a"))
	gets(t, "P7.2: 3", h, 3, above(2))
	wants(t, "P7.1: Drop(3)", h.Drop(3), api.OK)
	is(t, "P7.5: both are free", h, 1, 6, 0, 0, 0)
	puts(t, "P7.1: the least free sector", h, leaf("b"), 2)
}

func TestNew(t *testing.T) {
	for _, sectors := range []int{8, 9, 4095, 4096} {
		for _, gen := range []int{0, 1, 1 << 60} {
			d := blank(t, sectors)
			h := on(t, d, gen)
			is(t, "P7.1: New", h, gen, sectors-2)
			for n := -1; n <= sectors; n++ {
				if h.Count(n) != 0 {
					t.Error("P7.1: New: somebody holds", n)
				}
			}
			if d.Open() != 0 {
				t.Error("P7.1: New has written")
			}
		}
	}
}

func TestNewRefuses(t *testing.T) {
	small, least := blank(t, 7), blank(t, 8)
	for _, c := range []struct {
		what string
		d    *disk.Disk
		gen  int
		want api.Errno
	}{
		{"no disk", nil, 1, api.ErrNil},
		{"no disk and a generation below 0", nil, -1, api.ErrNil},
		{"no disk and one above MaxGen", nil, 1<<60 + 1, api.ErrNil},
		{"a generation below 0", least, -1, api.ErrArg},
		{"the least number", least, math.MinInt, api.ErrArg},
		{"a generation above MaxGen", least, 1<<60 + 1, api.ErrArg},
		{"the greatest number", least, math.MaxInt, api.ErrArg},
		{"a generation below 0, on a small disk", small, -1, api.ErrArg},
		{"one above MaxGen, on a small disk", small, 1<<60 + 1, api.ErrArg},
		{"7 sectors", small, 1, api.ErrSmall},
		{"7 sectors, generation 0", small, 0, api.ErrSmall},
		{"7 sectors, the greatest generation", small, 1 << 60, api.ErrSmall},
		{"1 sector", blank(t, 1), 1, api.ErrSmall},
	} {
		if h, e := heap.New(c.d, c.gen); h != nil || e != c.want {
			t.Errorf("P7.1: New of %s: %v, error %d, want nil and %d", c.what, h, e, c.want)
		}
	}
}

func TestNewOfADiskWithoutPower(t *testing.T) {
	d := blank(t, 8)
	cut(t, d)
	h := on(t, d, 3)
	is(t, "P7.1: New without power", h, 3, 6)
	_, e := h.Put(leaf("a"))
	wants(t, "P7.1: Put without power", e, api.ErrDown)
	wants(t, "P7.1: Load without power", h.Load(2), api.ErrDown)
	is(t, "P7.1: behind both", h, 3, 6, 0)
}

func TestNilHeap(t *testing.T) {
	var h *heap.Heap
	for _, n := range []api.Node{{}, leaf("a"), above(2), above(1)} {
		if p, e := h.Put(n); p != 0 || e != api.ErrNil {
			t.Error("P7.1: Put of a nil heap", p, e)
		}
	}
	for _, p := range append([]int{2, 3}, noPlaces...) {
		getsNot(t, "P7.1: a nil heap", h, p, api.ErrNil)
		wants(t, "P7.1: Hold of a nil heap", h.Hold(p), api.ErrNil)
		wants(t, "P7.1: Drop of a nil heap", h.Drop(p), api.ErrNil)
		wants(t, "P7.1: Load of a nil heap", h.Load(p), api.ErrNil)
		if h.Count(p) != 0 {
			t.Error("P7.1: Count of a nil heap")
		}
	}
	wants(t, "P7.1: Settle of a nil heap", h.Settle(), api.ErrNil)
	is(t, "P7.1: a nil heap", h, 0, 0)
}

func TestSettle(t *testing.T) {
	h, _ := made(t, 8, 0)
	wants(t, "P7.1: Settle", h.Settle(), api.OK)
	is(t, "P7.1: Settle of nothing", h, 1, 6)
	puts(t, "P7.1: Put", h, leaf("a"), 2)
	wants(t, "P7.1: Settle", h.Settle(), api.OK)
	is(t, "P7.1: what is held stays", h, 2, 5, 1)
	wants(t, "P7.1: Drop", h.Drop(2), api.OK)
	is(t, "P7.1: it waits", h, 2, 5, 0)
	puts(t, "P7.3: 2 waits", h, leaf("b"), 3)
	wants(t, "P7.1: Settle", h.Settle(), api.OK)
	is(t, "P7.1: it is free", h, 3, 5, 0, 1)
	puts(t, "P7.1: 2 is free", h, leaf("c"), 2)
}

func TestSettleAtTheGreatestGeneration(t *testing.T) {
	h, _ := made(t, 8, api.MaxGen-1)
	puts(t, "P7.1: Put", h, leaf("a"), 2)
	wants(t, "P7.1: Settle ahead of MaxGen", h.Settle(), api.OK)
	puts(t, "P7.1: Put at MaxGen", h, leaf("b"), 3)
	wants(t, "P7.1: Drop", h.Drop(2), api.OK)
	is(t, "P7.1: at MaxGen", h, api.MaxGen, 4, 0, 1)
	for range 2 {
		wants(t, "P7.1: Settle at MaxGen", h.Settle(), api.ErrMany)
		is(t, "P7.1: with an error nothing has changed", h, api.MaxGen, 4, 0, 1)
	}
	gets(t, "P7.1: at MaxGen", h, 3, leaf("b"))
	wants(t, "P7.1: Drop of what was put at MaxGen", h.Drop(3), api.OK)
	is(t, "P7.1: it is free at once", h, api.MaxGen, 5, 0, 0)
	puts(t, "P7.1: 2 waits still", h, leaf("c"), 3)
}

func TestSettleWithoutPower(t *testing.T) {
	h, d := made(t, 8, 4)
	puts(t, "P7.1: Put", h, leaf("a"), 2)
	wants(t, "P7.1: Settle", h.Settle(), api.OK)
	wants(t, "P7.1: Drop", h.Drop(2), api.OK)
	cut(t, d)
	wants(t, "P7.1: Settle without power", h.Settle(), api.OK)
	is(t, "P7.1: Settle asks nothing of the disk", h, 6, 6, 0)
}
