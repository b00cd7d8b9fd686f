package heap_test

import (
	"slices"
	"testing"

	"coppice/api"
)

// roomy is a copy of a node, whose lists have room behind their ends, and what stands in all of that room.
func roomy(n api.Node) (api.Node, []api.Item, []api.Kid) {
	items, kids := slices.Clone(n.Items), slices.Clone(n.Kids)
	for range 20 {
		items = append(items, api.Item{Key: "room", Value: "behind"})
		kids = append(kids, api.Kid{Key: "room", Place: 77})
	}
	return api.Node{Leaf: n.Leaf, Items: items[:len(n.Items)], Kids: kids[:len(n.Kids)]}, items, kids
}

// scribble writes into all that a node has, and into the room behind its lists.
func scribble(n api.Node) {
	items, kids := n.Items[:cap(n.Items)], n.Kids[:cap(n.Kids)]
	for i := range items {
		items[i] = api.Item{Key: "scribbled", Value: "over"}
	}
	for i := range kids {
		kids[i] = api.Kid{Key: "scribbled", Place: 7}
	}
}

// answered is a copy of a node in memory of its own.
func answered(n api.Node) api.Node {
	return api.Node{Leaf: n.Leaf, Items: slices.Clone(n.Items), Kids: slices.Clone(n.Kids)}
}

func TestWhatIsPutIsNotChanged(t *testing.T) {
	h, d := made(t, 12, 1)
	puts(t, "P7.1: Put", h, leaf("a"), 2)
	puts(t, "P7.1: Put", h, leaf("b"), 3)
	handed := []api.Node{leaf("c", "d"), above(2, 3, 2), {}, {Leaf: true}, leaf("b", "a"), above(2, 9), bigAbove(2), bigLeaf(1008)}
	for range 2 {
		for _, was := range handed {
			n, items, kids := roomy(was)
			h.Put(n)
			_, wantItems, wantKids := roomy(was)
			if !same(n, was) || !slices.Equal(items, wantItems) || !slices.Equal(kids, wantKids) {
				t.Error("P0.3: what was handed in has changed, or the room behind it", was)
			}
		}
		cut(t, d)
	}
}

func TestWhatIsPutIsNotKept(t *testing.T) {
	h, _ := made(t, 12, 1)
	for p := 2; p < 8; p++ {
		puts(t, "P7.1: Put", h, leaf("a"), p)
	}
	n, _, _ := roomy(above(2, 3, 2))
	puts(t, "P7.1: Put", h, n, 8)
	scribble(n)
	items, _, _ := roomy(leaf("x", "y"))
	puts(t, "P7.1: Put", h, items, 9)
	scribble(items)
	gets(t, "P0.3: what was handed in isn't kept", h, 8, above(2, 3, 2))
	gets(t, "P0.3: what was handed in isn't kept", h, 9, leaf("x", "y"))
	wants(t, "P7.1: Drop", h.Drop(8), api.OK)
	is(t, "P0.3: the kids are those that were put", h, 1, 3, 1, 1, 1, 1, 1, 1, 0, 1)
}

func TestWhatIsAnsweredIsNewMemory(t *testing.T) {
	h, d := made(t, 12, 1)
	nodes := []api.Node{leaf("a", "b"), leaf("c"), above(2, 3, 2), above(4)}
	for i, n := range nodes {
		puts(t, "P7.1: Put", h, n, 2+i)
	}
	o := on(t, d.Copy(), 1)
	wants(t, "P7.1: Load", o.Load(5), api.OK)
	for i, want := range nodes {
		first, _ := h.Get(2 + i)
		second, _ := h.Get(2 + i)
		loaded, _ := o.Get(2 + i)
		was := answered(second)
		scribble(first)
		if !same(second, was) || !same(second, want) || !same(loaded, want) {
			t.Error("P0.3: two answers share their memory", 2+i)
		}
		gets(t, "P0.3: what is answered isn't kept", h, 2+i, want)
	}
	for p := 2; p < 6; p++ {
		n, _ := h.Get(p)
		scribble(n)
		wants(t, "P7.1: Drop", h.Drop(p), api.OK)
	}
	is(t, "P0.3: the kids are those that were put", h, 1, 10, 0, 0, 0, 0)
	n, _ := o.Get(5)
	scribble(n)
	wants(t, "P7.1: Drop", o.Drop(5), api.OK)
	is(t, "P0.3: the kids are those that were loaded", o, 1, 10, 0, 0, 0, 0)
}

func TestHeapsDoNotTouchEachOther(t *testing.T) {
	h, d := made(t, 8, 1)
	puts(t, "P7.1: Put", h, leaf("a"), 2)
	puts(t, "P7.1: Put", h, above(2), 3)
	was := stateOf(t, h, d)
	o := on(t, d.Copy(), 4)
	wants(t, "P7.1: Load", o.Load(3), api.OK)
	puts(t, "P7.1: Put", o, above(3), 4)
	wants(t, "P7.1: Drop", o.Drop(3), api.OK)
	wants(t, "P7.1: Settle", o.Settle(), api.OK)
	unchanged(t, "what another heap did on a copy", h, d, was)
	other, _ := made(t, 8, 1)
	puts(t, "P7.1: Put", other, leaf("z"), 2)
	unchanged(t, "what another heap did on another disk", h, d, was)
}

func TestNilListsAreEmptyOnes(t *testing.T) {
	h, d := made(t, 8, 1)
	puts(t, "P0.4: a leaf with an empty list of kids", h, api.Node{Leaf: true, Items: leaf("a").Items, Kids: []api.Kid{}}, 2)
	puts(t, "P0.4: a node with an empty list of items", h, api.Node{Items: []api.Item{}, Kids: above(2).Kids}, 3)
	gets(t, "P0.4: Get", h, 2, leaf("a"))
	gets(t, "P0.4: Get", h, 3, above(2))
	refuses(t, "an empty list", h, d, api.Node{Leaf: true, Items: []api.Item{}, Kids: []api.Kid{}}, api.ErrNode)
	refuses(t, "an empty list", h, d, api.Node{Items: []api.Item{}, Kids: []api.Kid{}}, api.ErrNode)
}

func TestTheHeapUsesTheDiskItWasGiven(t *testing.T) {
	d := blank(t, 8)
	h := on(t, d, 1)
	puts(t, "P7.1: Put", h, leaf("a"), 2)
	if s, _ := d.Read(2); s != sectorOf(t, 1, 1, leaf("a")) {
		t.Error("P0.3: the disk is used together")
	}
	cut(t, d)
	getsNot(t, "P0.3: the disk's power is the heap's", h, 2, api.ErrDown)
}
