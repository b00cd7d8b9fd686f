package tree_test

import (
	"strings"
	"testing"

	"coppice/api"
	"coppice/block"
	"coppice/disk"
	"coppice/heap"
	"coppice/node"
	"coppice/tree"
)

// leaf is a leaf of these keys; each has its beginning, turned into capitals, as its value.
func leaf(keys ...string) api.Node {
	n := api.Node{Leaf: true}
	for _, key := range keys {
		n.Items = append(n.Items, api.Item{Key: key, Value: strings.ToUpper(key[:min(len(key), 9)])})
	}
	return n
}

// above is a node of kids, one of each key and place.
func above(kids ...any) api.Node {
	n := api.Node{}
	for i := 0; i < len(kids); i += 2 {
		n.Kids = append(n.Kids, api.Kid{Key: kids[i].(string), Place: kids[i+1].(int)})
	}
	return n
}

// set is the place of a node that is put by hand.
func set(t *testing.T, h *heap.Heap, n api.Node) int {
	t.Helper()
	place, e := h.Put(n)
	if e != api.OK {
		t.Fatal("a node that can't be put", n, e)
	}
	return place
}

// chain is the top of so many nodes of one kid each, above a place.
func chain(t *testing.T, h *heap.Heap, nodes int, key string, place int) int {
	t.Helper()
	for range nodes {
		place = set(t, h, above(key, place))
	}
	return place
}

// checks asks whether Check answers this error.
func checks(t *testing.T, what string, h *heap.Heap, root int, want api.Errno) {
	t.Helper()
	if e := tree.Check(h, root); e != want {
		t.Errorf("P8.1: %s: Check: error %d, want %d", what, e, want)
	}
	if surveyOf(t, h, root, 1).isRight() != (want == api.OK) {
		t.Errorf("P8.1: %s: the test itself is wrong", what)
	}
}

func TestCheckOfKeysByHand(t *testing.T) {
	h, _ := made(t, 400)
	l := func(keys ...string) int { return set(t, h, leaf(keys...)) }
	n := func(kids ...any) int { return set(t, h, above(kids...)) }
	const ok, wrong = api.OK, api.ErrTree
	for _, one := range []struct {
		what string
		root int
		want api.Errno
	}{
		{"a leaf", l("a", "b"), ok},
		{"one kid by an empty key", n("", l("a")), ok},
		{"one kid by its first key", n("a", l("a")), ok},
		{"one kid by a lesser key", n("A", l("a")), ok},
		{"one kid by a greater key", n("a\x00", l("a")), wrong},
		{"one kid by its second key", n("b", l("a", "b")), wrong},
		{"two kids", n("", l("a", "b"), "c", l("c", "d")), ok},
		{"two kids by any border", n("a", l("a", "b"), "b\x00", l("c", "d")), ok},
		{"a key that is the next kid's", n("", l("a", "c"), "c", l("d")), wrong},
		{"a key above the next kid's", n("", l("a", "d"), "c", l("c")), wrong},
		{"a key below its kid's", n("", l("a"), "c", l("b", "d")), wrong},
		{"the last kid has no bound above", n("", l("a"), "b", l("b", "\xff\xff\xff")), ok},
		{"the last kid's key below its own", n("", l("a"), "b", l("b"), "d", l("c")), wrong},
		{"the middle kid's key above the next", n("", l("a"), "b", l("b", "e"), "d", l("d")), wrong},
		{"three levels", n("", n("", l("a"), "b", l("b")), "c", n("", l("c"), "d", l("d"))), ok},
		{"three levels, keys of kids below the one above", n("", n("", l("a"), "b", l("b")), "c", n("a", l("c"), "d", l("d"))), ok},
		{"three levels, keys of kids above the one above", n("", n("", l("a"), "b", l("b")), "c", n("d", l("d"), "e", l("e"))), ok},
		{"below a bound two levels up", n("", n("", l("a"), "b", l("b")), "c", n("", l("bb"), "d", l("d"))), wrong},
		{"at a bound two levels up", n("", n("", l("a"), "b", l("b", "c")), "c", n("", l("cc"), "d", l("d"))), wrong},
		{"above a bound two levels up", n("", n("", l("a"), "b", l("b", "x")), "c", n("", l("cc"), "d", l("d"))), wrong},
		{"a kid's key beyond a bound two levels up", n("", n("", l("a"), "x", l("y")), "c", n("", l("c"))), wrong},
		{"a bound three levels up", n("", n("", n("", l("a"), "b", l("b", "p"))), "n", n("", n("", l("q")))), wrong},
		{"a bound three levels up that is kept", n("", n("", n("", l("a"), "b", l("b", "p"))), "q", n("", n("", l("q")))), ok},
		{"below the root's only key", n("b", n("", l("a"), "c", l("c"))), wrong},
	} {
		checks(t, one.what, h, one.root, one.want)
	}
}

func TestCheckOfPlacesAndLevelsByHand(t *testing.T) {
	h, _ := made(t, 400)
	l := func(keys ...string) int { return set(t, h, leaf(keys...)) }
	n := func(kids ...any) int { return set(t, h, above(kids...)) }
	a, b, ab, cd := l("a"), l("b"), l("a", "b"), l("c", "d")
	checks(t, "a leaf twice", h, n("", a, "b", a), api.ErrTree)
	checks(t, "a leaf twice, not side by side", h, n("", a, "b", b, "c", a), api.ErrTree)
	checks(t, "a leaf below two nodes", h, n("", n("", a), "b", n("", a)), api.ErrTree)
	checks(t, "a node twice", h, n("", n("", a, "b", b), "c", n("", cd), "d", n("", cd)), api.ErrTree)
	wide := []any{"", a}
	for i := range 100 {
		wide = append(wide, "k"+digits(i, 3), a)
	}
	checks(t, "a leaf a hundred times", h, n(wide...), api.ErrTree)
	checks(t, "a leaf that stands in two trees", h, n("", ab, "c", cd), api.OK)
	checks(t, "a leaf that stands in two trees", h, n("", n("", ab)), api.OK)
	checks(t, "leaves at unlike levels", h, n("", a, "b", n("", b)), api.ErrTree)
	checks(t, "leaves at unlike levels, the deeper one first", h, n("", n("", a), "b", b), api.ErrTree)
	checks(t, "leaves at unlike levels, far below", h, n("", n("", n("", a)), "b", n("", n("", n("", b)))), api.ErrTree)
	checks(t, "leaves at the same level", h, n("", n("", n("", a)), "b", n("", n("", b))), api.OK)
}

func TestCheckOfManyLevels(t *testing.T) {
	h, _ := made(t, 4000)
	bottom := set(t, h, leaf("a", "b"))
	for nodes := range 60 {
		want := api.OK
		if nodes+1 > 40 {
			want = api.ErrTree
		}
		checks(t, "a chain", h, chain(t, h, nodes, "", bottom), want)
	}
	left, right := chain(t, h, 38, "a", bottom), chain(t, h, 38, "c", set(t, h, leaf("c")))
	checks(t, "two chains, 40 levels in all", h, set(t, h, above("", left, "c", right)), api.OK)
	left, right = chain(t, h, 1, "a", left), chain(t, h, 1, "c", right)
	checks(t, "two chains, 41 levels in all", h, set(t, h, above("", left, "c", right)), api.ErrTree)
}

// blockAt has a node's block stand in a sector of the disk, past the heap.
func blockAt(t *testing.T, d *disk.Disk, place int, n api.Node) {
	t.Helper()
	payload, e := node.Encode(n)
	kind := 2
	if n.Leaf {
		kind = 1
	}
	sector, f := block.Wrap(api.Block{Kind: kind, Gen: 1, Payload: payload})
	if g := d.Write(place, sector); e != api.OK || f != api.OK || g != api.OK {
		t.Fatal("a block that can't be written", e, f, g)
	}
}

// spoil has a sector be no block any more.
func spoil(t *testing.T, d *disk.Disk, place int) {
	t.Helper()
	if e := d.Write(place, strings.Repeat("\x00", 1024)); e != api.OK {
		t.Fatal("a sector that can't be written", e)
	}
}

func TestCheckTellsATreeThatIsNotRightAheadOfABlockThatIsLost(t *testing.T) {
	h, d := made(t, 100)
	l := func(keys ...string) int { return set(t, h, leaf(keys...)) }
	n := func(kids ...any) int { return set(t, h, above(kids...)) }
	lost := l("a")
	deep := chain(t, h, 40, "", lost)
	right := n("", lost, "b", l("b"))
	wrong := map[string]int{
		"a key behind the lost leaf":     n("", lost, "b", l("b"), "d", l("c")),
		"a key ahead of the lost leaf":   n("", l("A", "x"), "a", lost),
		"the lost leaf twice":            n("", lost, "b", lost),
		"the lost leaf is too deep":      deep,
		"leaves at unlike levels beside": n("", lost, "b", l("b"), "c", n("", l("c"))),
		"a leaf above the lost one":      n("", n("", lost), "b", l("b")),
	}
	spoil(t, d, lost)
	if e := tree.Check(h, right); e != api.ErrLost {
		t.Error("P8.1: a lost leaf: Check", e)
	}
	for what, root := range wrong {
		if e := tree.Check(h, root); e != api.ErrTree {
			t.Errorf("P0.2: %s: Check: error %d, want ErrTree", what, e)
		}
	}
}

// endless asks each call of a tree that isn't right, whatever they answer.
func endless(t *testing.T, what string, h *heap.Heap, d *disk.Disk, root, other int) {
	t.Helper()
	was := counts(h, d)
	for _, key := range []string{"", "a", "b", "bb", "k", "zz", long("k", 272)} {
		tree.Get(h, root, key)
		if next, e := tree.Put(h, root, key, "new"); e == api.OK {
			drops(t, h, next)
		}
		if next, e := tree.Delete(h, root, key); e == api.OK {
			drops(t, h, next)
		}
		tree.Range(h, root, key, "", 1<<40)
		tree.Range(h, root, "", key, 1<<40)
	}
	tree.Diff(h, root, other)
	tree.Diff(h, other, root)
	tree.Diff(h, root, 0)
	tree.Diff(h, 0, root)
	if e := tree.Check(h, root); e != api.ErrTree {
		t.Errorf("P8.1: %s: Check: error %d, want ErrTree", what, e)
	}
	for place, count := range counts(h, d) {
		if count != was[place] {
			t.Errorf("P8.1: %s: %d is held by %d, was by %d", what, place, count, was[place])
		}
	}
}

func TestCallsOfTreesThatAreNotRightEnd(t *testing.T) {
	t.Parallel()
	h, d := made(t, 500)
	good := planted(t, h, some(50, 4, 100)...)
	var keys []string
	for i := range 100 {
		keys = append(keys, "k"+digits(i, 3))
	}
	fan := func(place int) int { // a hundred times the same kid
		var kids []any
		for _, key := range keys {
			kids = append(kids, key, place)
		}
		return set(t, h, above(kids...))
	}
	bush := set(t, h, leaf("a", "b"))
	for level := 1; level < 45; level++ {
		bush = fan(bush)
		endless(t, "a bush of the same kids", h, d, bush, good)
	}
	tall := chain(t, h, 100, "", set(t, h, leaf("a", "b")))
	endless(t, "a tall chain", h, d, tall, good)
	endless(t, "a tall chain", h, d, tall, bush)
	mixed := set(t, h, above("", set(t, h, leaf("a")), "b", chain(t, h, 3, "", set(t, h, leaf("k")))))
	endless(t, "leaves at unlike levels", h, d, mixed, good)
	falling := set(t, h, above("", set(t, h, leaf("k", "z")), "b", set(t, h, leaf("a", "c")), "c", set(t, h, leaf("a", "b", "c"))))
	endless(t, "keys that fall", h, d, falling, good)
	endless(t, "keys that fall", h, d, falling, mixed)
	odd := set(t, h, above("", chain(t, h, 1, "", set(t, h, leaf("z"))), "b", set(t, h, leaf("b"))))
	endless(t, "a lonely node beside a leaf", h, d, odd, good)
	big := []any{}
	for i := range 3 {
		big = append(big, long(digits(i, 1), 272), set(t, h, leaf(long("b", 272))))
	}
	endless(t, "great keys that don't fit", h, d, set(t, h, above(append(big, "b", set(t, h, above("", set(t, h, leaf("a")))))...)), good)
}

func TestCallsOfTreesThatLeadBackToThemselvesEnd(t *testing.T) {
	d, _ := disk.New(20)
	blockAt(t, d, 2, above("", 2))
	blockAt(t, d, 3, above("", 4, "k", 3))
	blockAt(t, d, 4, above("", 5, "k", 3))
	blockAt(t, d, 5, leaf("a", "b"))
	blockAt(t, d, 6, above("", 7, "b", 8))
	blockAt(t, d, 7, above("a", 6, "z", 8))
	blockAt(t, d, 8, leaf("a", "b", "c"))
	h := on(t, d)
	for _, root := range []int{2, 3, 6} {
		if e := h.Load(root); e != api.OK {
			t.Fatal("Load", root, e)
		}
	}
	for _, root := range []int{2, 3, 4, 6, 7} {
		for _, other := range []int{2, 3, 5, 6, 7, 8} {
			endless(t, "a ring", h, d, root, other)
		}
	}
}
