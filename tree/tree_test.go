package tree_test

import (
	"maps"
	"math"
	"slices"
	"testing"

	"coppice/api"
	"coppice/disk"
	"coppice/heap"
	"coppice/tree"
)

// The calls as the chapter lists them.
var (
	_ func(h *heap.Heap, root int, key string) (value string, is bool, err api.Errno)          = tree.Get
	_ func(h *heap.Heap, root int, key, value string) (answer int, err api.Errno)              = tree.Put
	_ func(h *heap.Heap, root int, key string) (answer int, err api.Errno)                     = tree.Delete
	_ func(h *heap.Heap, root int, from, to string, most int) (list []api.Item, err api.Errno) = tree.Range
	_ func(h *heap.Heap, a, b int) (list []api.Change, read int, err api.Errno)                = tree.Diff
	_ func(h *heap.Heap, root int) (err api.Errno)                                             = tree.Check
)

// made is a heap on a disk of its own.
func made(t *testing.T, sectors int) (*heap.Heap, *disk.Disk) {
	t.Helper()
	d, e := disk.New(sectors)
	if e != api.OK {
		t.Fatal("a new disk", sectors, e)
	}
	return on(t, d), d
}

// on is a heap on a disk.
func on(t *testing.T, d *disk.Disk) *heap.Heap {
	t.Helper()
	h, e := heap.New(d, 1)
	if e != api.OK {
		t.Fatal("a new heap", e)
	}
	return h
}

// puts is the tree that Put answers.
func puts(t *testing.T, h *heap.Heap, root int, key, value string) int {
	t.Helper()
	next, e := tree.Put(h, root, key, value)
	if e != api.OK || next == 0 {
		t.Fatalf("P8.1: Put(%d, %q, %q): %d, error %d", root, key, value, next, e)
	}
	return next
}

// deletes is the tree that Delete answers.
func deletes(t *testing.T, h *heap.Heap, root int, key string) int {
	t.Helper()
	next, e := tree.Delete(h, root, key)
	if e != api.OK {
		t.Fatalf("P8.1: Delete(%d, %q): error %d", root, key, e)
	}
	return next
}

// drops has a tree dropped.
func drops(t *testing.T, h *heap.Heap, root int) {
	t.Helper()
	if root == 0 {
		return
	}
	if e := h.Drop(root); e != api.OK {
		t.Fatal("P8.1: the caller holds what was answered: Drop", root, e)
	}
}

// planted is a tree of items, put one by one in this order; its forerunners are dropped.
func planted(t *testing.T, h *heap.Heap, items ...api.Item) int {
	t.Helper()
	root := 0
	for _, item := range items {
		next := puts(t, h, root, item.Key, item.Value)
		drops(t, h, root)
		root = next
	}
	return root
}

// some is so many items, with keys and values of so many bytes at least.
func some(count, key, value int) []api.Item {
	var items []api.Item
	for i := range count {
		items = append(items, api.Item{Key: long(digits(i, 4), key), Value: long(digits(i, 2), value)})
	}
	return items
}

// asMap is items by their keys.
func asMap(items []api.Item) map[string]string {
	m := map[string]string{}
	for _, item := range items {
		m[item.Key] = item.Value
	}
	return m
}

// finds asks whether Get answers this value.
func finds(t *testing.T, what string, h *heap.Heap, root int, key, want string) {
	t.Helper()
	if value, is, e := tree.Get(h, root, key); value != want || !is || e != api.OK {
		t.Fatalf("%s: Get(%q): %q, %v, error %d, want %q", what, key, value, is, e, want)
	}
}

// findsNot asks whether Get answers that there is no such key, or an error.
func findsNot(t *testing.T, what string, h *heap.Heap, root int, key string, want api.Errno) {
	t.Helper()
	if value, is, e := tree.Get(h, root, key); value != "" || is || e != want {
		t.Fatalf("%s: Get(%q): %q, %v, error %d, want none, error %d", what, key, value, is, e, want)
	}
}

// refuses asks whether a call that answers a root answers this error alone.
func refuses(t *testing.T, what string, root int, got, want api.Errno) {
	t.Helper()
	if root != 0 || got != want {
		t.Errorf("%s: %d, error %d, want 0, error %d", what, root, got, want)
	}
}

// refusesAll asks whether each call of a tree answers this error.
func refusesAll(t *testing.T, what string, h *heap.Heap, root int, want api.Errno) {
	t.Helper()
	findsNot(t, what, h, root, "a", want)
	next, e := tree.Put(h, root, "a", "1")
	refuses(t, what+": Put", next, e, want)
	next, e = tree.Delete(h, root, "a")
	refuses(t, what+": Delete", next, e, want)
	if list, e := tree.Range(h, root, "", "", 5); len(list) != 0 || e != want {
		t.Errorf("%s: Range: %v, error %d, want %d", what, list, e, want)
	}
	if e := tree.Check(h, root); e != want {
		t.Errorf("%s: Check: error %d, want %d", what, e, want)
	}
	refusesDiff(t, what, h, root, 0, want)
	refusesDiff(t, what, h, 0, root, want)
}

// refusesDiff asks whether Diff answers this error alone.
func refusesDiff(t *testing.T, what string, h *heap.Heap, a, b int, want api.Errno) {
	t.Helper()
	if list, read, e := tree.Diff(h, a, b); len(list) != 0 || read != 0 || e != want {
		t.Errorf("%s: Diff(%d, %d): %v, %d, error %d, want error %d", what, a, b, list, read, e, want)
	}
}

func TestTheChaptersExample(t *testing.T) {
	h, d := made(t, 16)
	first := puts(t, h, 0, "a", "1")
	second := puts(t, h, first, "b", "2")
	has(t, "P8.2: the first one still has a alone", h, first, map[string]string{"a": "1"})
	has(t, "P8.1: the second one", h, second, map[string]string{"a": "1", "b": "2"})
	list, _, e := tree.Diff(h, first, second)
	if e != api.OK || !slices.Equal(list, []api.Change{{Key: "b", Has: true, New: "2"}}) {
		t.Error("P8.3: Diff", list, e)
	}
	heldBy(t, "P8.1: each is held once", h, d, first, second)
}

func TestANilHeap(t *testing.T) {
	for _, root := range []int{math.MinInt, -1, 0, 1, 2, 4095, 4096, math.MaxInt} {
		refusesAll(t, "P8.1: a nil heap", nil, root, api.ErrNil)
		next, e := tree.Put(nil, root, "", long("v", 161))
		refuses(t, "P0.2: a nil heap is named first", next, e, api.ErrNil)
		refusesDiff(t, "P8.1: a nil heap", nil, root, root, api.ErrNil)
	}
}

func TestARootThatNobodyHolds(t *testing.T) {
	h, d := made(t, 8)
	root := puts(t, h, 0, "a", "1")
	gone := puts(t, h, 0, "a", "1")
	drops(t, h, gone)
	was := counts(h, d)
	for _, free := range []int{math.MinInt, -4096, -1, 1, gone, 7, 8, 4095, 4096, math.MaxInt} {
		refusesAll(t, "P8.1: a root that nobody holds", h, free, api.ErrFree)
		refusesDiff(t, "P8.1: one root that nobody holds", h, root, free, api.ErrFree)
		refusesDiff(t, "P8.1: one root that nobody holds", h, free, root, api.ErrFree)
		refusesDiff(t, "P8.1: twice a root that nobody holds", h, free, free, api.ErrFree)
		next, e := tree.Put(h, free, "", long("v", 161))
		refuses(t, "P0.2: ErrFree is named ahead of ErrKey", next, e, api.ErrFree)
		if list, e := tree.Range(h, free, "", "", 0); len(list) != 0 || e != api.ErrFree {
			t.Error("P0.2: Range of none", list, e)
		}
	}
	if !slices.Equal(counts(h, d), was) {
		t.Error("P8.1: something has changed")
	}
	d.Power(0)
	d.Flush()
	refusesAll(t, "P0.2: ErrFree is named ahead of the heap's errors", h, gone, api.ErrFree)
	refusesAll(t, "P0.2: ErrFree is named ahead of the heap's errors", h, -1, api.ErrFree)
}

func TestTheTreeWithoutItems(t *testing.T) {
	h, d := made(t, 8)
	for _, key := range []string{"", "a", long("k", 273), long("k", 100000)} {
		findsNot(t, "P8.1: no items", h, 0, key, api.OK)
		if next := deletes(t, h, 0, key); next != 0 {
			t.Error("P8.1: Delete of no items", next)
		}
	}
	for _, most := range []int{math.MinInt, -1, 0, 1, math.MaxInt} {
		if list, e := tree.Range(h, 0, "", "", most); len(list) != 0 || e != api.OK {
			t.Error("P8.1: Range of no items", list, e)
		}
	}
	if list, read, e := tree.Diff(h, 0, 0); len(list) != 0 || read != 0 || e != api.OK {
		t.Error("P8.3: Diff of no items", list, read, e)
	}
	if e := tree.Check(h, 0); e != api.OK {
		t.Error("P8.1: Check of no items", e)
	}
	heldBy(t, "P8.1: nothing is held", h, d)
	d.Power(0)
	d.Flush()
	findsNot(t, "P8.1: no items, without power", h, 0, "a", api.OK)
	if e := tree.Check(h, 0); e != api.OK {
		t.Error("P8.1: Check of no items, without power", e)
	}
}

func TestGet(t *testing.T) {
	h, _ := made(t, 400)
	for _, count := range []int{1, 2, 3, 30, 400} {
		items := some(count, 1, 9)
		slices.Reverse(items)
		root := planted(t, h, items...)
		for _, item := range items {
			finds(t, "P8.1: a key that is there", h, root, item.Key, item.Value)
			findsNot(t, "P8.1: a key behind one that is there", h, root, item.Key+"\x00", api.OK)
			findsNot(t, "P8.1: a key ahead of one that is there", h, root, item.Key[:3], api.OK)
		}
		for _, key := range []string{"", "\x00", "/", "9999", "\xff", long("0", 272), long("0", 273), long("", 70000)} {
			findsNot(t, "P8.1: a key that isn't there", h, root, key, api.OK)
		}
		drops(t, h, root)
	}
}

func TestWhichKeysAndValuesMayBe(t *testing.T) {
	for _, keyed := range []string{"", "b"} { // into no items, and beside one
		h, d := made(t, 40)
		root := 0
		if keyed != "" {
			root = puts(t, h, 0, keyed, "1")
		}
		was := counts(h, d)
		for _, one := range []struct {
			key, value string
			want       api.Errno
		}{
			{"", "", api.ErrKey},
			{"", long("v", 160), api.ErrKey},
			{"", long("v", 161), api.ErrKey},
			{long("k", 273), "", api.ErrKey},
			{long("k", 273), long("v", 161), api.ErrKey},
			{long("k", 1<<20), "v", api.ErrKey},
			{"k", long("v", 161), api.ErrValue},
			{long("k", 272), long("v", 161), api.ErrValue},
			{"k", long("v", 1<<20), api.ErrValue},
		} {
			next, e := tree.Put(h, root, one.key, one.value)
			refuses(t, "P8.1: Put", next, e, one.want)
			if !slices.Equal(counts(h, d), was) {
				t.Fatal("P8.1: something has changed")
			}
		}
		for _, one := range []api.Item{{Key: "\x00"}, {Key: "k"}, {Key: long("k", 272)}, {Key: "k", Value: long("v", 160)}, {Key: long("k", 272), Value: long("v", 160)}, {Key: "\xff\xfe\x80", Value: "\x00\xff"}} {
			next := puts(t, h, root, one.Key, one.Value)
			want := map[string]string{one.Key: one.Value}
			if keyed != "" {
				want[keyed] = "1"
			}
			has(t, "P8.1: Put", h, next, want)
			finds(t, "P8.1: Get of what was put", h, next, one.Key, one.Value)
			drops(t, h, next)
		}
		d.Power(0)
		d.Flush()
		next, e := tree.Put(h, root, "", "")
		refuses(t, "P0.2: ErrKey is named ahead of the heap's errors", next, e, api.ErrKey)
		next, e = tree.Put(h, root, "k", long("v", 161))
		refuses(t, "P0.2: ErrValue is named ahead of the heap's errors", next, e, api.ErrValue)
	}
}

func TestPutOfAKeyThatIsThere(t *testing.T) {
	h, d := made(t, 400)
	for _, count := range []int{1, 5, 200} {
		items := some(count, 4, 8)
		root := planted(t, h, items...)
		for i, item := range items {
			same := puts(t, h, root, item.Key, item.Value)
			has(t, "P8.1: the same value", h, same, asMap(items))
			heldBy(t, "P8.1: the same value", h, d, root, same)
			want := asMap(items)
			want[item.Key] = long("other", i%161)
			other := puts(t, h, root, item.Key, want[item.Key])
			has(t, "P8.1: another value", h, other, want)
			has(t, "P8.2: the tree of which it was made", h, root, asMap(items))
			heldBy(t, "P8.1: another value", h, d, root, same, other)
			drops(t, h, same)
			drops(t, h, other)
		}
		drops(t, h, root)
	}
}

func TestDeleteOfKeysThatAreThereAndAreNot(t *testing.T) {
	h, d := made(t, 400)
	for _, count := range []int{1, 2, 5, 150} {
		items := some(count, 4, 20)
		root := planted(t, h, items...)
		for _, item := range items {
			next := deletes(t, h, root, item.Key)
			want := asMap(items)
			delete(want, item.Key)
			has(t, "P8.1: Delete", h, next, want)
			has(t, "P8.2: the tree of which it was made", h, root, asMap(items))
			heldBy(t, "P8.1: Delete", h, d, root, next)
			drops(t, h, next)
		}
		for _, key := range []string{"", "\x00", "00", "0000\x00", "9999", "\xff", long("0", 272), long("0", 273), long("0", 1<<17)} {
			next := deletes(t, h, root, key)
			has(t, "P8.1: Delete of a key that isn't there", h, next, asMap(items))
			heldBy(t, "P8.1: Delete of a key that isn't there", h, d, root, next)
			drops(t, h, next)
		}
		drops(t, h, root)
	}
}

func TestDeleteOfTheLastItem(t *testing.T) {
	h, d := made(t, 8)
	root := puts(t, h, 0, "a", "1")
	if next := deletes(t, h, root, "a"); next != 0 {
		t.Error("P8.1: a tree without items is 0:", next)
	}
	heldBy(t, "P8.1: 0 has no holder", h, d, root)
	drops(t, h, root)
	if h.Room() != 6 {
		t.Error("P8.5: room", h.Room())
	}
}

// orders are the numbers below a bound in several orders.
func orders(count int) map[string][]int {
	rising := make([]int, count)
	for i := range rising {
		rising[i] = i
	}
	falling := slices.Clone(rising)
	slices.Reverse(falling)
	number := numbers(uint64(count))
	mixed := slices.Clone(rising)
	for i := range mixed {
		j := number(i + 1)
		mixed[i], mixed[j] = mixed[j], mixed[i]
	}
	var inward []int
	for i := range (count + 1) / 2 {
		inward = append(inward, i)
		if count-1-i != i {
			inward = append(inward, count-1-i)
		}
	}
	outward := slices.Clone(inward)
	slices.Reverse(outward)
	return map[string][]int{"rising": rising, "falling": falling, "mixed": mixed, "inward": inward, "outward": outward}
}

// sizes are keys and values of several sizes, made of numbers.
var sizes = map[string]func(i int) api.Item{
	"short":               func(i int) api.Item { return api.Item{Key: digits(i, 3)} },
	"of some bytes":       func(i int) api.Item { return api.Item{Key: long(digits(i, 4), 17), Value: long("v", 64)} },
	"as long as may be":   func(i int) api.Item { return api.Item{Key: long(digits(i, 4), 272), Value: long("v", 160)} },
	"long and alike":      func(i int) api.Item { return api.Item{Key: wide(digits(i, 4), 272), Value: long("v", 160)} },
	"long with no values": func(i int) api.Item { return api.Item{Key: wide(digits(i, 4), 272)} },
	"of unlike sizes": func(i int) api.Item {
		return api.Item{Key: wide("", i*i%7*38) + digits(i, 4), Value: long("", i*i%11*16)}
	},
}

func TestAllIsPutAndDeletedInSeveralOrders(t *testing.T) {
	all := orders(130)
	for size, item := range sizes {
		t.Run(size, func(t *testing.T) {
			t.Parallel()
			for in, putting := range all {
				for out, deleting := range all {
					putAndDelete(t, size+", put "+in+", deleted "+out, item, putting, deleting)
				}
			}
		})
	}
}

// putAndDelete has items put in one order and deleted in another one.
func putAndDelete(t *testing.T, what string, item func(int) api.Item, putting, deleting []int) {
	t.Helper()
	h, d := made(t, 600)
	root, want := 0, map[string]string{}
	for step, i := range putting {
		one := item(i)
		next := puts(t, h, root, one.Key, one.Value)
		drops(t, h, root)
		root, want[one.Key] = next, one.Value
		if step%29 == 0 || step == len(putting)-1 {
			has(t, what, h, root, want)
			bushy(t, what, h, root)
		}
	}
	heldBy(t, what, h, d, root)
	for step, i := range deleting {
		next := deletes(t, h, root, item(i).Key)
		drops(t, h, root)
		root = next
		delete(want, item(i).Key)
		if step%11 == 0 || len(want) < 6 {
			has(t, what, h, root, want)
			bushy(t, what, h, root)
		}
	}
	if root != 0 || h.Room() != 598 {
		t.Fatal("P8.5: "+what+": all is deleted:", root, h.Room())
	}
}

// grove is some trees on a heap, and what each of them is to have.
type grove struct {
	t      *testing.T
	h      *heap.Heap
	d      *disk.Disk
	number func(below int) int
	roots  []int
	items  []map[string]string
}

func newGrove(t *testing.T, seed uint64, sectors int) *grove {
	h, d := made(t, sectors)
	return &grove{t, h, d, numbers(seed), []int{0}, []map[string]string{{}}}
}

// key is one of some keys, of unlike sizes.
func (g *grove) key(of int) string {
	i := g.number(of)
	switch i % 5 {
	case 0:
		return long(digits(i, 3), 272)
	case 1:
		return wide(digits(i, 3), 150)
	}
	return digits(i, 3)
}

// change has a tree made of one of the trees.
func (g *grove) change(keys, putting int) {
	from := g.number(len(g.roots))
	root, items := g.roots[from], maps.Clone(g.items[from])
	key, room := g.key(keys), g.h.Room()
	levels := levelsOf(g.t, g.h, root)
	var next int
	var e api.Errno
	if g.number(100) < putting {
		value := long(digits(g.number(5), 1), g.number(161))
		next, e = tree.Put(g.h, root, key, value)
		items[key] = value
	} else {
		next, e = tree.Delete(g.h, root, key)
		delete(items, key)
	}
	if e == api.ErrNoSpace && room < 64 && room < 4*(levels+1) && g.h.Room() == room {
		return
	}
	if e != api.OK || room-g.h.Room() > 64 {
		g.t.Fatalf("P8.4: error %d, room %d, then %d, %d levels", e, room, g.h.Room(), levels)
	}
	g.roots, g.items = append(g.roots, next), append(g.items, items)
}

// drop has one of the trees dropped.
func (g *grove) drop() {
	i := g.number(len(g.roots))
	drops(g.t, g.h, g.roots[i])
	g.roots, g.items = slices.Delete(g.roots, i, i+1), slices.Delete(g.items, i, i+1)
	if len(g.roots) == 0 {
		g.roots, g.items = []int{0}, []map[string]string{{}}
	}
}

// settle has the generation ended.
func (g *grove) settle() {
	if e := g.h.Settle(); e != api.OK {
		g.t.Fatal("Settle", e)
	}
}

// stand asks whether all trees are as they are to be.
func (g *grove) stand() {
	g.t.Helper()
	for i, root := range g.roots {
		has(g.t, "P8.2: a tree that is held", g.h, root, g.items[i])
		bushy(g.t, "mixed changes", g.h, root)
	}
	heldBy(g.t, "P8.2: trees that are held", g.h, g.d, g.roots...)
}

func TestTreesThatAreHeldHaveTheirItemsForEver(t *testing.T) {
	t.Parallel()
	for seed := range uint64(30) {
		g := newGrove(t, seed+1, 40+int(seed)*20)
		keys := []int{8, 60, 300}[seed%3]
		for step := range 400 {
			g.change(keys, 30+step%3*20+step/8)
			for len(g.roots) > 6 || g.h.Room() < 20 && len(g.roots) > 1 {
				g.drop()
				if g.number(3) == 0 {
					g.settle()
				}
			}
			if step%20 == 0 {
				g.settle()
				g.stand()
			}
		}
		g.stand()
		for len(g.roots) > 1 || g.roots[0] != 0 {
			g.drop()
		}
		g.settle()
		if g.h.Room() != g.d.Sectors()-2 {
			t.Fatal("P8.5: all trees are dropped: room", g.h.Room(), "of", g.d.Sectors()-2)
		}
	}
}

func TestTheSameComesOfTheSame(t *testing.T) {
	var was []int
	for range 3 {
		g := newGrove(t, 77, 300)
		for range 300 {
			g.change(200, 70)
			for len(g.roots) > 3 {
				g.drop()
			}
		}
		now := append(slices.Clone(g.roots), counts(g.h, g.d)...)
		if was != nil && !slices.Equal(was, now) {
			t.Fatal("P0.5: another tree comes of the same calls")
		}
		was = now
	}
}
