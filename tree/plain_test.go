package tree_test

import (
	"maps"
	"slices"
	"strings"
	"testing"

	"coppice/api"
	"coppice/disk"
	"coppice/heap"
	"coppice/tree"
)

// What the chapter says of trees, in its plain words, by the heap's Get alone.

// nodeAt is the node at a place that can be read.
func nodeAt(t *testing.T, h *heap.Heap, place int) api.Node {
	t.Helper()
	n, e := h.Get(place)
	if e != api.OK {
		t.Fatal("a node that can't be read", place, e)
	}
	return n
}

// survey is what stands below a place: the places, that one too, as often as they are met, the items in order, the levels of the leaves, and whether the items below each kid are where its key, and the next one's, say.
type survey struct {
	places []int
	items  []api.Item
	levels []int
	fits   bool
}

// surveyOf goes through all below a place.
func surveyOf(t *testing.T, h *heap.Heap, place, level int) survey {
	t.Helper()
	n := nodeAt(t, h, place)
	if n.Leaf {
		return survey{[]int{place}, n.Items, []int{level}, true}
	}
	all := survey{places: []int{place}, fits: true}
	for i, kid := range n.Kids {
		one := surveyOf(t, h, kid.Place, level+1)
		for _, item := range one.items {
			if item.Key < kid.Key || i+1 < len(n.Kids) && item.Key >= n.Kids[i+1].Key {
				one.fits = false
			}
		}
		all.places, all.items, all.levels = append(all.places, one.places...), append(all.items, one.items...), append(all.levels, one.levels...)
		all.fits = all.fits && one.fits
	}
	return all
}

// isRight tells whether a tree is right.
func (s survey) isRight() bool {
	places := slices.Sorted(slices.Values(s.places))
	return len(slices.Compact(places)) == len(s.places) && slices.Min(s.levels) == slices.Max(s.levels) && slices.Max(s.levels) <= 40 && s.fits
}

// levelsOf is how many levels a right tree has.
func levelsOf(t *testing.T, h *heap.Heap, root int) int {
	t.Helper()
	levels := 0
	for place := root; place != 0; levels++ {
		n := nodeAt(t, h, place)
		place = 0
		if !n.Leaf {
			place = n.Kids[0].Place
		}
	}
	return levels
}

// bushy asks whether each node of a tree that has kids has two or more: so it has few levels, however its items came and went.
func bushy(t *testing.T, what string, h *heap.Heap, root int) {
	t.Helper()
	if root == 0 {
		return
	}
	for _, place := range surveyOf(t, h, root, 1).places {
		if n := nodeAt(t, h, place); len(n.Kids) == 1 {
			t.Fatalf("P8.4: %s: a node with one kid only", what)
		}
	}
}

// sorted is items by rising keys.
func sorted(items map[string]string) []api.Item {
	var list []api.Item
	for _, key := range slices.Sorted(maps.Keys(items)) {
		list = append(list, api.Item{Key: key, Value: items[key]})
	}
	return list
}

// plainRange is the items of some keys.
func plainRange(items map[string]string, from, to string, most int) []api.Item {
	var list []api.Item
	for _, item := range sorted(items) {
		if item.Key >= from && (to == "" || item.Key < to) && len(list) < most {
			list = append(list, item)
		}
	}
	return list
}

// plainDiff is what becomes of items.
func plainDiff(a, b map[string]string) []api.Change {
	both := map[string]string{}
	maps.Copy(both, a)
	maps.Copy(both, b)
	var list []api.Change
	for _, key := range slices.Sorted(maps.Keys(both)) {
		old, had := a[key]
		now, has := b[key]
		if had != has || old != now {
			list = append(list, api.Change{Key: key, Had: had, Has: has, Old: old, New: now})
		}
	}
	return list
}

// hasItems asks whether a tree is right, and has these items.
func hasItems(t *testing.T, what string, h *heap.Heap, root int, want map[string]string) {
	t.Helper()
	if e := tree.Check(h, root); e != api.OK {
		t.Fatalf("P8.1: %s: Check of a tree that is to be right: error %d", what, e)
	}
	if root == 0 {
		if len(want) > 0 {
			t.Fatalf("%s: the tree has no items, want %d", what, len(want))
		}
		return
	}
	s := surveyOf(t, h, root, 1)
	if !slices.Equal(s.items, sorted(want)) {
		t.Fatalf("%s: the tree has %d items, want %d, or others", what, len(s.items), len(want))
	}
	if !s.isRight() {
		t.Fatalf("P8.1: %s: a tree that isn't right", what)
	}
}

// has asks the same, and whether it has no more levels than items.
func has(t *testing.T, what string, h *heap.Heap, root int, want map[string]string) {
	t.Helper()
	hasItems(t, what, h, root, want)
	if levels := levelsOf(t, h, root); levels > len(want) {
		t.Fatalf("P8.4: %s: %d levels, %d items", what, levels, len(want))
	}
}

// counts is how many hold each sector.
func counts(h *heap.Heap, d *disk.Disk) []int {
	var list []int
	for place := range d.Sectors() {
		list = append(list, h.Count(place))
	}
	return list
}

// leads is how many lead to each sector, where these roots are held, each as often as it is named.
func leads(t *testing.T, h *heap.Heap, d *disk.Disk, roots []int) []int {
	t.Helper()
	list := make([]int, d.Sectors())
	var below func(place int)
	below = func(place int) {
		list[place]++
		if list[place] > 1 {
			return
		}
		for _, kid := range nodeAt(t, h, place).Kids {
			below(kid.Place)
		}
	}
	for _, root := range roots {
		if root != 0 {
			below(root)
		}
	}
	return list
}

// heldBy asks whether just these roots are held from outside, each as often as it is named.
func heldBy(t *testing.T, what string, h *heap.Heap, d *disk.Disk, roots ...int) {
	t.Helper()
	if got, want := counts(h, d), leads(t, h, d, roots); !slices.Equal(got, want) {
		t.Fatalf("%s: holders %v, want %v", what, got, want)
	}
}

// numbers are numbers below a bound, the same ones from a seed each time.
func numbers(seed uint64) func(below int) int {
	seed = seed*0x9e3779b97f4a7c15 | 1
	return func(below int) int {
		seed ^= seed << 13
		seed ^= seed >> 7
		seed ^= seed << 17
		return int(seed >> 20 % uint64(below))
	}
}

// digits is a number with so many digits at least.
func digits(n, width int) string {
	s := ""
	for ; n > 0 || width > 0; n, width = n/10, width-1 {
		s = string(rune('0'+n%10)) + s
	}
	return s
}

// long is a text of so many bytes that begins with another one.
func long(begin string, size int) string {
	return begin + strings.Repeat("x", max(size-len(begin), 0))
}

// wide is a text of so many bytes that ends with another one: where keys are so, they begin alike.
func wide(end string, size int) string {
	return strings.Repeat("x", max(size-len(end), 0)) + end
}
