package tree_test

import (
	"maps"
	"slices"
	"testing"

	"coppice/api"
	"coppice/heap"
	"coppice/tree"
)

// nursery puts right trees by hand, node by node, with rising keys between which others have room.
type nursery struct {
	t     *testing.T
	h     *heap.Heap
	key   func(number int) string // rising with the number
	value string
	last  int // the number of the last key
	items map[string]string
	mark  string // the first key of the way's leaf
	left  int    // sectors that may be taken yet
}

// nurseryOn is one on a heap.
func nurseryOn(t *testing.T, h *heap.Heap, value int, key func(number int) string) *nursery {
	return &nursery{t: t, h: h, key: key, value: long("v", value), items: map[string]string{}}
}

// alike are keys of so many bytes that begin alike.
func alike(bytes int) func(number int) string {
	return func(number int) string { return wide(digits(number, 5), bytes) }
}

// leaf puts a leaf with so many items.
func (n *nursery) leaf(count int) api.Kid {
	var made api.Node
	made.Leaf = true
	for range count {
		n.last++
		item := api.Item{Key: n.key(n.last), Value: n.value}
		n.items[item.Key] = item.Value
		made.Items = append(made.Items, item)
	}
	return api.Kid{Key: made.Items[0].Key, Place: set(n.t, n.h, made)}
}

// over puts a node over kids, which holds them alone then.
func (n *nursery) over(kids []api.Kid) api.Kid {
	n.t.Helper()
	first := kids[0].Key
	kids[0].Key = ""
	place := set(n.t, n.h, api.Node{Kids: kids})
	for _, kid := range kids {
		n.h.Drop(kid.Place)
	}
	return api.Kid{Key: first, Place: place}
}

// shape is how many kids the nodes beside the way have, by how far below it they are; 1 from some depth on.
type shape func(depth int) int

// evenly are so many kids down to some depth.
func evenly(count, depth int) shape {
	return func(below int) int {
		if below > depth {
			return 1
		}
		return count
	}
}

// byTurns are two kids and three by turns, of which no two nodes fit into one, down to some depth.
func byTurns(depth int) shape {
	turn := 0
	return func(below int) int {
		if below > depth {
			return 1
		}
		turn++
		return 2 + turn%2
	}
}

// side puts what is beside the way, so high.
func (n *nursery) side(height, below, items int, kidsOf shape) api.Kid {
	if height == 1 {
		return n.leaf(items)
	}
	var kids []api.Kid
	for range kidsOf(below) {
		kids = append(kids, n.side(height-1, below+1, items, kidsOf))
	}
	return n.over(kids)
}

// plot is how a way is planted: how many kids a node of some height has ahead of the way and behind it, what these have below them, how many items the leaves beside the way have, and the one on it.
type plot struct {
	beside      func(height int) (ahead, behind int)
	kidsOf      shape
	items, leaf int
}

// way puts a way of some height, with all that is beside it.
func (n *nursery) way(height int, p plot) api.Kid {
	if height == 1 {
		kid := n.leaf(p.leaf)
		n.mark = kid.Key
		return kid
	}
	ahead, behind := p.beside(height)
	var kids []api.Kid
	for i := range ahead + 1 + behind {
		if i == ahead {
			kids = append(kids, n.way(height-1, p))
		} else {
			kids = append(kids, n.side(height-1, 1, p.items, p.kidsOf))
		}
	}
	return n.over(kids)
}

// upTo has so many kids beside the way up to a height, above that none.
func upTo(height, ahead, behind int) func(int) (int, int) {
	return func(at int) (int, int) {
		if at > height {
			return 0, 0
		}
		return ahead, behind
	}
}

// grown is a tree put by hand that is alone on a disk with just so many sectors left as P8.4 asks for.
func grown(t *testing.T, height, width, value int, p func() plot) (*nursery, int) {
	t.Helper()
	h, _ := made(t, 4096)
	nurseryOn(t, h, value, alike(width)).way(height, p())
	free := min(64, 4*(height+1))
	if h.Room() < free {
		t.Fatal("the test itself is wrong: room", h.Room())
	}
	h, _ = made(t, 4096-h.Room()+free)
	n := nurseryOn(t, h, value, alike(width))
	root := n.way(height, p()).Place
	if e := tree.Check(h, root); e != api.OK || h.Room() != free {
		t.Fatal("the test itself is wrong: Check", e, "room", h.Room())
	}
	return n, root
}

// change is a Put, or a Delete, of one key.
type change struct {
	what, key, value string
	gone             bool
}

// of is what becomes of items.
func (c change) of(items map[string]string) map[string]string {
	now := maps.Clone(items)
	if c.gone {
		delete(now, c.key)
	} else {
		now[c.key] = c.value
	}
	return now
}

// call has it done.
func (c change) call(h *heap.Heap, root int) (int, api.Errno) {
	if c.gone {
		return tree.Delete(h, root, c.key)
	}
	return tree.Put(h, root, c.key, c.value)
}

// changesAt are changes at a key.
func changesAt(where, key string) []change {
	return []change{
		{"Put behind " + where, key + "z", long("w", 160), false},
		{"Put just behind " + where, key + "\x00", "", false},
		{"Put of another value, " + where, key, long("w", 160), false},
		{"Put of an empty value, " + where, key, "", false},
		{"Delete of " + where, key, "", true},
	}
}

// changesAround are changes at the way's leaf, at both ends and in the middle.
func (n *nursery) changesAround() []change {
	keys := slices.Sorted(maps.Keys(n.items))
	list := []change{{"Put ahead of all", "!", long("w", 160), false}}
	for where, key := range map[string]string{"the way's key": n.mark, "the first key": keys[0], "the middle key": keys[len(keys)/2], "the last key": keys[len(keys)-1]} {
		list = append(list, changesAt(where, key)...)
	}
	return list
}

// keeps asks what becomes of a tree by a change: what it takes, what Diff reads, whether it is right, its items, its levels. It answers the new root.
func keeps(t *testing.T, what string, h *heap.Heap, root int, items map[string]string, c change) int {
	t.Helper()
	room, now := h.Room(), c.of(items)
	next, e := c.call(h, root)
	if e != api.OK {
		t.Fatalf("P8.4: %s: %s: error %d with %d sectors free", what, c.what, e, room)
	}
	if taken := room - h.Room(); taken > 64 {
		t.Errorf("P8.4: %s: %s: %d sectors were taken", what, c.what, taken)
	}
	hasItems(t, what+": "+c.what, h, next, now)
	if levels := levelsOf(t, h, next); next != root && levels > len(now) && levelsOf(t, h, root) <= len(items) {
		t.Fatalf("P8.4: %s: %s: %d levels, %d items", what, c.what, levels, len(now))
	}
	if read := differs(t, what+": "+c.what, h, root, next, items, now); read > 128 {
		t.Errorf("P8.3: %s: %s: Diff read %d blocks", what, c.what, read)
	}
	return next
}

// gives asks whether all is as it was when what was made is dropped.
func gives(t *testing.T, what string, h *heap.Heap, next, room int) {
	t.Helper()
	drops(t, h, next)
	if h.Room() != room {
		t.Fatalf("P8.1: %s: %d sectors are free, %d were", what, h.Room(), room)
	}
}

// plots are ways that are full up to some height, with sides that are easily made fewer, or hardly.
func plots() map[string]func() plot {
	list := map[string]func() plot{}
	for where, at := range map[string][2]int{"at the end": {3, 0}, "at the beginning": {0, 3}, "within": {1, 2}} {
		for what, one := range map[string]struct {
			upTo   int
			kidsOf func() shape
		}{
			"chains":                  {40, func() shape { return evenly(1, 0) }},
			"full sides":              {24, func() shape { return evenly(4, 1) }},
			"sides full twice":        {12, func() shape { return evenly(4, 2) }},
			"sides in threes":         {16, func() shape { return evenly(3, 2) }},
			"sides by turns":          {26, func() shape { return byTurns(1) }},
			"sides by turns twice":    {20, func() shape { return byTurns(2) }},
			"sides by turns thrice":   {14, func() shape { return byTurns(3) }},
			"sides by turns to 5":     {9, func() shape { return byTurns(5) }},
			"chains below, lonely up": {9, func() shape { return evenly(1, 0) }},
		} {
			list[what+", "+where] = func() plot {
				return plot{upTo(one.upTo, at[0], at[1]), one.kidsOf(), 2, 2}
			}
		}
	}
	return list
}

func TestTallTreesPutByHandKeepThePromises(t *testing.T) {
	for what, p := range plots() {
		t.Run(what, func(t *testing.T) {
			t.Parallel()
			for _, height := range []int{1, 2, 7, 15, 31, 32, 40} {
				n, root := grown(t, height, 270, 160, p)
				what := what + ", " + digits(height, 1) + " levels"
				list := changesAt("the way's key", n.mark)
				if height == 40 {
					list = n.changesAround()
				}
				for _, c := range list {
					room := n.h.Room()
					gives(t, what+": "+c.what, n.h, keeps(t, what, n.h, root, n.items, c), room)
				}
			}
		})
	}
}

func TestATallTreeWhereFewerSectorsAreFree(t *testing.T) {
	t.Parallel()
	h, d := made(t, 4096)
	n := nurseryOn(t, h, 160, alike(270))
	root := n.way(40, plot{upTo(40, 3, 0), evenly(1, 0), 1, 2}).Place
	for free := 63; free >= 0; free-- {
		fill(t, h, free)
		was := counts(h, d)
		for _, c := range changesAt("the way's key", n.mark) {
			next, e := c.call(h, root)
			if e == api.OK {
				drops(t, h, next)
			} else {
				refuses(t, "P8.4: "+c.what, next, e, api.ErrNoSpace)
			}
			if free < 39 && e == api.OK {
				t.Errorf("the test itself is wrong: %s took %d sectors", c.what, free)
			}
			if !slices.Equal(counts(h, d), was) {
				t.Fatalf("P8.1: %s with %d sectors free: something has changed", c.what, free)
			}
		}
	}
}

func TestManyChangesOfATallTree(t *testing.T) {
	for _, height := range []int{20, 33, 40} {
		t.Run(digits(height, 1), func(t *testing.T) {
			t.Parallel()
			number := numbers(uint64(height))
			h, d := made(t, 4096)
			n := nurseryOn(t, h, 160, alike(270))
			root, items := n.way(height, plot{upTo(height, 2, 1), evenly(1, 0), 1, 2}).Place, n.items
			for range 150 {
				keys := slices.Sorted(maps.Keys(items))
				at, _ := slices.BinarySearch(keys, n.mark) // around it the same nodes fill, and are emptied
				list := changesAt("a key near the way's", keys[at-2+number(5)])
				c := list[number(len(list))]
				if len(c.key) > api.MaxKey {
					continue
				}
				next := keeps(t, "many changes", h, root, items, c)
				drops(t, h, root)
				root, items = next, c.of(items)
			}
			heldBy(t, "P8.1: many changes", h, d, root)
		})
	}
}

// wild puts a tree of some height whose nodes have kids as chance says: at most so many, often just one, in some trees nearly always many; fewer where few sectors are left.
func (n *nursery) wild(height, most, often int, number func(int) int) api.Kid {
	if height == 1 {
		return n.leaf(1 + number(2))
	}
	count := 1
	if more := number(most); number(8) < often && more*(height-1) <= n.left {
		count += more
		n.left -= more * (height - 1)
	}
	var kids []api.Kid
	for range count {
		kids = append(kids, n.wild(height-1, most, often, number))
	}
	return n.over(kids)
}

func TestTreesPutByHandByChanceKeepThePromises(t *testing.T) {
	for seed := range 6 {
		t.Run("", func(t *testing.T) {
			t.Parallel()
			number := numbers(uint64(seed)*77 + 5)
			for range 14 {
				h, _ := made(t, []int{400, 1500, 4096}[number(3)])
				prefix := []int{5, 60, 120, 260}[number(4)]
				pad := number(266 - prefix)
				n := nurseryOn(t, h, number(161), func(i int) string {
					return wide(digits(i, 5), prefix) + long("y", 1+number(pad+1))
				})
				height := 1 + number(40)
				n.left = h.Room() - 64 - height
				root := n.wild(height, 1+1000/(prefix+pad+6), number(9), number).Place
				if e := tree.Check(h, root); e != api.OK {
					t.Fatal("the test itself is wrong: Check", e)
				}
				keys, room := slices.Sorted(maps.Keys(n.items)), h.Room()
				for range 3 {
					for _, c := range changesAt("chance", keys[number(len(keys))]) {
						gives(t, "chance", h, keeps(t, "chance", h, root, n.items, c), room)
					}
				}
			}
		})
	}
}
