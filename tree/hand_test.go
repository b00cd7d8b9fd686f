package tree_test

import (
	"maps"
	"slices"
	"testing"

	"coppice/api"
	"coppice/disk"
	"coppice/heap"
	"coppice/tree"
)

// byHand is a right tree of items with so many levels, whose nodes Put and Delete needn't have made: with few kids, with other keys of kids.
func byHand(t *testing.T, h *heap.Heap, number func(int) int, items []api.Item, levels int) int {
	t.Helper()
	if levels == 1 {
		return set(t, h, api.Node{Leaf: true, Items: items})
	}
	var n api.Node
	for last := ""; len(items) > 0; {
		count := 1 + number(min(len(items), 8))
		if levels > 2 && number(3) > 0 {
			count = len(items)
		}
		group := items[:count]
		items = items[count:]
		key := group[0].Key
		switch border := last + "\x00"; {
		case number(3) == 0 && last == "":
			key = ""
		case number(3) > 0 && last != "" && border <= key:
			key = border
		}
		n.Kids = append(n.Kids, api.Kid{Key: key, Place: byHand(t, h, number, group, levels-1)})
		last = group[count-1].Key
	}
	place := set(t, h, n)
	for _, kid := range n.Kids {
		h.Drop(kid.Place) // the node holds it
	}
	return place
}

func TestCallsOfRightTreesThatWerePutByHand(t *testing.T) {
	t.Parallel()
	number := numbers(11)
	for round := range 240 {
		h, d := made(t, 4096)
		levels := []int{1, 2, 3, 4, 8, 20, 39, 40}[round%8]
		items := some(1+number([]int{3, 8, 40}[number(3)]), 5, number(50))
		if levels == 1 {
			items = items[:min(len(items), 10)]
		}
		root, want := byHand(t, h, number, items, levels), asMap(items)
		if e := tree.Check(h, root); e != api.OK {
			t.Fatal("P8.1: Check of a right tree by hand", e)
		}
		for range 12 {
			room, wasMany := h.Room(), root != 0 && levelsOf(t, h, root) > len(want) && len(surveyOf(t, h, root, 1).places) > 90
			next, now := handChange(t, h, number, root, want)
			hasItems(t, "made of a tree by hand", h, next, now)
			if levels := levelsOf(t, h, next); next != root && levels > len(now) && !wasMany { // of many blocks that were too high before Diff would read too many
				t.Fatal("P8.4: made of a tree by hand:", levels, "levels,", len(now), "items")
			}
			if taken := room - h.Room(); taken > 64 {
				t.Fatal("P8.4: made of a tree by hand: sectors taken:", taken)
			}
			heldBy(t, "P8.1: made of a tree by hand", h, d, root, next)
			if read := differs(t, "made of a tree by hand", h, root, next, want, now); read > 128 {
				t.Fatal("P8.3: made of a tree by hand: blocks read:", read)
			}
			ranges(t, h, next, now, digits(number(50), 4), digits(number(50), 4), 5)
			drops(t, h, root)
			root, want = next, now
		}
		drops(t, h, root)
		if h.Room() != 4094 {
			t.Fatal("P8.5: room", h.Room())
		}
	}
}

// handChange has something put or deleted, and asks what comes of it.
func handChange(t *testing.T, h *heap.Heap, number func(int) int, root int, items map[string]string) (int, map[string]string) {
	t.Helper()
	now := maps.Clone(items)
	keys := slices.Sorted(maps.Keys(items))
	key := []string{"!", "0", "0000", "9", "\xff", digits(number(60), 4) + "k"}[number(6)]
	if len(keys) > 0 && number(3) > 0 {
		key = keys[number(len(keys))]
	}
	if number(2) == 0 {
		delete(now, key)
		next := deletes(t, h, root, key)
		findsNot(t, "P8.1: what was deleted", h, next, key, api.OK)
		return next, now
	}
	now[key] = long("n", number(161))
	next := puts(t, h, root, key, now[key])
	finds(t, "P8.1: what was put", h, next, key, now[key])
	return next, now
}

func TestAKeyBelowAllKeysOfKids(t *testing.T) {
	h, _ := made(t, 100)
	low := set(t, h, above("c", set(t, h, leaf("c", "d")), "f", set(t, h, leaf("f"))))
	high := set(t, h, above("n", set(t, h, leaf("n")), "p", set(t, h, leaf("p"))))
	root := set(t, h, above("b", low, "m", high))
	want := map[string]string{"c": "C", "d": "D", "f": "F", "n": "N", "p": "P"}
	for _, key := range []string{"a", "b", "bb", "m", "mm"} {
		findsNot(t, "P8.1: a key below its kid's", h, root, key, api.OK)
		next, now := puts(t, h, root, key, "new"), maps.Clone(want)
		now[key] = "new"
		has(t, "P8.1: a key below its kid's", h, next, now)
		finds(t, "P8.1: a key below its kid's", h, next, key, "new")
		next = deletes(t, h, next, "c")
		delete(now, "c")
		has(t, "P8.1: a key below its kid's", h, next, now)
	}
}

// towering is a right tree of 40 levels whose nodes on the way to the least key are so full that each splits if one more stands there.
func towering(t *testing.T, h *heap.Heap) (int, map[string]string) {
	t.Helper()
	items := map[string]string{}
	key := func(i int) string { return wide(digits(i, 4), 272) }
	bottom := api.Node{Leaf: true}
	for _, i := range []int{10, 20} {
		items[key(i)] = long("v", 160)
		bottom.Items = append(bottom.Items, api.Item{Key: key(i), Value: items[key(i)]})
	}
	place, next := set(t, h, bottom), 30
	for level := range 39 {
		n := above("", place)
		for range 3 {
			side := chain(t, h, level, "", set(t, h, leaf(key(next))))
			items[key(next)] = "XXXXXXXXX"
			n.Kids = append(n.Kids, api.Kid{Key: key(next), Place: side})
			next++
		}
		place = set(t, h, n)
	}
	return place, items
}

func TestATreeNeverHasMoreThan40Levels(t *testing.T) {
	h, _ := made(t, 4096)
	root, items := towering(t, h)
	if levels := levelsOf(t, h, root); levels != 40 || tree.Check(h, root) != api.OK {
		t.Fatal("the test itself is wrong:", levels, tree.Check(h, root))
	}
	room, was := h.Room(), maps.Clone(items)
	key := wide("0015", 272)
	next := puts(t, h, root, key, long("w", 160))
	items[key] = long("w", 160)
	has(t, "P8.1: one more in a tree of 40 full levels", h, next, items)
	has(t, "P8.2: the tree of 40 levels", h, root, was)
	differs(t, "a tree of 40 levels", h, root, next, was, items)
	drops(t, h, next)
	if h.Room() != room {
		t.Error("P8.1: what was put meanwhile is dropped: room", h.Room(), "was", room)
	}
}

func TestWhatFailsOnTreesThatWerePutByHand(t *testing.T) {
	t.Parallel()
	h, d := made(t, 4096)
	tower, _ := towering(t, h)
	l := func(keys ...string) int { return set(t, h, leaf(keys...)) }
	pair := set(t, h, above("", chain(t, h, 38, "", l("b")), "k", chain(t, h, 38, "k", l("k", "m"))))
	for _, one := range []struct {
		root int
		lost []int
		key  string
		by   int
	}{
		{chain(t, h, 39, "", l("b")), nil, "c", 1},
		{pair, surveyOf(t, h, pair, 1).places, "c", 1},
		{tower, surveyOf(t, h, tower, 1).places[35:45], wide("0015", 272), 11},
	} {
		call := func(h *heap.Heap, root int) (int, api.Errno) { return tree.Put(h, root, one.key, long("v", 160)) }
		failsByPower(t, d, one.root, one.by, call)
		for _, lost := range one.lost {
			o, copied := loaded(t, d, one.root)
			spoil(t, copied, lost)
			was := counts(o, copied)
			next, e := call(o, one.root)
			refuses(t, "P8.1: a lost block of a tree by hand", next, e, api.ErrLost)
			refusesDiff(t, "P8.1: a lost block of a tree by hand", o, one.root, 0, api.ErrLost)
			if !slices.Equal(counts(o, copied), was) {
				t.Fatal("P8.1: a lost block of a tree by hand, and something has changed")
			}
		}
	}
}

// failsByPower has the power go at each call of the disk that a change of a tree makes, or, where these are many, at some.
func failsByPower(t *testing.T, d *disk.Disk, root, by int, call func(h *heap.Heap, root int) (int, api.Errno)) {
	t.Helper()
	for calls := 0; ; calls += by {
		h, copied := loaded(t, d, root)
		was, room := counts(h, copied), h.Room()
		copied.Power(calls)
		next, e := call(h, root)
		if e == api.OK {
			return
		}
		refuses(t, "P8.1: the power goes", next, e, api.ErrDown)
		if !slices.Equal(counts(h, copied), was) || h.Room() != room {
			t.Fatalf("P8.1: the power goes behind %d calls, and something has changed", calls)
		}
	}
}
