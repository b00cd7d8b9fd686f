package tree_test

import (
	"slices"
	"testing"

	"coppice/api"
	"coppice/disk"
	"coppice/heap"
	"coppice/tree"
)

func TestThePowerGoesWithinACall(t *testing.T) {
	t.Parallel()
	someTrees(t, func(_ string, d *disk.Disk, root int, items []api.Item) {
		for _, call := range changesOf(items) {
			failsByPower(t, d, root, 1, call)
		}
	})
}

func TestThePowerIsGone(t *testing.T) {
	h, d := made(t, 60)
	root := planted(t, h, some(40, 20, 50)...)
	was := counts(h, d)
	d.Power(0)
	d.Flush()
	refusesAll(t, "P8.1: no power", h, root, api.ErrDown)
	next, e := tree.Put(h, 0, "a", "1")
	refuses(t, "P8.1: no power", next, e, api.ErrDown)
	if !slices.Equal(counts(h, d), was) {
		t.Error("P8.1: something has changed")
	}
	drops(t, h, root)
	if h.Room() != 58 {
		t.Error("P8.5: room", h.Room())
	}
}

// wayOf is the places on the way down to a key.
func wayOf(t *testing.T, h *heap.Heap, root int, key string) []int {
	t.Helper()
	var way []int
	for place := root; place != 0; {
		way = append(way, place)
		n := nodeAt(t, h, place)
		place = 0
		for i, kid := range n.Kids {
			if i == 0 || kid.Key <= key {
				place = kid.Place
			}
		}
	}
	return way
}

func TestABlockThatCanNotBeRead(t *testing.T) {
	t.Parallel()
	someTrees(t, func(what string, d *disk.Disk, root int, items []api.Item) {
		if len(items) == 0 || len(items) > 40 {
			return
		}
		whole, _ := loaded(t, d, root)
		for _, lost := range surveyOf(t, whole, root, 1).places {
			h, copied := loaded(t, d, root)
			other := planted(t, h, some(30, 9, 60)...)
			spoil(t, copied, lost)
			was, room := counts(h, copied), h.Room()
			for _, item := range items {
				if slices.Contains(wayOf(t, whole, root, item.Key), lost) {
					findsNot(t, "P8.1: below a lost block", h, root, item.Key, api.ErrLost)
					next, e := tree.Put(h, root, item.Key, "other")
					refuses(t, "P8.1: below a lost block", next, e, api.ErrLost)
					next, e = tree.Delete(h, root, item.Key)
					refuses(t, "P8.1: below a lost block", next, e, api.ErrLost)
				} else {
					finds(t, "P8.1: beside a lost block", h, root, item.Key, item.Value)
				}
			}
			if list, e := tree.Range(h, root, "", "", len(items)); len(list) != 0 || e != api.ErrLost {
				t.Error("P8.1: Range of a lost block", what, list, e)
			}
			refusesDiff(t, "P8.1: a lost block", h, root, 0, api.ErrLost)
			refusesDiff(t, "P8.1: a lost block", h, 0, root, api.ErrLost)
			refusesDiff(t, "P8.1: a lost block", h, other, root, api.ErrLost)
			refusesDiff(t, "P8.1: a lost block", h, root, other, api.ErrLost)
			if e := tree.Check(h, root); e != api.ErrLost {
				t.Error("P8.1: Check of a lost block", what, e)
			}
			losesNothing(t, what, h, copied, root, items)
			if !slices.Equal(counts(h, copied), was) || h.Room() != room {
				t.Fatalf("P8.1: %s: a lost block, and something has changed", what)
			}
		}
	})
}

// losesNothing asks whether each change comes to be, or answers ErrLost.
func losesNothing(t *testing.T, what string, h *heap.Heap, d *disk.Disk, root int, items []api.Item) {
	t.Helper()
	for change, call := range changesOf(items) {
		was := counts(h, d)
		next, e := call(h, root)
		if e == api.OK {
			drops(t, h, next)
		} else {
			refuses(t, "P8.1: "+what+": "+change, next, e, api.ErrLost)
		}
		if !slices.Equal(counts(h, d), was) {
			t.Fatalf("P8.1: %s: %s: a lost block, and somebody holds more than before, or less", what, change)
		}
	}
}

// crowd has a place be held by as many as may be.
func crowd(t *testing.T, h *heap.Heap, place int) {
	t.Helper()
	for h.Count(place) < 5000 {
		if e := h.Hold(place); e != api.OK {
			t.Fatal("Hold", place, e)
		}
	}
}

func TestABlockThatIsHeldByAsManyAsMayBe(t *testing.T) {
	t.Parallel()
	someTrees(t, func(what string, d *disk.Disk, root int, items []api.Item) {
		if len(items) == 0 || len(items) > 17 {
			return
		}
		whole, _ := loaded(t, d, root)
		for _, place := range surveyOf(t, whole, root, 1).places {
			h, copied := loaded(t, d, root)
			crowd(t, h, place)
			was, room := counts(h, copied), h.Room()
			for change, call := range changesOf(items) {
				next, e := call(h, root)
				if e == api.OK {
					drops(t, h, next)
				} else {
					refuses(t, "P8.1: "+what+": "+change, next, e, api.ErrMany)
				}
				if !slices.Equal(counts(h, copied), was) || h.Room() != room {
					t.Fatalf("P8.1: %s: %s: many holders, and something has changed", what, change)
				}
			}
			if list, e := tree.Range(h, root, "", "", 1000); e != api.OK || len(list) != len(items) {
				t.Error("P8.2: Range of what many hold", what, len(list), e)
			}
		}
	})
	h, d := made(t, 20)
	root := planted(t, h, some(20, 4, 80)...)
	crowd(t, h, surveyOf(t, h, root, 1).places[1])
	was := counts(h, d)
	next, e := tree.Put(h, root, "9999", "new") // into another leaf
	refuses(t, "P8.1: ErrMany of the heap", next, e, api.ErrMany)
	if !slices.Equal(counts(h, d), was) {
		t.Error("P8.1: ErrMany, and something has changed")
	}
}
