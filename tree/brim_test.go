package tree_test

import (
	"testing"

	"coppice/api"
	"coppice/heap"
	"coppice/node"
	"coppice/tree"
)

// low has all sectors up to 127 be taken, and is those that were free.
func low(t *testing.T, h *heap.Heap) []int {
	t.Helper()
	var places []int
	for h.Count(127) == 0 {
		places = append(places, set(t, h, leaf("filler")))
	}
	return places
}

// brimful is the root of a tree put by hand whose nodes on the way have as many bytes as may be, and lead on to places with one byte. What comes in the place of such a kid has a place with two bytes: so each of these nodes is too big then, whether a kid was split or not.
func brimful(t *testing.T, n *nursery, height int) int {
	t.Helper()
	fillers := low(t, n.h)
	sides, keys := map[int][]api.Kid{}, map[int]string{}
	for at := height; at > 1; at-- {
		for range 4 {
			sides[at] = append(sides[at], n.side(at-1, 1, 1, evenly(1, 0)))
		}
		n.last++
		keys[at] = n.key(n.last) // no item has it
	}
	for _, place := range fillers {
		drops(t, n.h, place)
	}
	kid := n.leaf(2)
	n.mark = kid.Key
	for at := 2; at <= height; at++ {
		kid.Key = keys[at]
		kids := append(sides[at], kid)
		kids[0].Key = ""
		kids[4].Key = long(kid.Key, len(kid.Key)+api.MaxPayload-node.Size(api.Node{Kids: kids}))
		if size := node.Size(api.Node{Kids: kids}); size != api.MaxPayload || kid.Place > 127 {
			t.Fatal("the test itself is wrong: size", size, "place", kid.Place)
		}
		kid = n.over(kids)
	}
	low(t, n.h)
	return kid.Place
}

func TestTallTreesFullToTheLastByteKeepThePromises(t *testing.T) {
	for _, height := range []int{9, 31, 32, 35, 38, 40} {
		t.Run(digits(height, 1), func(t *testing.T) {
			t.Parallel()
			h, _ := made(t, 4096)
			n := nurseryOn(t, h, 1, func(number int) string { return long(digits(number, 5), 246) })
			root := brimful(t, n, height)
			if e := tree.Check(h, root); e != api.OK {
				t.Fatal("the test itself is wrong: Check", e)
			}
			fill(t, h, 64)
			for _, c := range changesAt("the way's key", n.mark) {
				gives(t, c.what, h, keeps(t, "full to the last byte", h, root, n.items, c), 64)
			}
		})
	}
}
