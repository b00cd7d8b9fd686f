package tree

import (
	"coppice/api"
	"coppice/heap"
)

// Check tells whether a tree is right. Of a tree that isn't, that is told rather than that a block can't be read: so the search goes on past such a block.
func Check(h *heap.Heap, root int) api.Errno {
	if err := held(h, root); err != api.OK || root == 0 {
		return err
	}
	s := &search{walk: walk{h: h, met: map[int]struct{}{}}}
	if !s.isRight(root, 1, "", "") || s.leaves != 0 && s.deepest > s.leaves {
		return api.ErrTree
	}
	return s.err
}

// search looks for what isn't right in a tree.
type search struct {
	walk
	leaves  int // the level at which leaves are; 0: none was met
	deepest int // the deepest level to which the search came
}

// isRight tells whether nothing was met below a place that isn't right. The items there are to be at least from, and below to, unless that is empty.
func (s *search) isRight(place, level int, from, to string) bool {
	s.deepest = max(s.deepest, level)
	n, err := s.come(place)
	switch {
	case err == api.ErrTree || level > maxLevels:
		return false
	case err != api.OK:
		if s.err == api.OK {
			s.err = err
		}
		return true
	case n.Leaf:
		return s.isRightLeaf(n.Items, level, from, to)
	}
	for i, kid := range n.Kids {
		end := to
		if i+1 < len(n.Kids) && !isPast(n.Kids[i+1].Key, to) {
			end = n.Kids[i+1].Key
		}
		if !s.isRight(kid.Place, level+1, max(from, kid.Key), end) {
			return false
		}
	}
	return true
}

// isRightLeaf tells whether a leaf's items are where they are to be. Their keys rise: so the first and the last one tell it of all.
func (s *search) isRightLeaf(items []api.Item, level int, from, to string) bool {
	if s.leaves == 0 {
		s.leaves = level
	}
	return s.leaves == level && items[0].Key >= from && !isPast(items[len(items)-1].Key, to)
}
