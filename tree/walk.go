package tree

import (
	"iter"

	"coppice/api"
	"coppice/heap"
	"coppice/node"
)

// Range is the items of some keys.
func Range(h *heap.Heap, root int, from, to string, most int) ([]api.Item, api.Errno) {
	if err := held(h, root); err != api.OK || root == 0 || most < 1 {
		return nil, err
	}
	var list []api.Item
	w := &walk{h: h, met: map[int]struct{}{}}
	for item := range w.items(root, from, to) {
		list = append(list, item)
		if len(list) == most {
			break
		}
	}
	if w.err != api.OK {
		return nil, w.err
	}
	return list, api.OK
}

// walk goes through a tree in its order.
type walk struct {
	h   *heap.Heap
	met map[int]struct{} // the places it came to: in a tree that isn't right it might come to them ever again
	err api.Errno
}

// items hands out the items whose keys are at least from, and below to, unless that is empty. They end early where an error is met.
func (w *walk) items(root int, from, to string) iter.Seq[api.Item] {
	return func(yield func(api.Item) bool) {
		w.below(root, from, to, yield)
	}
}

// below hands out the items below a place, and tells whether more are wanted.
func (w *walk) below(place int, from, to string, yield func(api.Item) bool) bool {
	n, err := w.come(place)
	if err != api.OK {
		w.err = err
		return false
	}
	if n.Leaf {
		at, _ := node.Find(n, from)
		for _, item := range n.Items[at:] {
			if isPast(item.Key, to) || !yield(item) {
				return false
			}
		}
		return true
	}
	for _, kid := range n.Kids[kidFor(n, from):] {
		if isPast(kid.Key, to) || !w.below(kid.Place, from, to, yield) {
			return false
		}
	}
	return true
}

// come is the node at a place to which the walk didn't come yet.
func (w *walk) come(place int) (api.Node, api.Errno) {
	if _, is := w.met[place]; is {
		return api.Node{}, api.ErrTree
	}
	w.met[place] = struct{}{}
	return w.h.Get(place)
}

// isPast tells whether a key is at or above one; none is above an empty one.
func isPast(key, to string) bool { return to != "" && key >= to }
