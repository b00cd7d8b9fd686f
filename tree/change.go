package tree

import (
	"math"
	"slices"

	"coppice/api"
	"coppice/heap"
	"coppice/node"
)

// maker puts the nodes of a tree that is made of another one.
type maker struct {
	h    *heap.Heap
	made []int // what it put, and holds
}

// changed is the root of a tree that has what edit makes of another one's items; way and leaf lead to the ones that edit changes.
func changed(h *heap.Heap, root int, way []step, leaf api.Node, edit func([]api.Item) []api.Item) (answer int, err api.Errno) {
	m := &maker{h: h}
	defer func() { m.release(answer) }()
	few, items, err := m.tooFew(root, way, edit)
	if err != api.OK {
		return 0, err
	}
	if few {
		return m.grow(items)
	}
	kids, err := m.climb(way, leaf, edit)
	if err != api.OK {
		return 0, err
	}
	if len(kids) > 1 && len(way)+1 == maxLevels {
		return m.regrow(root, edit)
	}
	return m.crown(kids)
}

// release drops what was put, but the root that is answered: what is below that is held by its nodes, and all else was put in vain.
func (m *maker) release(root int) {
	for _, place := range m.made {
		if place != root {
			m.h.Drop(place)
		}
	}
	m.made = nil
}

// tooFew tells whether a changed tree would have fewer items than levels, and which ones these are. There are as many items as levels wherever each node on a way down has two kids, as all have that are made here: so they are counted only where a node was put by others.
func (m *maker) tooFew(root int, way []step, edit func([]api.Item) []api.Item) (bool, []api.Item, api.Errno) {
	if !slices.ContainsFunc(way, func(s step) bool { return isLonely(s.node) }) {
		return false, nil, api.OK
	}
	levels := len(way) + 1
	items, err := Range(m.h, root, "", "", levels+1)
	if err != api.OK {
		return false, nil, err
	}
	items = edit(items)
	return len(items) < levels, items, api.OK
}

// regrow makes a tree anew that would have too many levels else, which only one can have that was put by others.
func (m *maker) regrow(root int, edit func([]api.Item) []api.Item) (int, api.Errno) {
	m.release(0)
	items, err := Range(m.h, root, "", "", math.MaxInt)
	if err != api.OK {
		return 0, err
	}
	return m.grow(edit(items))
}

// grow puts a tree of items that shares nothing.
func (m *maker) grow(items []api.Item) (int, api.Errno) {
	if len(items) == 0 {
		return 0, api.OK
	}
	kids, err := m.plant(api.Node{Leaf: true, Items: items}, "", false)
	if err != api.OK {
		return 0, err
	}
	return m.crown(kids)
}

// crown puts nodes above kids until there is but one, which is the root.
func (m *maker) crown(kids []api.Kid) (int, api.Errno) {
	for len(kids) > 1 {
		above, err := m.plant(api.Node{Kids: kids}, "", false)
		if err != api.OK {
			return 0, err
		}
		kids = above
	}
	switch {
	case len(kids) == 0:
		return 0, api.OK
	case slices.Contains(m.made, kids[0].Place):
		return kids[0].Place, api.OK
	}
	return again(m.h, kids[0].Place)
}

// climb puts what becomes of a leaf, and of the nodes on the way to it, from below, and is the kids that lead to what becomes of the root.
func (m *maker) climb(way []step, leaf api.Node, edit func([]api.Item) []api.Item) ([]api.Kid, api.Errno) {
	was, now := leaf, api.Node{Leaf: true, Items: edit(leaf.Items)}
	end := endsUnlike(was, now)
	for _, s := range slices.Backward(way) {
		kids, err := m.mend(s, was, now, end)
		if err != api.OK {
			return nil, err
		}
		was, now = s.node, api.Node{Kids: kids}
		end = s.at == len(s.node.Kids)-1
	}
	if count(now) == 0 || isLonely(now) {
		return now.Kids, api.OK
	}
	return m.plant(now, "", end)
}

// endsUnlike tells whether a leaf has another last key than it had.
func endsUnlike(was, now api.Node) bool {
	a, b := len(was.Items), len(now.Items)
	return a == 0 || b == 0 || was.Items[a-1].Key != now.Items[b-1].Key
}

// mend puts what becomes of a kid, and is the kids of the node that had it.
func (m *maker) mend(s step, was, now api.Node, end bool) ([]api.Kid, api.Errno) {
	kids := s.node.Kids
	from, to := s.at, s.at+1
	switch {
	case count(now) == 0:
		return slices.Concat(kids[:from], kids[to:]), api.OK
	case isLean(was, now):
		var err api.Errno
		now, from, to, err = m.joined(s, now)
		if err != api.OK {
			return nil, err
		}
	}
	planted, err := m.plant(now, kids[from].Key, end)
	if err != api.OK {
		return nil, err
	}
	return slices.Concat(kids[:from], planted, kids[to:]), api.OK
}

// isLonely tells whether it is a node with one kid only.
func isLonely(n api.Node) bool { return !n.Leaf && len(n.Kids) == 1 }

// isLean tells whether a node is to be joined with one beside it: it has become lesser, and little is left of it. So has one that was left with one kid.
func isLean(was, now api.Node) bool {
	size := node.Size(now)
	return size <= api.MaxPayload/2 && size < node.Size(was)
}

// joined is a node together with one beside it, and from which kid on, up to which one, it comes in the place of both. It stays alone where none beside it has room; but a lonely one, which can't stay so, shares then what the other one has.
func (m *maker) joined(s step, now api.Node) (api.Node, int, int, api.Errno) {
	kids := s.node.Kids
	for _, beside := range []int{s.at - 1, s.at + 1} {
		if beside < 0 || beside == len(kids) {
			continue
		}
		other, err := m.h.Get(kids[beside].Place)
		if err != api.OK {
			return api.Node{}, 0, 0, err
		}
		left, right := other, now
		if beside > s.at {
			left, right = now, other
		}
		from := min(beside, s.at)
		whole := together(left, right, kids[from+1].Key)
		fits := node.Check(whole)
		if fits == api.OK || fits == api.ErrBig && isLonely(now) {
			return whole, from, from + 2, api.OK
		}
	}
	return now, s.at, s.at + 1, api.OK
}

// together is a node with the entries of two that stand side by side, however many bytes they have; of unlike kinds it isn't right. The second one's first kid gets the key by which the second one was found: its own needn't be above the first one's keys.
func together(a, b api.Node, key string) api.Node {
	whole := api.Node{Leaf: a.Leaf && b.Leaf, Items: slices.Concat(a.Items, b.Items), Kids: slices.Concat(a.Kids, b.Kids)}
	if len(a.Kids) > 0 && len(b.Kids) > 0 {
		whole.Kids[len(a.Kids)].Key = key
	}
	return whole
}

// plant puts a node, in parts if it is too big, and is the kids that lead to them, the first one by this key.
func (m *maker) plant(n api.Node, key string, end bool) ([]api.Kid, api.Errno) {
	var kids []api.Kid
	for part, border := range parts(n, key, end) {
		if !part.Leaf {
			part.Kids = slices.Clone(part.Kids)
			part.Kids[0].Key = "" // whatever is below the node may be below its first kid
		}
		place, err := m.h.Put(part)
		if err != api.OK {
			return nil, err
		}
		m.made = append(m.made, place)
		kids = append(kids, api.Kid{Key: border, Place: place})
	}
	return kids, api.OK
}
