package tree

import (
	"coppice/api"
	"coppice/heap"
)

// maker plans a tree that is made of another one, and puts it.
type maker struct {
	press
	root int                         // of the other tree
	way  []step                      // to what is changed in it
	leaf api.Node                    // at the end of the way
	edit func([]api.Item) []api.Item // what becomes of that leaf's items, with others around them or without
	made []int                       // what was put, and is held
}

// changed is the root of a tree that has what edit makes of another one's items; way and leaf lead to the ones that edit changes.
func changed(h *heap.Heap, root int, way []step, leaf api.Node, edit func([]api.Item) []api.Item) (answer int, err api.Errno) {
	m := &maker{press: pressOf(h), root: root, way: way, leaf: leaf, edit: edit}
	top := m.best().list
	switch {
	case m.err != api.OK:
		return 0, m.err
	case len(top) == 0:
		return 0, api.OK
	case top[0].place != 0:
		return again(h, top[0].place)
	}
	defer func() { m.release(answer) }()
	return m.put(top[0])
}

// release drops what was put, but the root that is answered: what is below that is held by its nodes, and all else was put in vain.
func (m *maker) release(root int) {
	for _, place := range m.made {
		if place != root {
			m.h.Drop(place)
		}
	}
}

// put puts a kid that is planned, with what is planned below it.
func (m *maker) put(e entry) (int, api.Errno) {
	n := e.node.shape()
	for i := range n.Kids {
		if n.Kids[i].Place != 0 {
			continue
		}
		place, err := m.put(e.node.list[i])
		if err != api.OK {
			return 0, err
		}
		n.Kids[i].Place = place
	}
	place, err := m.h.Put(n)
	if err == api.OK {
		m.made = append(m.made, place)
	}
	return place, err
}
