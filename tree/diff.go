package tree

import (
	"slices"

	"coppice/api"
	"coppice/heap"
)

// Diff is what is unlike in two trees.
func Diff(h *heap.Heap, a, b int) ([]api.Change, int, api.Errno) {
	if err := held(h, a, b); err != api.OK || a == b {
		return nil, 0, err
	}
	r := &reader{h: h, nodes: map[int]api.Node{}}
	was, is, err := r.unlike(a, b)
	if err != api.OK {
		return nil, 0, err
	}
	return changes(was, is), len(r.nodes), api.OK
}

// reader reads each block once.
type reader struct {
	h     *heap.Heap
	nodes map[int]api.Node
}

// get is the node at a place.
func (r *reader) get(place int) (api.Node, api.Errno) {
	if n, is := r.nodes[place]; is {
		return n, api.OK
	}
	n, err := r.h.Get(place)
	if err == api.OK {
		r.nodes[place] = n
	}
	return n, err
}

// side is how far one of two trees is gone through, level by level.
type side struct {
	places []int            // of the level that comes next, those that the other tree hasn't
	met    map[int]struct{} // the places it came to
	items  []api.Item       // of the leaves that the other tree hasn't
}

// sideOf is a tree at its root.
func sideOf(root int) *side {
	s := &side{met: map[int]struct{}{root: {}}}
	if root != 0 {
		s.places = []int{root}
	}
	return s
}

// unlike is the items of each of two trees that stand in leaves that the other one hasn't. What both have stands at the same level, counted from below, and is left out there with all that is below it: so just those nodes are gone through that one of them has alone.
func (r *reader) unlike(a, b int) ([]api.Item, []api.Item, api.Errno) {
	more, err := r.higher(a, b)
	was, is := sideOf(a), sideOf(b)
	for err == api.OK && len(was.places)+len(is.places) > 0 {
		switch {
		case more > 0:
			more--
			err = r.lower(was)
		case more < 0:
			more++
			err = r.lower(is)
		default:
			was.places, is.places = without(was.places, is.places), without(is.places, was.places)
			err = r.lower(was, is)
		}
	}
	return was.items, is.items, err
}

// lower goes one level down.
func (r *reader) lower(sides ...*side) api.Errno {
	for _, s := range sides {
		places := s.places
		s.places = nil
		for _, place := range places {
			n, err := r.get(place)
			if err != api.OK {
				return err
			}
			s.items = append(s.items, n.Items...)
			if !s.come(n.Kids) {
				return api.ErrTree
			}
		}
	}
	return api.OK
}

// come has kids come next, and tells whether they are met for the first time.
func (s *side) come(kids []api.Kid) bool {
	for _, kid := range kids {
		if _, is := s.met[kid.Place]; is {
			return false
		}
		s.met[kid.Place] = struct{}{}
		s.places = append(s.places, kid.Place)
	}
	return true
}

// without is the places that aren't among others.
func without(places, others []int) []int {
	known := map[int]struct{}{}
	for _, place := range others {
		known[place] = struct{}{}
	}
	return slices.DeleteFunc(slices.Clone(places), func(place int) bool {
		_, is := known[place]
		return is
	})
}

// higher is how many levels the first tree has more than the second one.
func (r *reader) higher(a, b int) (int, api.Errno) {
	if a == 0 || b == 0 {
		return 0, api.OK
	}
	first, second := edgeOf(a), edgeOf(b)
	for range maxLevels {
		if more, is, err := r.follow(first, second); is || err != api.OK {
			return more, err
		}
		if less, is, err := r.follow(second, first); is || err != api.OK {
			return -less, err
		}
	}
	return 0, api.ErrTree
}

// edge is the way down a tree by the first kids.
type edge struct {
	next   int         // the place where it goes on; 0: it has come to its leaf
	level  int         // of the last node that was read, the root's is 0
	levels map[int]int // of all places that are known
}

// edgeOf is an edge at its root.
func edgeOf(root int) *edge {
	return &edge{next: root, levels: map[int]int{root: 0}}
}

// follow goes one level down an edge, and is how many levels its tree has more than the other edge's, if that is known by then: a place that both have is equally far above the leaves in both. That is mostly known long ahead of the leaves: so little is read that both have.
func (r *reader) follow(e, other *edge) (int, bool, api.Errno) {
	if e.next != 0 {
		n, err := r.get(e.next)
		if err != api.OK {
			return 0, false, err
		}
		e.level = e.levels[e.next]
		e.next = 0
		for _, kid := range n.Kids {
			if level, is := other.levels[kid.Place]; is {
				return e.level + 1 - level, true, api.OK
			}
			e.levels[kid.Place] = e.level + 1
		}
		if !n.Leaf {
			e.next = n.Kids[0].Place
		}
	}
	return e.level - other.level, e.next == 0 && other.next == 0, api.OK
}

// changes is what becomes of the items of two lists whose keys rise.
func changes(was, is []api.Item) []api.Change {
	var list []api.Change
	for len(was)+len(is) > 0 {
		var c api.Change
		switch {
		case len(is) == 0 || len(was) > 0 && was[0].Key < is[0].Key:
			c = api.Change{Key: was[0].Key, Had: true, Old: was[0].Value}
			was = was[1:]
		case len(was) > 0 && was[0].Key == is[0].Key:
			c.Had, c.Old = true, was[0].Value
			was = was[1:]
			fallthrough
		default:
			c.Key, c.Has, c.New = is[0].Key, true, is[0].Value
			is = is[1:]
		}
		if c.Had != c.Has || c.Old != c.New {
			list = append(list, c)
		}
	}
	return list
}
