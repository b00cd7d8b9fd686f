package node_test

import (
	"slices"
	"strings"
	"sync"
	"testing"
	"unsafe"

	"coppice/api"
	"coppice/node"
)

// roomy is a copy of a node, whose lists have room behind their ends, and what stands in all of that room.
func roomy(n api.Node) (api.Node, []api.Item, []api.Kid) {
	items, kids := slices.Clone(n.Items), slices.Clone(n.Kids)
	for range 20 {
		items = append(items, api.Item{Key: "room", Value: "behind"})
		kids = append(kids, api.Kid{Key: "room", Place: 77})
	}
	return api.Node{Leaf: n.Leaf, Items: items[:len(n.Items)], Kids: kids[:len(n.Kids)]}, items, kids
}

// unchanged asks whether a roomy node, and the room behind it, are as they were.
func unchanged(t *testing.T, what string, n, was api.Node, items []api.Item, kids []api.Kid) {
	t.Helper()
	_, wantItems, wantKids := roomy(was)
	if !same(n, was) || !slices.Equal(items, wantItems) || !slices.Equal(kids, wantKids) {
		t.Errorf("P6.4: %s: what was handed in has changed, or the room behind it", what)
	}
}

// all is the nodes of which the calls are asked.
func all() map[string]api.Node {
	nodes := right()
	for what, n := range wrong() {
		nodes[what] = n
	}
	for what, n := range tooBig() {
		nodes[what] = n
	}
	return nodes
}

func TestWhatIsHandedInIsNotChanged(t *testing.T) {
	for what, was := range all() {
		n, items, kids := roomy(was)
		node.Check(n)
		node.Size(n)
		node.Encode(n)
		node.Find(n, "k")
		unchanged(t, what, n, was, items, kids)
		node.Split(n)
		unchanged(t, what+", split", n, was, items, kids)
		other := api.Node{Leaf: true, Items: []api.Item{{Key: "zz"}}, Kids: []api.Kid{}}
		if !was.Leaf {
			other = api.Node{Items: []api.Item{}, Kids: []api.Kid{{Key: "zz", Place: 3}}}
		}
		m, mItems, mKids := roomy(other)
		node.Join(n, m)
		node.Join(m, n)
		node.Join(n, n)
		unchanged(t, what+", joined", n, was, items, kids)
		unchanged(t, what+", the other", m, other, mItems, mKids)
	}
}

// scribble writes into all that a node has, and into the room behind its lists.
func scribble(n api.Node) {
	items, kids := n.Items[:cap(n.Items)], n.Kids[:cap(n.Kids)]
	for i := range items {
		items[i] = api.Item{Key: "scribbled", Value: "over"}
	}
	for i := range kids {
		kids[i] = api.Kid{Key: "scribbled", Place: 99}
	}
}

func TestWhatIsAnsweredIsNewMemory(t *testing.T) {
	for what, was := range all() {
		n, items, kids := roomy(was)
		want := plainSplit(was)
		first, second := node.Split(n), node.Split(n)
		for i := range first {
			scribble(first[i])
			if !slices.EqualFunc(first[i+1:], want[i+1:], same) {
				t.Errorf("P6.4: %s: part %d shares memory with one behind it", what, i)
			}
			first[i] = api.Node{}
		}
		unchanged(t, what+", its parts written over", n, was, items, kids)
		if !slices.EqualFunc(second, want, same) {
			t.Errorf("P6.4: %s: two answers of Split share memory", what)
		}
		for i := len(second) - 1; i > 0; i-- {
			scribble(second[i])
			if !slices.EqualFunc(second[:i], want[:i], same) {
				t.Errorf("P6.4: %s: part %d shares memory with one ahead of it", what, i)
			}
		}
	}
}

func TestWhatIsJoinedIsNewMemory(t *testing.T) {
	for what, was := range right() {
		count := len(plainKeys(was))
		for _, cut := range []int{0, 1, count / 2, count} {
			a, b := plainPart(was, 0, cut), plainPart(was, cut, count)
			n, items, kids := roomy(a)
			m, mItems, mKids := roomy(b)
			first, ok := node.Join(n, m)
			second, _ := node.Join(n, m)
			if !ok {
				t.Errorf("P6.1: %s, cut at %d: not joined", what, cut)
			}
			scribble(first)
			unchanged(t, what+", what was joined written over", n, a, items, kids)
			unchanged(t, what+", what was joined written over", m, b, mItems, mKids)
			scribble(n)
			scribble(m)
			if !same(second, was) {
				t.Errorf("P6.4: %s: what was joined shares memory", what)
			}
		}
	}
}

func TestWhatIsDecodedIsNewMemory(t *testing.T) {
	for what, n := range right() {
		s := plainBytes(n)
		first, _ := node.Decode(s)
		second, _ := node.Decode(s)
		scribble(first)
		if !same(second, n) {
			t.Errorf("P6.4: %s: two answers of Decode share memory", what)
		}
	}
}

// within tells whether a text stands in the memory of another one.
func within(x, s string) bool {
	begin, at := uintptr(unsafe.Pointer(unsafe.StringData(s))), uintptr(unsafe.Pointer(unsafe.StringData(x)))
	return x != "" && at >= begin && at < begin+uintptr(len(s))
}

// texts is all texts of a node.
func texts(n api.Node) []string {
	var list []string
	for _, one := range n.Items {
		list = append(list, one.Key, one.Value)
	}
	for _, one := range n.Kids {
		list = append(list, one.Key)
	}
	return list
}

func TestTextsAreNewMemory(t *testing.T) {
	for what, n := range right() {
		s := strings.Clone(plainBytes(n))
		decoded, _ := node.Decode(s)
		for _, x := range texts(decoded) {
			if within(x, s) {
				t.Errorf("P0.3: %s: a text that was decoded shares memory with the bytes", what)
			}
		}
		whole, _ := node.Join(decoded, api.Node{Leaf: n.Leaf})
		for _, made := range append(node.Split(decoded), whole) {
			for i, x := range texts(made) {
				if within(x, texts(decoded)[i]) {
					t.Errorf("P0.3: %s: a text of the answer shares memory with what was handed in", what)
				}
			}
		}
	}
}

func TestTheSameIsAnsweredAgain(t *testing.T) {
	nodes := all()
	var group sync.WaitGroup
	for range 4 {
		group.Go(func() {
			for what, n := range nodes {
				s, e := node.Encode(n)
				again, e2 := node.Encode(n)
				if s != again || e != e2 || e != plainCheck(n) || node.Size(n) != plainSize(n) {
					t.Errorf("P0.5: %s: the same isn't answered again", what)
				}
				if !slices.EqualFunc(node.Split(n), node.Split(n), same) {
					t.Errorf("P0.5: %s: Split doesn't answer the same again", what)
				}
			}
		})
	}
	group.Wait()
}
