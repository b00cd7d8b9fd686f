package tree

import (
	"slices"

	"coppice/api"
)

// draft is a node that is planned, however many bytes it has.
type draft struct {
	leaf bool
	list []entry
}

// entry is an item of a leaf, or a kid of another node: one that stands in the heap, or one that is planned, too.
type entry struct {
	key   string
	value string
	place int   // where the kid stands; 0: it is planned
	node  draft // what is planned
	nodes int   // how many are planned: the kid, and those below it
}

// draftOf is a node that stands in the heap.
func draftOf(n api.Node) draft {
	d := draft{leaf: n.Leaf}
	for _, item := range n.Items {
		d.list = append(d.list, entry{key: item.Key, value: item.Value})
	}
	for _, kid := range n.Kids {
		d.list = append(d.list, entry{key: kid.Key, place: kid.Place})
	}
	return d
}

// leafOf is a leaf.
func leafOf(items []api.Item) draft { return draftOf(api.Node{Leaf: true, Items: items}) }

// planned is a draft as a kid that is found by a key.
func planned(key string, d draft) entry {
	return entry{key: key, node: d, nodes: 1 + nodesOf(d.list)}
}

// nodesOf is how many nodes are to be put for some entries.
func nodesOf(list []entry) int {
	nodes := 0
	for _, e := range list {
		nodes += e.nodes
	}
	return nodes
}

// replaced is kids of which some were replaced; the first one that comes is found by the key of the first one that goes.
func replaced(list []entry, from, to int, by []entry) []entry {
	whole := slices.Concat(list[:from], by, list[to:])
	if len(by) > 0 {
		whole[from].key = list[from].key
	}
	return whole
}

// isLonely tells whether it has one kid only.
func (d draft) isLonely() bool { return !d.leaf && len(d.list) == 1 }

// part is a draft with some of the entries.
func (d draft) part(from, to int) draft { return draft{d.leaf, d.list[from:to]} }

// shape is the node that comes of it. Its first kid's key is empty: whatever is below the node may be below that kid.
func (d draft) shape() api.Node {
	n := api.Node{Leaf: d.leaf}
	for i, e := range d.list {
		switch {
		case d.leaf:
			n.Items = append(n.Items, api.Item{Key: e.key, Value: e.value})
		case i == 0:
			n.Kids = append(n.Kids, api.Kid{Place: e.place})
		default:
			n.Kids = append(n.Kids, api.Kid{Key: e.key, Place: e.place})
		}
	}
	return n
}

// size is how many bytes that node has.
func (d draft) size() int {
	size := 1 + shortSize(len(d.list))
	for i := range d.list {
		size += d.sizeAt(i)
	}
	if !d.leaf && len(d.list) > 0 {
		size -= len(d.list[0].key) + shortSize(len(d.list[0].key)) - 1
	}
	return size
}

// sizeAt is how many bytes one of the entries has. What isn't put yet is taken to come to the place with the most bytes.
func (d draft) sizeAt(i int) int {
	e := d.list[i]
	size := shortSize(len(e.key)) + len(e.key)
	switch {
	case d.leaf:
		return size + shortSize(len(e.value)) + len(e.value)
	case e.place == 0:
		return size + shortSize(api.MaxSectors-1)
	}
	return size + shortSize(e.place)
}

// shortSize is how many bytes a short number has that is a length, a place or a count.
func shortSize(n int) int {
	if n < 128 {
		return 1
	}
	return 2
}

// isBig tells whether it has too many bytes for a block.
func (d draft) isBig() bool { return d.size() > api.MaxPayload }
