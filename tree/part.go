package tree

import (
	"iter"
	"sort"

	"coppice/api"
	"coppice/node"
)

// parts hands out a node in parts that fit into a block, each with the key by which it is found: the first one's is given. A node that has grown at its end is taken to grow on there: its first part is left full.
func parts(n api.Node, key string, end bool) iter.Seq2[api.Node, string] {
	return func(yield func(api.Node, string) bool) {
		handOut(n, key, end, yield)
	}
}

// handOut tells whether more is wanted.
func handOut(n api.Node, key string, end bool, yield func(api.Node, string) bool) bool {
	if node.Check(n) != api.ErrBig {
		return yield(n, key)
	}
	at := middle(n)
	if end {
		at = fullest(n)
	}
	left, right := part(n, 0, at), part(n, at, count(n))
	return handOut(left, key, false, yield) && handOut(right, border(left, right), end, yield)
}

// count is how many entries a node has.
func count(n api.Node) int { return len(n.Items) + len(n.Kids) }

// part is a node with some of the entries of one.
func part(n api.Node, from, to int) api.Node {
	if n.Leaf {
		return api.Node{Leaf: true, Items: n.Items[from:to]}
	}
	return api.Node{Kids: n.Kids[from:to]}
}

// middle is how many entries the first part of a node has where both parts have bytes as equal as may be. Of kids that are too many for one block each part has two or more then, as no kid has more than a third of a block.
func middle(n api.Node) int {
	all := count(n)
	greater := func(at int) int {
		return max(node.Size(part(n, 0, at)), node.Size(part(n, at, all)))
	}
	return 1 + sort.Search(all-2, func(i int) bool { return greater(i+1) <= greater(i+2) })
}

// fullest is how many entries the first part of a node has where it is as full as may be; but two kids are left for the second part.
func fullest(n api.Node) int {
	at := count(node.Split(n)[0])
	if n.Leaf {
		return at
	}
	return min(at, count(n)-2)
}

// border is a key that is above all of one node, and above none of the next one; of leaves the shortest such one that the next one's first key begins with.
func border(left, right api.Node) string {
	if !left.Leaf {
		return right.Kids[0].Key
	}
	below, above := left.Items[len(left.Items)-1].Key, right.Items[0].Key
	for size := range len(above) {
		if above[:size] > below {
			return above[:size]
		}
	}
	return above
}
