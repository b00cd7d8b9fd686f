package tree

import "sort"

// parts is a draft in parts that fit into a block, the first one found by this key: parts with bytes as equal as may be, or, full ones first, as few as may be.
func parts(d draft, key string, full bool) []entry {
	if !d.isBig() {
		return []entry{planned(key, d)}
	}
	cut := middle
	if full {
		cut = fullest
	}
	at := cut(d)
	left, right := d.part(0, at), d.part(at, len(d.list))
	return append(parts(left, key, false), parts(right, border(left, right), full)...)
}

// middle is how many entries the first part has where both parts have bytes as equal as may be. Of kids that are too many for one block each part has two or more then, as no kid has more than a third of a block.
func middle(d draft) int {
	all := len(d.list)
	greater := func(at int) int {
		return max(d.part(0, at).size(), d.part(at, all).size())
	}
	return 1 + sort.Search(all-2, func(i int) bool { return greater(i+1) <= greater(i+2) })
}

// fullest is how many entries the first part has where it is as full as may be; but two kids are left for the second part.
func fullest(d draft) int {
	at := sort.Search(len(d.list), func(i int) bool { return d.part(0, i+1).isBig() })
	if d.leaf {
		return at
	}
	return min(at, len(d.list)-2)
}

// border is a key that is above all of one draft, and above none of the next one; of leaves the shortest such one that the next one's first key begins with.
func border(left, right draft) string {
	above := right.list[0].key
	if !left.leaf {
		return above
	}
	below := left.list[len(left.list)-1].key
	for size := range len(above) {
		if above[:size] > below {
			return above[:size]
		}
	}
	return above
}
