package node_test

import (
	"slices"
	"strings"
	"testing"

	"coppice/api"
	"coppice/node"
)

// anyKey is one of few keys, or one of many.
func anyKey(next func(int) int) string {
	switch next(8) {
	case 0:
		return "\x00a\xffz"[:next(5)]
	case 1:
		return strings.Repeat("k", next(280))
	default:
		return digits(next(1000), 1+next(4))
	}
}

// anyNode is a node of few entries or many, which is mostly right.
func anyNode(next func(int) int) api.Node {
	n := api.Node{Leaf: next(2) == 0}
	count, width := next(1+[]int{3, 12, 200}[next(3)]), []int{3, 20, 260}[next(3)]
	for i := range count {
		key := long(digits(i, 3), 3+next(width-2))
		if n.Leaf {
			n.Items = append(n.Items, api.Item{Key: key, Value: strings.Repeat("v", next(1+[]int{1, 20, 160}[next(3)]))})
		} else {
			n.Kids = append(n.Kids, api.Kid{Key: key, Place: 2 + next(4094)})
		}
	}
	if next(4) == 0 {
		spoil(&n, next)
	}
	return n
}

// spoil changes something in a node, by which it mostly isn't right any more.
func spoil(n *api.Node, next func(int) int) {
	switch {
	case next(8) == 0:
		n.Leaf = !n.Leaf
	case next(8) == 0:
		n.Items = append(n.Items, api.Item{Key: anyKey(next)})
	case next(8) == 0:
		n.Kids = append(n.Kids, api.Kid{Key: anyKey(next), Place: 2})
	case len(n.Items) > 0:
		one := &n.Items[next(len(n.Items))]
		if next(2) == 0 {
			one.Key = anyKey(next)
		} else {
			one.Value = strings.Repeat("v", 158+next(5))
		}
	case len(n.Kids) > 0:
		one := &n.Kids[next(len(n.Kids))]
		if next(2) == 0 {
			one.Key = anyKey(next)
		} else {
			one.Place = []int{-1, 0, 1, 2, 3, 127, 128, 4094, 4095, 4096}[next(10)]
		}
	}
}

func TestNodesOfAllKinds(t *testing.T) {
	next := numbers(3)
	for range 6000 {
		n := anyNode(next)
		holds(t, "a node of any kind", n)
		found(t, n, anyKey(next))
		if t.Failed() {
			t.Fatalf("the node is %v", n)
		}
	}
}

// found asks for Find, against the chapter's words.
func found(t *testing.T, n api.Node, key string) {
	t.Helper()
	want, wantOK := plainFind(n, key)
	if i, ok := node.Find(n, key); i != want || ok != wantOK {
		t.Errorf("P6.1: Find(%q) of %v: %d, %v, want %d, %v", key, n, i, ok, want, wantOK)
	}
}

// kidsLike is a node with kids of the keys of a leaf.
func kidsLike(n api.Node) api.Node {
	var m api.Node
	for _, one := range n.Items {
		m.Kids = append(m.Kids, api.Kid{Key: one.Key, Place: 9})
	}
	return m
}

func TestFind(t *testing.T) {
	rising := leaf("b", "1", "bb", "2", "d", "3", "\xff", "4")
	falling := leaf("c", "", "b", "", "a", "", "d", "")
	tests := []struct {
		n     api.Node
		key   string
		want  int
		found bool
	}{
		{rising, "", 0, false},
		{rising, "\x00", 0, false},
		{rising, "a", 0, false},
		{rising, "ab", 0, false},
		{rising, "b", 0, true},
		{rising, "b\x00", 1, false},
		{rising, "bb", 1, true},
		{rising, "bba", 2, false},
		{rising, "c", 2, false},
		{rising, "d", 2, true},
		{rising, "e", 3, false},
		{rising, "\xfe\xff", 3, false},
		{rising, "\xff", 3, true},
		{rising, "\xff\x00", 4, false},
		{falling, "a", 0, false},
		{falling, "b", 0, false},
		{falling, "c", 0, true},
		{falling, "cc", 3, false},
		{falling, "d", 3, true},
		{falling, "e", 4, false},
		{leaf("a", "", "a", "", "b", ""), "a", 0, true},
		{leaf("a", "", "a", "", "b", ""), "aa", 2, false},
		{leaf("", "", "b", ""), "", 0, true},
		{leaf("", "", "b", ""), "b", 1, true},
		{leaf("b", "", "", ""), "", 0, false},
		{leaf(), "", 0, false},
		{leaf(), "a", 0, false},
	}
	for _, one := range tests {
		for _, n := range []api.Node{one.n, kidsLike(one.n)} {
			if i, ok := node.Find(n, one.key); i != one.want || ok != one.found {
				t.Errorf("P6.1: Find(%q), leaf %v: %d, %v, want %d, %v", one.key, n.Leaf, i, ok, one.want, one.found)
			}
			found(t, n, one.key)
		}
	}
}

func TestFindLooksAtTheEntriesOfTheKind(t *testing.T) {
	both := leaf("b", "", "d", "")
	both.Kids = []api.Kid{{Key: "a", Place: 5}, {Key: "c", Place: 6}, {Key: "e", Place: 7}}
	for _, isLeaf := range []bool{true, false} {
		both.Leaf = isLeaf
		for _, key := range []string{"", "a", "b", "c", "d", "e", "f"} {
			found(t, both, key)
		}
	}
	if i, ok := node.Find(api.Node{Leaf: true, Kids: both.Kids}, "c"); i != 0 || ok {
		t.Error("P6.1: Find in a leaf that has kids alone:", i, ok)
	}
	if i, ok := node.Find(api.Node{Items: both.Items}, "d"); i != 0 || ok {
		t.Error("P6.1: Find in a node that has items alone:", i, ok)
	}
}

func TestFindInAnyKeys(t *testing.T) {
	next := numbers(23)
	for range 20000 {
		var n api.Node
		for range next(6) {
			n.Items = append(n.Items, api.Item{Key: "\x00aab\xff"[next(3):][:next(3)]})
		}
		n.Leaf = true
		key := "\x00aab\xff"[next(3):][:next(3)]
		found(t, n, key)
		found(t, kidsLike(n), key)
	}
}

// counts is how many entries each part has.
func counts(parts []api.Node) []int {
	var list []int
	for _, part := range parts {
		list = append(list, len(part.Items)+len(part.Kids))
	}
	return list
}

func TestSplit(t *testing.T) {
	var greatest, keys api.Node
	greatest.Leaf = true
	for i := range 7 {
		greatest.Items = append(greatest.Items, api.Item{Key: long(digits(i, 1), 272), Value: long("v", 160)})
		keys.Kids = append(keys.Kids, api.Kid{Key: long(digits(i, 1), 272), Place: 4095})
	}
	full, fullKids := api.Node{Leaf: true}, api.Node{}
	for i, size := range []int{1007, 1007, 20} {
		letter := "abc"[i : i+1]
		full.Items = append(full.Items, sized(true, letter, size).Items...)
		fullKids.Kids = append(fullKids.Kids, sized(false, letter, size).Kids...)
	}
	tests := []struct {
		what string
		n    api.Node
		want []int
	}{
		{"items of the greatest size", greatest, []int{2, 2, 2, 1}}, // 436 bytes each
		{"kids of the greatest size", keys, []int{3, 3, 1}},         // 276 bytes each
		{"items that fill two parts just so", full, []int{10, 10, 1}},
		{"kids that fill two parts just so", fullKids, []int{10, 10, 1}},
		{"143 items of 7 bytes", many(true, 143), []int{143}}, // 3 bytes and 1001 of 1007
		{"144 items of 7 bytes", many(true, 144), []int{143, 1}},
		{"1000 items of 7 bytes", many(true, 1000), []int{143, 143, 143, 143, 143, 143, 142}},
		{"300 kids", many(false, 300), []int{141, 125, 34}}, // 126 of 7 bytes, then of 8
	}
	for _, one := range tests {
		parts := node.Split(one.n)
		if got := counts(parts); !slices.Equal(got, one.want) {
			t.Errorf("P6.1: %s: parts of %v entries, want %v", one.what, got, one.want)
		}
		parted(t, one.what, one.n)
	}
}

// withCount is a leaf of so many items that have so many bytes without what stands ahead of them.
func withCount(count, bytes int) api.Node {
	n := api.Node{Leaf: true}
	for i, left := 0, bytes-count*5; i < count; i++ {
		take := min(left, 120)
		left -= take
		n.Items = append(n.Items, api.Item{Key: digits(i, 3), Value: strings.Repeat("v", take)})
	}
	return n
}

func TestTheCountsBytesCount(t *testing.T) {
	for bytes := 1000; bytes <= 1010; bytes++ {
		for _, count := range []int{126, 127, 128, 129} {
			n := withCount(count, bytes)
			ahead := 2
			if count >= 128 {
				ahead = 3
			}
			if size := node.Size(n); size != ahead+bytes {
				t.Errorf("P6.1: %d items of %d bytes: size %d, want %d", count, bytes, size, ahead+bytes)
			}
			want := []int{count}
			if ahead+bytes > 1007 {
				want = nil
			}
			if got := counts(node.Split(n)); want != nil && !slices.Equal(got, want) || want == nil && len(got) != 2 {
				t.Errorf("P6.3: %d items of %d bytes: parts of %v", count, bytes, got)
			}
			holds(t, "many items", n)
		}
	}
}

// joined asks for Join, against the chapter's words.
func joined(t *testing.T, what string, a, b api.Node) {
	t.Helper()
	want, wantOK := plainJoin(a, b)
	n, ok := node.Join(a, b)
	if ok != wantOK || !same(n, want) {
		t.Errorf("P6.1: %s: Join: %v, %v, want %v, %v", what, n, ok, want, wantOK)
	}
}

// apart asks whether Join answers the zero node and false.
func apart(t *testing.T, what string, a, b api.Node) {
	t.Helper()
	if n, ok := node.Join(a, b); ok || !isZero(n) {
		t.Errorf("P6.1: %s: Join: %v, %v, want the zero node and false", what, n, ok)
	}
	joined(t, what, a, b)
}

// together asks whether Join answers a node.
func together(t *testing.T, what string, a, b, want api.Node) {
	t.Helper()
	if n, ok := node.Join(a, b); !ok || !same(n, want) {
		t.Errorf("P6.1: %s: Join: %v, %v, want %v", what, n, ok, want)
	}
	joined(t, what, a, b)
}

func TestJoin(t *testing.T) {
	five, six := api.Kid{Key: "a", Place: 5}, api.Kid{Key: "b", Place: 6}
	together(t, "two leaves", leaf("a", "1"), leaf("b", "2", "c", ""), leaf("a", "1", "b", "2", "c", ""))
	together(t, "two nodes with kids", kids(five), kids(six), kids(five, six))
	together(t, "a kid with an empty key", kids(api.Kid{Place: 9}), kids(five, six), kids(api.Kid{Place: 9}, five, six))
	apart(t, "a leaf and another one", leaf("a", "1"), kids(six))
	apart(t, "a node and a leaf", kids(five), leaf("b", "2"))
	apart(t, "an empty leaf and another one", leaf(), kids(five))
	apart(t, "a leaf and the zero node", leaf("a", "1"), api.Node{})
	apart(t, "equal keys", leaf("a", "1"), leaf("a", "1"))
	apart(t, "keys that fall", leaf("b", "1"), leaf("a", "1"))
	apart(t, "keys that fall across", leaf("a", "", "c", ""), leaf("b", "", "d", ""))
	apart(t, "equal keys of kids", kids(five), kids(five))
	apart(t, "keys of kids that fall", kids(six), kids(five))
	apart(t, "an empty key behind", kids(five), kids(api.Kid{Place: 9}))
	apart(t, "a leaf with an empty key", leaf("", ""), leaf("a", ""))
	apart(t, "nothing at all", leaf(), leaf())
	apart(t, "nothing at all", kids(), kids())
	apart(t, "keys that fall ahead", leaf("b", "", "a", ""), leaf("c", ""))
	apart(t, "keys that fall behind", leaf("a", ""), leaf("c", "", "b", ""))
	apart(t, "a long key", leaf("a", ""), leaf(long("b", 273), ""))
	apart(t, "a long value", leaf("a", long("v", 161)), leaf("b", ""))
	apart(t, "a place out of its bounds", kids(five), kids(api.Kid{Key: "b", Place: 4096}))
	apart(t, "a place out of its bounds", kids(api.Kid{Key: "a", Place: 1}), kids(six))
}

func TestJoinAroundTheMost(t *testing.T) {
	for _, isLeaf := range []bool{true, false} {
		for size := 480; size <= 530; size++ {
			a, b := sized(isLeaf, "a", 502), sized(isLeaf, "b", size)
			whole := 502 + size - 2
			if _, ok := node.Join(a, b); ok != (whole <= 1007) {
				t.Errorf("P6.1: Join of %d bytes: %v", whole, ok)
			}
			joined(t, "around the most", a, b)
		}
		apart(t, "two great ones", sized(isLeaf, "a", 1007), sized(isLeaf, "b", 1007))
		apart(t, "one that is too big", sized(isLeaf, "a", 1008), sized(isLeaf, "b", 60))
	}
	many := many(true, 143)
	together(t, "128 items and more", plainPart(many, 0, 100), plainPart(many, 100, 143), many)
}

func TestJoinOfAnEmptyNodeIsTheOther(t *testing.T) {
	for what, n := range right() {
		together(t, what, n, api.Node{Leaf: n.Leaf}, n)
		together(t, what, api.Node{Leaf: n.Leaf}, n, n)
	}
	for what, n := range wrong() {
		joined(t, what, n, api.Node{Leaf: n.Leaf})
		joined(t, what, n, n)
	}
}

func TestJoinTakesTheEntriesOfTheKind(t *testing.T) {
	a, b := leaf("a", "1"), leaf("b", "2")
	a.Kids = []api.Kid{{Key: "z", Place: 5}}
	together(t, "a leaf's items", a, b, leaf("a", "1", "b", "2"))
	c, d := kids(api.Kid{Key: "a", Place: 5}), kids(api.Kid{Key: "b", Place: 6})
	d.Items = []api.Item{{Key: "z"}}
	together(t, "a node's kids", c, d, kids(api.Kid{Key: "a", Place: 5}, api.Kid{Key: "b", Place: 6}))
}

func TestWhatIsSplitIsJoinedAgain(t *testing.T) {
	next := numbers(31)
	for range 3000 {
		n := anyNode(next)
		all := len(plainKeys(n))
		cut := next(all + 1)
		a, b := plainPart(n, 0, cut), plainPart(n, cut, all)
		joined(t, "a node cut in two", a, b)
		joined(t, "the same the other way", b, a)
		joined(t, "any two nodes", n, anyNode(next))
		if cut > 0 && cut < all && plainCheck(n) == api.OK {
			together(t, "a node that fits, cut in two", a, b, n)
		}
		parts := node.Split(n)
		for i := 1; i < len(parts); i++ {
			apart(t, "parts beside each other", parts[i-1], parts[i])
			apart(t, "a part and the next one's first entry", parts[i-1], plainPart(parts[i], 0, 1))
		}
	}
}
