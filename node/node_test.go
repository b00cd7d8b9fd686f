package node_test

import (
	"math"
	"slices"
	"strconv"
	"strings"
	"testing"

	"coppice/api"
	"coppice/node"
)

// The calls as the chapter lists them.
var (
	_ func(n api.Node) api.Errno               = node.Check
	_ func(n api.Node) int                     = node.Size
	_ func(n api.Node) (string, api.Errno)     = node.Encode
	_ func(s string) (api.Node, api.Errno)     = node.Decode
	_ func(n api.Node, key string) (int, bool) = node.Find
	_ func(n api.Node) []api.Node              = node.Split
	_ func(a, b api.Node) (api.Node, bool)     = node.Join
)

// numbers answers ever the same row of numbers, so that a test that fails fails again.
func numbers(seed uint64) func(below int) int {
	return func(below int) int {
		seed ^= seed << 13
		seed ^= seed >> 7
		seed ^= seed << 17
		return int(seed >> 20 % uint64(below))
	}
}

// long is a text of n bytes that begins with some.
func long(begin string, n int) string {
	return begin + strings.Repeat("x", n-len(begin))
}

// leaf is a leaf of keys and values by turns.
func leaf(texts ...string) api.Node {
	n := api.Node{Leaf: true}
	for i := 0; i < len(texts); i += 2 {
		n.Items = append(n.Items, api.Item{Key: texts[i], Value: texts[i+1]})
	}
	return n
}

// kids is a node of kids.
func kids(list ...api.Kid) api.Node {
	return api.Node{Kids: list}
}

// digits is a number in so many digits: so they rise as the numbers do.
func digits(i, width int) string {
	s := strconv.Itoa(i)
	return strings.Repeat("0", max(0, width-len(s))) + s
}

// sized is a right node of just so many bytes (7 at least), all of whose keys begin with a letter.
func sized(isLeaf bool, letter string, size int) api.Node {
	n := api.Node{Leaf: isLeaf}
	for i, left := 0, size-2; left > 0; i++ {
		take := left
		if left > 129 {
			take = 100
		}
		left -= take
		key := letter + digits(i, 2)
		if isLeaf {
			n.Items = append(n.Items, api.Item{Key: key, Value: strings.Repeat("v", take-5)})
		} else {
			n.Kids = append(n.Kids, api.Kid{Key: long(key, take-2), Place: 2 + i})
		}
	}
	return n
}

// many is a right node of so many small entries.
func many(isLeaf bool, count int) api.Node {
	n := api.Node{Leaf: isLeaf}
	for i := range count {
		if isLeaf {
			n.Items = append(n.Items, api.Item{Key: digits(i, 5)})
		} else {
			n.Kids = append(n.Kids, api.Kid{Key: digits(i, 5), Place: 2 + i%4094})
		}
	}
	return n
}

// wrong is nodes that aren't right, each in one way.
func wrong() map[string]api.Node {
	stray := leaf("a", "b")
	stray.Kids = []api.Kid{{Key: "c", Place: 5}}
	other := kids(api.Kid{Key: "a", Place: 5})
	other.Items = []api.Item{{Key: "b"}}
	all := map[string]api.Node{
		"the zero node":            {},
		"a leaf without items":     {Leaf: true},
		"a leaf of an empty list":  {Leaf: true, Items: []api.Item{}, Kids: []api.Kid{}},
		"a node of an empty list":  {Items: []api.Item{}, Kids: []api.Kid{}},
		"a leaf with kids alone":   {Leaf: true, Kids: []api.Kid{{Key: "a", Place: 5}}},
		"a leaf with kids too":     stray,
		"no leaf, with items":      {Items: []api.Item{{Key: "a"}}},
		"no leaf, with items too":  other,
		"an empty key in a leaf":   leaf("", "v"),
		"an empty key, then one":   leaf("", "v", "a", "w"),
		"an empty key behind":      leaf("a", "v", "", "w"),
		"a long key in a leaf":     leaf(long("k", 273), ""),
		"a long key behind":        leaf("a", "", long("k", 273), ""),
		"a very long key":          leaf(long("k", 70000), ""),
		"a long value":             leaf("a", long("v", 161)),
		"a long value behind":      leaf("a", "", "b", long("v", 161), "c", ""),
		"a very long value":        leaf("a", long("v", 70000)),
		"equal keys in a leaf":     leaf("a", "1", "a", "2"),
		"equal keys behind":        leaf("a", "", "b", "", "b", ""),
		"falling keys":             leaf("b", "", "a", ""),
		"keys that fall behind":    leaf("a", "", "c", "", "b", ""),
		"a beginning behind":       leaf("ab", "", "a", ""),
		"high bytes ahead":         leaf("\xff", "", "a", ""),
		"a long key of a kid":      kids(api.Kid{Key: long("k", 273), Place: 5}),
		"a long key of a kid more": kids(api.Kid{Key: "a", Place: 5}, api.Kid{Key: long("k", 273), Place: 6}),
		"equal keys of kids":       kids(api.Kid{Key: "a", Place: 5}, api.Kid{Key: "a", Place: 6}),
		"empty keys of kids":       kids(api.Kid{Place: 5}, api.Kid{Place: 6}),
		"falling keys of kids":     kids(api.Kid{Key: "b", Place: 5}, api.Kid{Key: "a", Place: 6}),
		"an empty key fallen to":   kids(api.Kid{Key: "b", Place: 5}, api.Kid{Place: 6}),
	}
	for _, place := range []int{1, 0, -1, -2, -5, 4096, 4097, 1 << 32, 1<<32 + 5, math.MaxInt, math.MinInt, math.MinInt + 5} {
		all["the place "+strconv.Itoa(place)] = kids(api.Kid{Key: "a", Place: place})
		all["behind, the place "+strconv.Itoa(place)] = kids(api.Kid{Key: "a", Place: 5}, api.Kid{Key: "b", Place: place})
	}
	return all
}

// right is nodes that are right and fit, with those at the edges.
func right() map[string]api.Node {
	last := string([]byte{0xff})
	return map[string]api.Node{
		"the chapter's leaf":          leaf("a", "b"),
		"the chapter's kid":           kids(api.Kid{Key: "a", Place: 5}),
		"an empty value":              leaf("a", ""),
		"a key of a zero byte":        leaf("\x00", "\x00"),
		"keys of all kinds":           leaf("\x00", "", "\x00\x00", "", "A", "", "a", "", "a\x00", "", "aa", "", "b", "", "\x7f", "", "\x80", "", last, "", last+"\x00", ""),
		"a key of 272 bytes":          leaf(long("k", 272), ""),
		"a value of 160 bytes":        leaf("a", long("v", 160)),
		"the greatest item":           leaf(long("k", 272), long("v", 160)),
		"keys and values of 127, 128": leaf(long("k", 127), long("v", 127), long("l", 128), long("w", 128)),
		"an empty list beside":        {Leaf: true, Items: []api.Item{{Key: "a"}}, Kids: []api.Kid{}},
		"an empty list ahead":         {Items: []api.Item{}, Kids: []api.Kid{{Key: "a", Place: 9}}},
		"an empty key of a kid":       kids(api.Kid{Place: 2}),
		"an empty key, then others":   kids(api.Kid{Place: 4095}, api.Kid{Key: "\x00", Place: 2}, api.Kid{Key: "\xff", Place: 2}),
		"the places 127, 128":         kids(api.Kid{Key: "a", Place: 127}, api.Kid{Key: "b", Place: 128}),
		"a kid's key of 272 bytes":    kids(api.Kid{Key: long("k", 272), Place: 4095}),
		"one place of two kids":       kids(api.Kid{Key: "a", Place: 5}, api.Kid{Key: "b", Place: 5}),
		"127 items":                   many(true, 127),
		"128 items":                   many(true, 128),
		"127 kids":                    many(false, 127),
		"141 kids, all that fit":      many(false, 141),
		"a leaf of 1007 bytes":        sized(true, "k", 1007),
		"a leaf of 1006 bytes":        sized(true, "k", 1006),
		"kids of 1007 bytes":          sized(false, "k", 1007),
		"kids of 1006 bytes":          sized(false, "k", 1006),
	}
}

// tooBig is nodes that are right, but have more bytes than a block.
func tooBig() map[string]api.Node {
	return map[string]api.Node{
		"a leaf of 1008 bytes": sized(true, "k", 1008),
		"a leaf of 5000 bytes": sized(true, "k", 5000),
		"kids of 1008 bytes":   sized(false, "k", 1008),
		"kids of 3333 bytes":   sized(false, "k", 3333),
		"144 items":            many(true, 144),
		"150 kids":             many(false, 150),
		"16383 items":          many(true, 16383),
		"16384 items":          many(true, 16384),
		"16383 kids":           many(false, 16383),
		"16384 kids":           many(false, 16384),
		"items up to the most": leaf(long("a", 272), long("v", 160), long("b", 272), long("v", 160), long("c", 272), long("v", 160)),
	}
}

// same tells whether two nodes are the same (a nil list is as an empty one).
func same(a, b api.Node) bool {
	return a.Leaf == b.Leaf && slices.Equal(a.Items, b.Items) && slices.Equal(a.Kids, b.Kids)
}

// isZero tells whether it is the zero node.
func isZero(n api.Node) bool {
	return same(n, api.Node{})
}

// holds asks all that the calls of one node answer, against the chapter's words.
func holds(t *testing.T, what string, n api.Node) {
	t.Helper()
	want := plainCheck(n)
	if e := node.Check(n); e != want {
		t.Errorf("P6.1: %s: Check: error %d, want %d", what, e, want)
	}
	if size := node.Size(n); size != plainSize(n) {
		t.Errorf("P6.1: %s: Size: %d, want %d", what, size, plainSize(n))
	}
	s, e := node.Encode(n)
	if want == api.OK {
		if e != api.OK || s != plainBytes(n) {
			t.Errorf("P6.1: %s: Encode: %q, error %d, want %q", what, s, e, plainBytes(n))
		}
		back(t, what, n, s)
	} else if s != "" || e != want {
		t.Errorf("P6.1: %s: Encode: %q, error %d, want error %d alone", what, s, e, want)
	}
	parted(t, what, n)
}

// back asks whether bytes are decoded as a node, which has just these bytes.
func back(t *testing.T, what string, n api.Node, s string) {
	t.Helper()
	m, e := node.Decode(s)
	if e != api.OK || !same(m, n) {
		t.Errorf("P6.2: %s: Decode(%q): %v, error %d", what, s, m, e)
		return
	}
	if again, e := node.Encode(m); e != api.OK || again != s {
		t.Errorf("P6.2: %s: what is decoded has the bytes %q, not %q (error %d)", what, again, s, e)
	}
}

// parted asks for Split of a node, and for what P6.3 says of it.
func parted(t *testing.T, what string, n api.Node) {
	t.Helper()
	parts, want := node.Split(n), plainSplit(n)
	if !slices.EqualFunc(parts, want, same) {
		t.Errorf("P6.1: %s: Split: %d parts, want %d, or others", what, len(parts), len(want))
	}
	if !plainRight(n) {
		return
	}
	all := api.Node{Leaf: n.Leaf}
	for i, part := range parts {
		if e := plainCheck(part); e != api.OK {
			t.Errorf("P6.3: %s: part %d: error %d", what, i, e)
		}
		all.Items = append(all.Items, part.Items...)
		all.Kids = append(all.Kids, part.Kids...)
	}
	if !same(all, n) {
		t.Errorf("P6.3: %s: the parts have other entries", what)
	}
	if fits := plainCheck(n) == api.OK; fits != (len(parts) == 1) {
		t.Errorf("P6.3: %s: %d parts, and that it fits is %v", what, len(parts), fits)
	}
}

// refused asks whether Decode finds no node in bytes.
func refused(t *testing.T, what, s string) {
	t.Helper()
	if n, e := node.Decode(s); e != api.ErrNode || !isZero(n) {
		t.Errorf("P6.1: %s: Decode(%q): %v, error %d, want ErrNode and the zero node", what, s, n, e)
	}
}

func TestExamples(t *testing.T) {
	for s, n := range map[string]api.Node{
		"\x01\x01\x01\x61\x01\x62": leaf("a", "b"),
		"\x02\x01\x01\x61\x05":     kids(api.Kid{Key: "a", Place: 5}),
	} {
		if got, e := node.Encode(n); e != api.OK || got != s || node.Size(n) != len(s) {
			t.Errorf("P6.1: the example %q: %q, error %d, size %d", s, got, e, node.Size(n))
		}
		if e := node.Check(n); e != api.OK {
			t.Errorf("P6.1: the example %q: error %d", s, e)
		}
		back(t, "the example", n, s)
	}
	if e := node.Check(api.Node{Leaf: true}); e != api.ErrNode {
		t.Errorf("P6.1: a leaf without items: error %d", e)
	}
}

func TestNodesThatFit(t *testing.T) {
	for what, n := range right() {
		if e := node.Check(n); e != api.OK {
			t.Errorf("P6.1: %s: Check: error %d", what, e)
		}
		if parts := node.Split(n); len(parts) != 1 || !same(parts[0], n) {
			t.Errorf("P6.3: %s: Split: %d parts", what, len(parts))
		}
		holds(t, what, n)
	}
}

func TestNodesThatAreNotRight(t *testing.T) {
	for what, n := range wrong() {
		if e := node.Check(n); e != api.ErrNode {
			t.Errorf("P6.1: %s: Check: error %d", what, e)
		}
		if size := node.Size(n); size != 0 {
			t.Errorf("P6.1: %s: Size: %d", what, size)
		}
		if parts := node.Split(n); len(parts) != 0 {
			t.Errorf("P6.1: %s: Split: %d parts", what, len(parts))
		}
		holds(t, what, n)
	}
}

func TestNodesThatAreTooBig(t *testing.T) {
	for what, n := range tooBig() {
		if e := node.Check(n); e != api.ErrBig {
			t.Errorf("P6.1: %s: Check: error %d", what, e)
		}
		if size := node.Size(n); size <= mostPayload {
			t.Errorf("P6.1: %s: Size: %d", what, size)
		}
		holds(t, what, n)
		refused(t, what, plainBytes(n))
	}
}

func TestSizesAroundTheMost(t *testing.T) {
	for _, isLeaf := range []bool{true, false} {
		for size := 990; size <= 1030; size++ {
			n := sized(isLeaf, "k", size)
			want := api.OK
			if size > 1007 {
				want = api.ErrBig
			}
			if e := node.Check(n); e != want || node.Size(n) != size {
				t.Errorf("P6.1: of %d bytes: error %d, size %d", size, e, node.Size(n))
			}
			holds(t, "of "+strconv.Itoa(size)+" bytes", n)
		}
	}
}

func TestErrNodeComesAheadOfErrBig(t *testing.T) {
	for _, isLeaf := range []bool{true, false} {
		for spoil := range 5 {
			n := sized(isLeaf, "k", 3000)
			at := len(plainKeys(n)) - 1
			switch {
			case spoil == 0 && isLeaf:
				n.Items[at].Key = n.Items[at-1].Key
			case spoil == 0:
				n.Kids[at].Key = n.Kids[at-1].Key
			case spoil == 1 && isLeaf:
				n.Items[at].Key = long("z", 273)
			case spoil == 1:
				n.Kids[at].Key = long("z", 273)
			case spoil == 2 && isLeaf:
				n.Items[at].Value = long("z", 161)
			case spoil == 2:
				n.Kids[at].Place = 4096
			case spoil == 3 && isLeaf:
				n.Kids = []api.Kid{{Key: "a", Place: 5}}
			case spoil == 3:
				n.Items = []api.Item{{Key: "a"}}
			case isLeaf:
				n.Items[0].Key = ""
			default:
				n.Kids[0].Place = 1
			}
			if e := node.Check(n); e != api.ErrNode || node.Size(n) != 0 {
				t.Errorf("P0.2: leaf %v, spoilt in way %d: error %d, size %d", isLeaf, spoil, e, node.Size(n))
			}
			holds(t, "spoilt and big", n)
		}
	}
}

func TestEveryBoundOfKeysValuesAndPlaces(t *testing.T) {
	for size := range 300 {
		holds(t, "a leaf's key", leaf(strings.Repeat("k", size), "v"))
		holds(t, "a leaf's value", leaf("k", strings.Repeat("v", size)))
		holds(t, "a kid's key", kids(api.Kid{Key: strings.Repeat("k", size), Place: 7}))
	}
	for place := -300; place < 4500; place++ {
		holds(t, "a place", kids(api.Kid{Key: "a", Place: place}))
	}
}

func TestKeysRiseByteByByte(t *testing.T) {
	keys := []string{"", "\x00", "\x00\x00", "\x01", "A", "Z", "a", "a\x00", "aa", "ab", "b", "\x7f", "\x80", "\xc3\xa4", "\xff", "\xff\x00", "\xff\xff"}
	for i, a := range keys {
		for j, b := range keys {
			list := kids(api.Kid{Key: a, Place: 5}, api.Kid{Key: b, Place: 5})
			if (node.Check(list) == api.OK) != (i < j) {
				t.Errorf("P6.1: the keys %q, %q: error %d", a, b, node.Check(list))
			}
			holds(t, "two keys", list)
			holds(t, "two keys", leaf(a, "", b, ""))
			holds(t, "three keys", leaf("\x00", "", a, "", b, ""))
		}
	}
}
