package tree_test

import (
	"maps"
	"math"
	"slices"
	"testing"

	"coppice/api"
	"coppice/heap"
	"coppice/tree"
)

// ranges asks for Range, against the chapter's words.
func ranges(t *testing.T, h *heap.Heap, root int, items map[string]string, from, to string, most int) {
	t.Helper()
	list, e := tree.Range(h, root, from, to, most)
	if want := plainRange(items, from, to, most); e != api.OK || !slices.Equal(list, want) {
		t.Fatalf("P8.1: Range(%q, %q, %d): %d items, error %d, want %d items", from, to, most, len(list), e, len(want))
	}
}

func TestRange(t *testing.T) {
	h, _ := made(t, 200)
	items := []api.Item{{Key: "b", Value: "1"}, {Key: "bb", Value: "2"}, {Key: "d", Value: ""}, {Key: "\xff", Value: "4"}}
	root := planted(t, h, items...)
	for _, one := range []struct {
		from, to string
		most     int
		want     []api.Item
	}{
		{"", "", 4, items},
		{"", "", 5, items},
		{"", "", math.MaxInt, items},
		{"", "", 3, items[:3]},
		{"", "", 1, items[:1]},
		{"", "", 0, nil},
		{"", "", -1, nil},
		{"", "", math.MinInt, nil},
		{"b", "", 9, items},
		{"b\x00", "", 9, items[1:]},
		{"c", "", 9, items[2:]},
		{"d", "", 9, items[2:]},
		{"\xff", "", 9, items[3:]},
		{"\xff\x00", "", 9, nil},
		{"", "b", 9, nil},
		{"", "b\x00", 9, items[:1]},
		{"", "bb", 9, items[:1]},
		{"", "c", 9, items[:2]},
		{"", "d", 9, items[:2]},
		{"", "\xff", 9, items[:3]},
		{"", "\xff\x00", 9, items},
		{"b", "d", 9, items[:2]},
		{"b", "d", 2, items[:2]},
		{"b", "d", 1, items[:1]},
		{"bb", "bb\x00", 9, items[1:2]},
		{"d", "d", 9, nil},
		{"d", "b", 9, nil},
		{"\xff\xff", "\x00", 9, nil},
	} {
		list, e := tree.Range(h, root, one.from, one.to, one.most)
		if e != api.OK || !slices.Equal(list, one.want) {
			t.Errorf("P8.1: Range(%q, %q, %d): %v, error %d, want %v", one.from, one.to, one.most, list, e, one.want)
		}
	}
}

func TestRangesOfTreesOfAllSizes(t *testing.T) {
	t.Parallel()
	for what, item := range sizes {
		h, _ := made(t, 600)
		number := numbers(uint64(len(what)))
		items, root := map[string]string{}, 0
		for _, i := range orders(160)["mixed"] {
			one := item(i)
			next := puts(t, h, root, one.Key, one.Value)
			drops(t, h, root)
			root, items[one.Key] = next, one.Value
		}
		keys := slices.Sorted(maps.Keys(items))
		any := func() string {
			switch key := keys[number(len(keys))]; number(6) {
			case 0:
				return ""
			case 1:
				return key + "\x00"
			case 2:
				return key[:number(len(key))]
			case 3:
				return "\xff"
			default:
				return key
			}
		}
		for range 600 {
			ranges(t, h, root, items, any(), any(), []int{-1, 0, 1, 2, 3, 20, 159, 160, 161, math.MaxInt}[number(10)])
		}
		for i, key := range keys {
			ranges(t, h, root, items, key, "", 2)
			ranges(t, h, root, items, "", key, math.MaxInt)
			ranges(t, h, root, items, "", "", i)
		}
	}
}
