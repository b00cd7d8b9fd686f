package tree_test

import (
	"maps"
	"slices"
	"testing"

	"coppice/api"
	"coppice/heap"
	"coppice/tree"
)

// differs asks for Diff, both ways, against the chapter's words; it answers how many blocks were read at most.
func differs(t *testing.T, what string, h *heap.Heap, a, b int, was, is map[string]string) int {
	t.Helper()
	there, read, e := tree.Diff(h, a, b)
	if want := plainDiff(was, is); e != api.OK || !slices.Equal(there, want) {
		t.Fatalf("P8.3: %s: Diff: %d changes, error %d, want %d, or others", what, len(there), e, len(want))
	}
	back, other, e := tree.Diff(h, b, a)
	if want := plainDiff(is, was); e != api.OK || !slices.Equal(back, want) {
		t.Fatalf("P8.3: %s: Diff the other way: %d changes, error %d, want %d, or others", what, len(back), e, len(want))
	}
	return max(read, other)
}

func TestDiffOfFew(t *testing.T) {
	h, _ := made(t, 100)
	number := numbers(5)
	var trees []map[string]string
	for _, keys := range [][]string{{}, {"a"}, {"b"}, {"a", "b"}, {"a", "c"}, {"a", "b", "c", "d"}, {"c", "d", "e"}} {
		for range 2 {
			items := map[string]string{}
			for _, key := range keys {
				items[key] = []string{"", "1", "2"}[number(3)]
			}
			trees = append(trees, items)
		}
	}
	var roots []int
	for _, items := range trees {
		roots = append(roots, planted(t, h, sorted(items)...))
	}
	for i := range trees {
		for j := range trees {
			differs(t, "few items", h, roots[i], roots[j], trees[i], trees[j])
		}
	}
}

func TestDiffTellsWhatAKeyHadAndHas(t *testing.T) {
	h, _ := made(t, 20)
	a := planted(t, h, api.Item{Key: "gone"}, api.Item{Key: "kept", Value: "k"}, api.Item{Key: "turned", Value: "1"}, api.Item{Key: "emptied", Value: "e"})
	b := planted(t, h, api.Item{Key: "come"}, api.Item{Key: "kept", Value: "k"}, api.Item{Key: "turned", Value: "2"}, api.Item{Key: "emptied"})
	list, read, e := tree.Diff(h, a, b)
	want := []api.Change{
		{Key: "come", Has: true},
		{Key: "emptied", Had: true, Has: true, Old: "e"},
		{Key: "gone", Had: true},
		{Key: "turned", Had: true, Has: true, Old: "1", New: "2"},
	}
	if e != api.OK || !slices.Equal(list, want) || read != 2 {
		t.Error("P8.3: Diff", list, read, e)
	}
}

func TestDiffOfATreeAndItselfReadsNothing(t *testing.T) {
	h, d := made(t, 1000)
	root := planted(t, h, some(2000, 10, 20)...)
	same := puts(t, h, root, long("0005", 10), long("05", 20))
	kept := deletes(t, h, root, "not there")
	for _, other := range []int{root, same, kept} { // a new root may be answered, too, where nothing changes
		if list, read, e := tree.Diff(h, root, other); len(list) != 0 || other == root && read != 0 || read > 128 || e != api.OK {
			t.Error("P8.3: Diff of a tree and itself", list, read, e)
		}
	}
	d.Power(0)
	d.Flush()
	if list, read, e := tree.Diff(h, root, root); len(list) != 0 || read != 0 || e != api.OK {
		t.Error("P8.3: Diff of a tree and itself, without power", list, read, e)
	}
}

func TestDiffOfATreeAndNothing(t *testing.T) {
	h, _ := made(t, 1000)
	for what, item := range sizes {
		items := map[string]string{}
		root := 0
		for i := range 100 {
			one := item(i)
			next := puts(t, h, root, one.Key, one.Value)
			drops(t, h, root)
			root, items[one.Key] = next, one.Value
		}
		read := differs(t, what, h, root, 0, items, nil)
		if blocks := len(surveyOf(t, h, root, 1).places); read != blocks {
			t.Error("P8.3: how many blocks were read:", read, "of", blocks)
		}
		drops(t, h, root)
	}
}

// ownBlocks is how many blocks just one of two trees has.
func ownBlocks(t *testing.T, h *heap.Heap, a, b int) int {
	t.Helper()
	count := map[int]int{}
	for _, place := range append(surveyOf(t, h, a, 1).places, surveyOf(t, h, b, 1).places...) {
		count[place]++
	}
	own := 0
	for _, times := range count {
		if times == 1 {
			own++
		}
	}
	return own
}

func TestDiffOfTreesOfWhichOneWasMadeOfTheOther(t *testing.T) {
	t.Parallel()
	for what, item := range sizes {
		h, _ := made(t, 4096)
		count := 1200
		items, root := map[string]string{}, 0
		for _, i := range orders(count)["mixed"] {
			one := item(2 * i)
			next := puts(t, h, root, one.Key, one.Value)
			drops(t, h, root)
			root, items[one.Key] = next, one.Value
		}
		number := numbers(9)
		for step := range 160 {
			next, now := 0, maps.Clone(items)
			switch one := item(number(2 * count)); step % 3 {
			case 0:
				next = deletes(t, h, root, one.Key)
				delete(now, one.Key)
			case 1:
				next = puts(t, h, root, one.Key, "")
				now[one.Key] = ""
			default:
				now[one.Key] = long("w", number(161))
				next = puts(t, h, root, one.Key, now[one.Key])
			}
			read := differs(t, what, h, root, next, items, now)
			if read > 128 {
				t.Fatal("P8.3:", what, "blocks were read:", read)
			}
			if step%9 == 0 && next != root && read > ownBlocks(t, h, root, next)+2 {
				t.Error("P8.3:", what, "blocks that both have were read:", read)
			}
			if step%2 == 0 {
				drops(t, h, root)
				root, items = next, now
			} else {
				drops(t, h, next)
			}
		}
	}
}

func TestDiffWhereATreeGrowsAndFallsByALevel(t *testing.T) {
	t.Parallel()
	for what, item := range sizes {
		h, _ := made(t, 2000)
		items, root := map[string]string{}, 0
		var roots []int
		var lists []map[string]string
		for i := range 300 {
			one := item(i)
			next, now := puts(t, h, root, one.Key, one.Value), maps.Clone(items)
			now[one.Key] = one.Value
			if root != 0 && levelsOf(t, h, next) > levelsOf(t, h, root) {
				h.Hold(next) // it is kept, too
				roots, lists = append(roots, root, next), append(lists, items, now)
				if read := differs(t, what, h, root, next, items, now); read > 128 || read > ownBlocks(t, h, root, next)+2 {
					t.Error("P8.3:", what, "a level more: blocks were read:", read)
				}
			} else {
				drops(t, h, root)
			}
			root, items = next, now
		}
		for i := range roots {
			for j := range roots {
				differs(t, what, h, roots[i], roots[j], lists[i], lists[j])
			}
		}
	}
}

func TestDiffOfTreesThatShareMuchAndLittle(t *testing.T) {
	for seed := range uint64(12) {
		g := newGrove(t, seed+50, 3000)
		keys := []int{20, 150, 500}[seed%3]
		for step := range 200 {
			if step < 120 {
				g.change(keys, 90)
			} else {
				g.change(keys, 40)
			}
			for len(g.roots) > 8 {
				g.drop()
			}
		}
		far := planted(t, g.h, sorted(g.items[0])...) // the same items, and nothing is shared
		g.roots, g.items = append(g.roots, far), append(g.items, g.items[0])
		for i := range g.roots {
			for j := range i + 1 {
				differs(t, "mixed", g.h, g.roots[i], g.roots[j], g.items[i], g.items[j])
			}
		}
		heldBy(t, "P8.3: Diff holds nothing", g.h, g.d, g.roots...)
	}
}

func TestDiffReadsWhatIsUnlikeAlone(t *testing.T) {
	h, _ := made(t, 4000)
	items := some(6000, 10, 20)
	root := planted(t, h, items...)
	next, want := root, asMap(items)
	for i := range 10 {
		key := items[i*571].Key
		after := puts(t, h, next, key, "other")
		if next != root {
			drops(t, h, next)
		}
		next, want[key] = after, "other"
	}
	blocks := len(surveyOf(t, h, root, 1).places)
	if read := differs(t, "ten of many", h, root, next, asMap(items), want); read > 80 || read > ownBlocks(t, h, root, next)+2 {
		t.Error("P8.3: blocks were read:", read, "of", blocks)
	}
}
