package tree_test

import (
	"slices"
	"testing"

	"coppice/api"
	"coppice/disk"
	"coppice/heap"
	"coppice/tree"
)

// loaded is a heap on a copy of a disk that holds one tree alone, and that copy.
func loaded(t *testing.T, d *disk.Disk, root int) (*heap.Heap, *disk.Disk) {
	t.Helper()
	copied := d.Copy()
	h := on(t, copied)
	if root != 0 {
		if e := h.Load(root); e != api.OK {
			t.Fatal("Load", root, e)
		}
	}
	return h, copied
}

// fill has all sectors taken but so many.
func fill(t *testing.T, h *heap.Heap, left int) {
	t.Helper()
	for h.Room() > left {
		set(t, h, leaf("filler"))
	}
}

// changesOf are changes of a tree that take few sectors, and many, by which it grows, and falls.
func changesOf(items []api.Item) map[string]func(h *heap.Heap, root int) (int, api.Errno) {
	list := map[string]func(h *heap.Heap, root int) (int, api.Errno){}
	put := func(what, key, value string) {
		list[what] = func(h *heap.Heap, root int) (int, api.Errno) { return tree.Put(h, root, key, value) }
	}
	put("Put ahead of all", "!", "1")
	put("Put behind all", "\xff", "1")
	put("Put of a great item", long("00", 272), long("v", 160))
	if len(items) == 0 {
		return list
	}
	for at, one := range map[string]api.Item{"first": items[0], "middle": items[len(items)/2], "last": items[len(items)-1]} {
		key := one.Key
		put("Put beside the "+at, key+"\x00", long("v", 160))
		put("Put of another value, the "+at, key, long("w", 160))
		put("Put of an empty value, the "+at, key, "")
		list["Delete of the "+at] = func(h *heap.Heap, root int) (int, api.Errno) { return tree.Delete(h, root, key) }
	}
	return list
}

// someTrees hands each of some trees of unlike heights to a function, alone on its heap.
func someTrees(t *testing.T, each func(what string, d *disk.Disk, root int, items []api.Item)) {
	t.Helper()
	for what, item := range sizes {
		for _, count := range []int{0, 1, 2, 3, 5, 9, 17, 40, 90} {
			h, d := made(t, 150)
			var items []api.Item
			for i := range count {
				one := item(i)
				if len(one.Key) == 272 {
					one.Key = one.Key[:99] + one.Key[100:] // there is room for one byte more
				}
				items = append(items, one)
			}
			root := planted(t, h, items...)
			items = sorted(asMap(items))
			each(what+", "+digits(count, 1)+" items", d, root, items)
		}
	}
}

func TestErrNoSpaceComesOnlyWhereFewAreFree(t *testing.T) {
	t.Parallel()
	someTrees(t, func(what string, d *disk.Disk, root int, items []api.Item) {
		for change, call := range changesOf(items) {
			for free := 0; ; free++ {
				h, copied := loaded(t, d, root)
				levels := levelsOf(t, h, root)
				fill(t, h, free)
				was := counts(h, copied)
				next, e := call(h, root)
				if e == api.OK {
					if taken := free - h.Room(); taken > 64 {
						t.Errorf("P8.4: %s: %s takes %d sectors", what, change, taken)
					}
					break
				}
				refuses(t, "P8.4: "+what+": "+change, next, e, api.ErrNoSpace)
				if free >= 64 || free >= 4*(levels+1) {
					t.Fatalf("P8.4: %s: %s: ErrNoSpace with %d free, %d levels", what, change, free, levels)
				}
				if !slices.Equal(counts(h, copied), was) || h.Room() != free {
					t.Fatalf("P8.1: %s: %s: ErrNoSpace, and something has changed: %d free, were %d", what, change, h.Room(), free)
				}
			}
		}
	})
}

func TestWhatChangesNothingTakesNoSector(t *testing.T) {
	h, d := made(t, 60)
	items := some(100, 4, 9)
	root := planted(t, h, items...)
	fill(t, h, 0)
	was := counts(h, d)
	if next := deletes(t, h, root, "not there"); next == root {
		drops(t, h, next)
	}
	if next := puts(t, h, root, items[50].Key, items[50].Value); next == root {
		drops(t, h, next)
	}
	if !slices.Equal(counts(h, d), was) {
		t.Error("P8.4: what changes nothing takes sectors")
	}
}

// takes asks whether a change of a tree took as few sectors as it may, or answers that there was no room for it.
func takes(t *testing.T, what string, h *heap.Heap, root, room int, e api.Errno) bool {
	t.Helper()
	if taken := room - h.Room(); e == api.OK && taken <= 8 {
		return true
	}
	few := 4 * (levelsOf(t, h, root) + 1)
	if e == api.ErrNoSpace && room < 64 && room < few {
		return false
	}
	if taken := room - h.Room(); e != api.OK || taken > 64 || taken > few {
		t.Fatalf("P8.4: %s: error %d, room %d, was %d", what, e, h.Room(), room)
	}
	return true
}

func TestAGreatTreeTakesFewSectorsMore(t *testing.T) {
	for what, item := range sizes {
		t.Run(what, func(t *testing.T) {
			t.Parallel()
			h, _ := made(t, 4096)
			root, keys := growsGreat(t, h, item)
			if levelsOf(t, h, root) > 12 { // with two kids each, more levels have no room on a disk
				t.Error("P8.4: levels:", levelsOf(t, h, root))
			}
			if e := tree.Check(h, root); e != api.OK {
				t.Fatal("P8.1: Check of a great tree", e)
			}
			root = fallsAgain(t, h, root, keys)
			drops(t, h, root)
			if h.Room() != 4094 {
				t.Error("P8.5: room", h.Room())
			}
		})
	}
}

// growsGreat has many items put, and is the tree of them, and their keys.
func growsGreat(t *testing.T, h *heap.Heap, item func(int) api.Item) (int, []string) {
	t.Helper()
	root := 0
	var keys []string
	for _, i := range orders(3500)["mixed"] {
		one, room := item(i), h.Room()
		next, e := tree.Put(h, root, one.Key, one.Value)
		if !takes(t, "Put", h, root, room, e) {
			break
		}
		drops(t, h, root)
		root, keys = next, append(keys, one.Key)
	}
	return root, keys
}

// fallsAgain has these keys deleted, in another order, and is the tree that is left.
func fallsAgain(t *testing.T, h *heap.Heap, root int, keys []string) int {
	t.Helper()
	for done, i := range orders(len(keys))["mixed"] {
		room, left := h.Room(), len(keys)-done-1
		next, e := tree.Delete(h, root, keys[i])
		if !takes(t, "Delete", h, root, room, e) {
			break
		}
		drops(t, h, root)
		root = next
		if left < 20 && levelsOf(t, h, root) > left {
			t.Fatal("P8.4: levels:", levelsOf(t, h, root), "items:", left)
		}
	}
	return root
}

func TestAllSectorsAreFreeWhenAllTreesAreDropped(t *testing.T) {
	h, _ := made(t, 800)
	var roots []int
	root := 0
	for i, item := range some(300, 30, 30) {
		root = puts(t, h, root, item.Key, item.Value)
		if i%3 == 0 {
			h.Settle()
		}
		roots = append(roots, root)
		if len(roots) > 40 {
			drops(t, h, roots[0])
			roots = roots[1:]
		}
	}
	for _, root := range roots {
		drops(t, h, root)
	}
	if h.Room() == 798 {
		t.Error("the test itself is wrong: nothing waits")
	}
	if h.Settle(); h.Room() != 798 {
		t.Error("P8.5: room", h.Room())
	}
}
