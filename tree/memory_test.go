package tree_test

import (
	"slices"
	"sync"
	"testing"
	"unsafe"

	"coppice/api"
	"coppice/disk"
	"coppice/heap"
	"coppice/tree"
)

// shaky is a text in memory that can be written into later on.
func shaky(s string) (string, func()) {
	bytes := []byte(s)
	return unsafe.String(unsafe.SliceData(bytes), len(bytes)), func() {
		for i := range bytes {
			bytes[i] = '#'
		}
	}
}

func TestWhatIsHandedInIsNotKept(t *testing.T) {
	h, d := made(t, 60)
	root, want := 0, map[string]string{}
	for _, item := range some(60, 8, 40) {
		key, shakeKey := shaky(item.Key)
		value, shakeValue := shaky(item.Value)
		next := puts(t, h, root, key, value)
		if key != item.Key || value != item.Value {
			t.Fatal("P0.3: what was handed in has changed")
		}
		shakeKey()
		shakeValue()
		drops(t, h, root)
		root, want[item.Key] = next, item.Value
	}
	has(t, "P0.3: what was handed in isn't kept", h, root, want)
	list, _ := tree.Range(h, root, "", "", 1000)
	for _, item := range list[:30] {
		key, shake := shaky(item.Key)
		next := deletes(t, h, root, key)
		shake()
		drops(t, h, root)
		root = next
		delete(want, item.Key)
		has(t, "P0.3: what was handed in isn't kept", h, root, want)
	}
	key, shake := shaky(list[40].Key)
	value, _, _ := tree.Get(h, root, key)
	items, _ := tree.Range(h, root, key, "", 3)
	shake()
	if value != list[40].Value || !slices.Equal(items, list[40:43]) {
		t.Error("P0.3: what is answered is made of what was handed in")
	}
	heldBy(t, "P8.1", h, d, root)
}

func TestWhatIsAnsweredIsNewMemory(t *testing.T) {
	h, d := made(t, 200)
	items := some(100, 8, 40)
	a := planted(t, h, items...)
	b := planted(t, h, some(60, 9, 40)...)
	was := counts(h, d)
	first, _ := tree.Range(h, a, "", "", 70)
	second, _ := tree.Range(h, a, "", "", 70)
	for i := range first[:cap(first)] {
		first[:cap(first)][i] = api.Item{Key: "scribbled", Value: "over"}
	}
	third, _ := tree.Range(h, a, "", "", 70)
	if !slices.Equal(second, items[:70]) || !slices.Equal(third, items[:70]) {
		t.Error("P0.3: two answers of Range share their memory")
	}
	want := plainDiff(asMap(items), asMap(some(60, 9, 40)))
	one, _, _ := tree.Diff(h, a, b)
	two, _, _ := tree.Diff(h, a, b)
	for i := range one[:cap(one)] {
		one[:cap(one)][i] = api.Change{Key: "scribbled"}
	}
	three, _, _ := tree.Diff(h, a, b)
	if !slices.Equal(two, want) || !slices.Equal(three, want) {
		t.Error("P0.3: two answers of Diff share their memory")
	}
	has(t, "P0.3: what is answered isn't kept", h, a, asMap(items))
	if !slices.Equal(counts(h, d), was) {
		t.Error("P8.1: who asks holds nothing")
	}
}

// grownAndPruned is what comes of some calls on a heap of its own: the root, and how many hold each sector.
func grownAndPruned() []int {
	d, _ := disk.New(300)
	h, _ := heap.New(d, 1)
	root := 0
	for i, item := range append(some(200, 10, 30), some(150, 10, 30)...) {
		call := func() (int, api.Errno) { return tree.Put(h, root, item.Key, item.Value) }
		if i >= 200 {
			call = func() (int, api.Errno) { return tree.Delete(h, root, item.Key) }
		}
		next, e := call()
		if e != api.OK {
			return nil
		}
		h.Drop(root)
		root = next
	}
	return append(counts(h, d), root)
}

func TestHeapsDoNotTouchEachOther(t *testing.T) {
	want := grownAndPruned()
	if want == nil {
		t.Fatal("P8.1: a call that should be OK isn't")
	}
	var all sync.WaitGroup
	answers := make([][]int, 8)
	for i := range answers {
		all.Go(func() { answers[i] = grownAndPruned() })
	}
	all.Wait()
	for i := range answers {
		if !slices.Equal(answers[i], want) {
			t.Error("P0.5: what a call answers hangs on what another heap is told")
		}
	}
}
