package heap_test

import (
	"maps"
	"slices"
	"testing"

	"coppice/api"
	"coppice/disk"
	"coppice/heap"
)

// keeper uses a heap as it is meant to be: it drops nothing that isn't held from outside, and knows what it put.
type keeper struct {
	t       *testing.T
	h       *heap.Heap
	d       *disk.Disk
	number  func(below int) int
	outside map[int]int      // how often each place is held from outside
	nodes   map[int]api.Node // what was put there last
	settled map[int]string   // what stood in the sectors that were held at the last Settle
	written int
}

func newKeeper(t *testing.T, seed uint64, sectors, gen int) *keeper {
	h, d := made(t, sectors, gen)
	return &keeper{t: t, h: h, d: d, number: numbers(seed), outside: map[int]int{}, nodes: map[int]api.Node{}, settled: map[int]string{}}
}

// any is a place that is held from outside; 0: there is none.
func (k *keeper) any() int {
	places := slices.Sorted(maps.Keys(k.outside))
	if len(places) == 0 {
		return 0
	}
	return places[k.number(len(places))]
}

// reached is all that is held from outside, and all below it, with how many hold each.
func (k *keeper) reached() map[int]int {
	counts := map[int]int{}
	var below func(place int)
	below = func(place int) {
		counts[place]++
		if counts[place] == 1 {
			for _, kid := range k.nodes[place].Kids {
				below(kid.Place)
			}
		}
	}
	for place, times := range k.outside {
		for range times {
			below(place)
		}
	}
	return counts
}

// put has a node put, which has kids if there are any to be held.
func (k *keeper) put() {
	k.written++
	n := leaf(string([]byte{'l', byte(k.written >> 8), byte(k.written)}))
	if k.any() != 0 && k.number(3) > 0 {
		var kids []int
		reached := slices.Sorted(maps.Keys(k.reached()))
		for range 1 + k.number(4) {
			kids = append(kids, reached[k.number(len(reached))])
		}
		n = above(kids...)
	}
	was := k.reached()
	place, e := k.h.Put(n)
	if e == api.ErrNoSpace && k.h.Room() == 0 {
		return
	}
	if e != api.OK || was[place] != 0 {
		k.t.Fatalf("P7.2: Put: %d, error %d, held by %d", place, e, was[place])
	}
	k.outside[place]++
	k.nodes[place] = n
}

// hold has what is held, or hangs on it, held once more.
func (k *keeper) hold(call func(place int) api.Errno) {
	reached := slices.Sorted(maps.Keys(k.reached()))
	if len(reached) == 0 {
		return
	}
	place := reached[k.number(len(reached))]
	if e := call(place); e != api.OK {
		k.t.Fatal("P7.2: Hold or Load of what is held", place, e)
	}
	k.outside[place]++
}

// drop has what is held from outside dropped once.
func (k *keeper) drop() {
	place := k.any()
	if place == 0 {
		return
	}
	if e := k.h.Drop(place); e != api.OK {
		k.t.Fatal("P7.2: Drop of what is held from outside", place, e)
	}
	k.outside[place]--
	if k.outside[place] == 0 {
		delete(k.outside, place)
	}
}

// settle ends the generation, and keeps what stands in the sectors that are held then.
func (k *keeper) settle() {
	if e := k.h.Settle(); e != api.OK {
		k.t.Fatal("P7.1: Settle", e)
	}
	k.settled = map[int]string{}
	for place := range k.reached() {
		k.settled[place], _ = k.d.Read(place)
	}
}

// step does something.
func (k *keeper) step() {
	switch kind := k.number(20); {
	case kind < 8:
		k.put()
	case kind < 10:
		k.hold(k.h.Hold)
	case kind < 11:
		k.hold(k.h.Load)
	case kind < 19:
		k.drop()
	default:
		k.settle()
	}
}

// stays asks whether all that is held is there, with all below it, and held by as many as lead to it.
func (k *keeper) stays(promise string, h *heap.Heap) {
	k.t.Helper()
	counts := k.reached()
	for place := range k.d.Sectors() {
		if h.Count(place) != counts[place] {
			k.t.Fatalf("%s: Count(%d): %d, want %d", promise, place, h.Count(place), counts[place])
		}
		if counts[place] > 0 {
			gets(k.t, promise, h, place, k.nodes[place])
		} else {
			getsNot(k.t, promise, h, place, api.ErrFree)
		}
	}
}

// notWrittenOver asks whether what was held at the last Settle stands on the disk as it did, dropped or not.
func (k *keeper) notWrittenOver() {
	k.t.Helper()
	for place, was := range k.settled {
		if now, _ := k.d.Read(place); now != was {
			k.t.Fatal("P7.3: written over ahead of Settle:", place)
		}
	}
}

// loadedAnew is a heap on a disk, into which all that is held from outside is loaded, in any order.
func (k *keeper) loadedAnew(d *disk.Disk) *heap.Heap {
	k.t.Helper()
	var places []int
	for place, times := range k.outside {
		places = append(places, slices.Repeat([]int{place}, times)...)
	}
	slices.Sort(places)
	for i := range places { // another order each time
		j := k.number(i + 1)
		places[i], places[j] = places[j], places[i]
	}
	o := on(k.t, d, k.h.Gen())
	for _, place := range places {
		if e := o.Load(place); e != api.OK {
			k.t.Fatal("P7.4: Load of what is held from outside", place, e)
		}
	}
	return o
}

func TestWhatIsHeldStays(t *testing.T) {
	for seed := range uint64(24) {
		k := newKeeper(t, seed+1, 8+int(seed), int(seed%3))
		for range 400 {
			k.step()
			k.stays("P7.2", k.h)
			k.notWrittenOver()
		}
	}
}

func TestAHeapOnACopyOfTheDisk(t *testing.T) {
	for seed := range uint64(60) {
		k := newKeeper(t, seed+100, 8+int(seed%40), 1)
		for range 30 {
			for range 12 {
				k.step()
			}
			k.stays("P7.4: on a copy", k.loadedAnew(k.d.Copy()))
			k.stays("P7.4: the first heap isn't touched", k.h)
		}
	}
}

func TestACopyGoesOnAsTheFirst(t *testing.T) {
	for seed := range uint64(60) {
		k := newKeeper(t, seed+200, 8+int(seed%40), 1)
		for range 300 {
			k.step()
		}
		k.settle() // what waits isn't known to the copy
		copied := k.d.Copy()
		o := &keeper{t: t, h: k.loadedAnew(copied), d: copied, number: numbers(seed), outside: maps.Clone(k.outside), nodes: maps.Clone(k.nodes), settled: map[int]string{}, written: k.written}
		k.number = numbers(seed)
		for range 100 {
			k.step()
			o.step()
			if k.h.Room() != o.h.Room() || k.h.Gen() != o.h.Gen() || !maps.Equal(k.outside, o.outside) {
				t.Fatalf("P7.4: a copy goes another way: room %d, %d", k.h.Room(), o.h.Room())
			}
		}
		o.stays("P7.4: a copy that went on", o.h)
	}
}

func TestWhatWasFlushedStaysBehindACrash(t *testing.T) {
	for seed := range uint64(30) {
		k := newKeeper(t, seed+300, 8+int(seed%40), 1)
		for range 100 {
			k.step()
		}
		wants(t, "Flush", k.d.Flush(), api.OK)
		k.settle()
		kept := &keeper{t: t, h: k.h, d: k.d, number: numbers(seed + 1), outside: maps.Clone(k.outside), nodes: maps.Clone(k.nodes)}
		for range 60 {
			if k.number(20) < 9 {
				k.put()
			} else {
				k.drop()
			}
			var fates []int
			for range k.d.Open() {
				fates = append(fates, k.number(3000))
			}
			kept.stays("P7.3: behind a crash ahead of Settle", kept.loadedAnew(k.d.Crash(fates)))
		}
	}
}

func TestAllIsFreeInTheEnd(t *testing.T) {
	for seed := range uint64(120) {
		k := newKeeper(t, seed+400, 8+int(seed%60), 1)
		for range 50 + k.number(300) {
			k.step()
		}
		for len(k.outside) > 0 {
			k.drop()
			k.stays("P7.2: while all is dropped", k.h)
		}
		k.settle()
		is(t, "P7.5: all is dropped and settled", k.h, k.h.Gen(), k.d.Sectors()-2)
		for want := 2; want < k.d.Sectors(); want++ {
			puts(t, "P7.5: each sector from 2 on is free", k.h, leaf("a"), want)
		}
		refuses(t, "all are taken", k.h, k.d, leaf("a"), api.ErrNoSpace)
	}
}

func TestAllThatWasLoadedIsFreeInTheEnd(t *testing.T) {
	for seed := range uint64(60) {
		k := newKeeper(t, seed+600, 8+int(seed%60), 1)
		for range 200 {
			k.step()
		}
		k.h = k.loadedAnew(k.d)
		for len(k.outside) > 0 {
			k.drop()
		}
		k.settle()
		is(t, "P7.5: all that was loaded is dropped and settled", k.h, k.h.Gen(), k.d.Sectors()-2)
	}
}
