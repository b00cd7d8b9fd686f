package heap_test

import (
	"testing"

	"coppice/api"
	"coppice/disk"
)

// planted is a disk of 12 sectors with a tree of generation 3: leaves in 2, 3 and 4, above(2, 3) in 5, above(3, 4) in 6, above(5, 6, 5) in 7, and a leaf of generation 9 in 8.
func planted(t *testing.T) *disk.Disk {
	t.Helper()
	d := blank(t, 12)
	for p, n := range map[int]api.Node{2: leaf("a"), 3: leaf("b"), 4: leaf("c")} {
		writes(t, d, p, sectorOf(t, 1, 3, n))
	}
	for p, n := range map[int]api.Node{5: above(2, 3), 6: above(3, 4), 7: above(5, 6, 5)} {
		writes(t, d, p, sectorOf(t, 2, 3, n))
	}
	writes(t, d, 8, sectorOf(t, 1, 9, leaf("z")))
	return d
}

func TestLoad(t *testing.T) {
	d := planted(t)
	h := on(t, d, 5)
	was := sectors(t, d)
	wants(t, "P7.1: Load of a leaf", h.Load(2), api.OK)
	is(t, "P7.1: a leaf", h, 5, 9, 1, 0, 0, 0, 0, 0, 0)
	gets(t, "P7.1: a leaf", h, 2, leaf("a"))
	wants(t, "P7.1: Load of a tree", h.Load(7), api.OK)
	is(t, "P7.1: a tree: kids as often as they are named", h, 5, 4, 2, 2, 1, 2, 1, 1, 0)
	gets(t, "P7.1: below it", h, 6, above(3, 4))
	wants(t, "P7.1: Load of what is held", h.Load(5), api.OK)
	is(t, "P7.1: as Hold", h, 5, 4, 2, 2, 1, 3, 1, 1, 0)
	getsNot(t, "P7.1: what wasn't loaded", h, 8, api.ErrFree)
	now := sectors(t, d)
	for n := range was {
		if was[n] != now[n] {
			t.Error("P7.1: Load has written", n)
		}
	}
	puts(t, "P7.1: past what is loaded", h, above(7), 8)
	wants(t, "P7.1: Drop", h.Drop(7), api.OK)
	wants(t, "P7.1: Drop", h.Drop(8), api.OK)
	is(t, "P7.1: the tree waits, but for what is held from outside", h, 5, 4, 2, 1, 0, 1, 0, 0, 0)
	wants(t, "P7.1: Drop", h.Drop(5), api.OK)
	wants(t, "P7.1: Drop", h.Drop(2), api.OK)
	is(t, "P7.1: all waits", h, 5, 4, 0, 0, 0, 0, 0, 0, 0)
	wants(t, "P7.1: Settle", h.Settle(), api.OK)
	is(t, "P7.5: all is free", h, 6, 10)
}

func TestLoadOfNoSectors(t *testing.T) {
	d := blank(t, 8)
	h := on(t, d, 1)
	for range 2 {
		for _, p := range noPlaces {
			wants(t, "P7.1: Load of no sector", h.Load(p), api.ErrSector)
		}
		is(t, "P7.1: nothing is held", h, 1, 6, 0, 0, 0, 0, 0, 0, 0)
		cut(t, d) // ErrSector comes ahead of the disk's error
	}
	wants(t, "P7.1: Load without power", h.Load(2), api.ErrDown)
	wants(t, "P7.1: Load of the last sector without power", h.Load(7), api.ErrDown)

	h = on(t, planted(t), 1)
	wants(t, "P7.1: Load of a sector that others wrote", h.Load(8), api.OK)
	wants(t, "P7.1: Load of zeros in the last sector", h.Load(11), api.ErrLost)
	wants(t, "P7.1: Load behind the last sector", h.Load(12), api.ErrSector)
}

func TestLoadOfSectorsBelowTwo(t *testing.T) {
	d := blank(t, 8)
	for _, p := range []int{0, 1} {
		writes(t, d, p, sectorOf(t, 1, 1, leaf("a")))
		wants(t, "P7.1: Load of a leaf that stands below 2", on(t, d, 1).Load(p), api.ErrSector)
	}
}

func TestLoadOfWhatIsHeld(t *testing.T) {
	h, d := made(t, 8, 1)
	puts(t, "P7.1: Put", h, leaf("a"), 2)
	puts(t, "P7.1: Put", h, above(2), 3)
	wants(t, "P7.1: Load", h.Load(3), api.OK)
	is(t, "P7.1: as Hold: not what is below it", h, 1, 4, 2, 2)
	writes(t, d, 2, blockOf(t, 1, 1, ""))
	wants(t, "P7.1: Load of what is held reads nothing", h.Load(2), api.OK)
	cut(t, d)
	wants(t, "P7.1: Load of what is held without power", h.Load(2), api.OK)
	is(t, "P7.1: as Hold", h, 1, 4, 4, 2)
	holds(t, h, 2, 4999)
	wants(t, "P7.1: Load up to MaxCount", h.Load(2), api.OK)
	wants(t, "P7.1: Load above MaxCount", h.Load(2), api.ErrMany)
	is(t, "P7.1: MaxCount", h, 1, 4, 5000, 2)
}

func TestLoadOfWhatIsLost(t *testing.T) {
	for what, sector := range noNodes(t) {
		d := planted(t)
		writes(t, d, 9, sector)
		h := on(t, d, 5)
		was := stateOf(t, h, d)
		wants(t, "P7.1: Load: "+what, h.Load(9), api.ErrLost)
		unchanged(t, "Load: "+what, h, d, was)
	}
}

func TestLoadOfATreeOfWhichALeafIsLost(t *testing.T) {
	for what, sector := range noNodes(t) {
		d := planted(t)
		writes(t, d, 3, sector)
		h := on(t, d, 5)
		wants(t, "P7.1: Load of a tree, "+what, h.Load(7), api.ErrLost)
		is(t, "P7.1: what was loaded ahead of it stays, "+what, h, 5, 7, 1, 0, 0, 1, 0, 1, 0)
		gets(t, "P7.1: what was loaded", h, 7, above(5, 6, 5))
		gets(t, "P7.1: what was loaded", h, 5, above(2, 3))
		gets(t, "P7.1: what was loaded", h, 2, leaf("a"))
		getsNot(t, "P7.1: what wasn't", h, 3, api.ErrFree)
		getsNot(t, "P7.1: what wasn't", h, 6, api.ErrFree)
		puts(t, "P7.1: what wasn't loaded is free", h, leaf("d"), 3)
	}
}

func TestDropOfATreeOfWhichALeafWasLost(t *testing.T) {
	d := planted(t)
	writes(t, d, 3, blockOf(t, 1, 3, ""))
	h := on(t, d, 5)
	wants(t, "P7.1: Load of a tree", h.Load(7), api.ErrLost)
	wants(t, "P7.1: Drop of what was loaded ahead of the error", h.Drop(7), api.OK)
	is(t, "P7.1: it waits", h, 5, 7, 0, 0, 0, 0, 0, 0)
	wants(t, "P7.1: Settle", h.Settle(), api.OK)
	is(t, "P7.1: all is free", h, 6, 10)
	wants(t, "P7.1: Load of a part", h.Load(4), api.OK)
	wants(t, "P7.1: Load once more", h.Load(7), api.ErrLost)
	is(t, "P7.1: as the first time", h, 6, 6, 1, 0, 1, 1, 0, 1)
}

// A sector's kids are those of its node, by the chapter's words, also where not all of them could be loaded.
func TestDropOfWhatWasLoadedInPartDropsAllKids(t *testing.T) {
	d := planted(t)
	writes(t, d, 9, sectorOf(t, 2, 3, above(2, 11, 8)))
	h := on(t, d, 5)
	wants(t, "P7.1: Load of the last kid", h.Load(8), api.OK)
	wants(t, "P7.1: Hold", h.Hold(8), api.OK)
	wants(t, "P7.1: Load of a tree", h.Load(9), api.ErrLost)
	is(t, "P7.1: nothing behind the error is held more", h, 5, 7, 1, 0, 0, 0, 0, 0, 2, 1, 0)
	wants(t, "P7.1: Drop", h.Drop(9), api.OK)
	is(t, "P7.1: each kid that is held is dropped", h, 5, 7, 0, 0, 0, 0, 0, 0, 1, 0, 0)
}

func TestLoadOfATreeWithAKidBeyondTheDisk(t *testing.T) {
	for _, place := range []int{12, 13, 4095} {
		d := blank(t, 12)
		writes(t, d, 2, sectorOf(t, 1, 1, leaf("a")))
		writes(t, d, 3, sectorOf(t, 2, 1, above(2, place, 2)))
		h := on(t, d, 1)
		wants(t, "P7.1: Load of a tree with a kid beyond the disk", h.Load(3), api.ErrSector)
		is(t, "P7.1: what was loaded ahead of it stays", h, 1, 8, 1, 1)
		gets(t, "P7.1: it is a node all the same", h, 3, above(2, place, 2))
	}
}

func TestTheFirstErrorOfLoadIsTold(t *testing.T) {
	d := planted(t)
	writes(t, d, 9, sectorOf(t, 2, 3, above(2, 4095, 10, 3)))
	h := on(t, d, 5)
	wants(t, "P7.1: beyond the disk, then lost", h.Load(9), api.ErrSector)
	is(t, "P7.1: nothing behind the first error", h, 5, 8, 1, 0, 0, 0, 0, 0, 0, 1, 0)
	writes(t, d, 9, sectorOf(t, 2, 3, above(2, 10, 4095, 3)))
	h = on(t, d, 5)
	wants(t, "P7.1: lost, then beyond the disk", h.Load(9), api.ErrLost)
	is(t, "P7.1: nothing behind the first error", h, 5, 8, 1, 0, 0, 0, 0, 0, 0, 1, 0)
}

func TestLoadWhereAKidHasTooManyHolders(t *testing.T) {
	d := planted(t)
	h := on(t, d, 5)
	wants(t, "P7.1: Load", h.Load(3), api.OK)
	holds(t, h, 3, 4999)
	wants(t, "P7.1: the last holder is 5, none is left for 6", h.Load(7), api.ErrMany)
	is(t, "P7.1: what was loaded ahead of it stays", h, 5, 5, 1, 5000, 0, 1, 1, 1, 0)
}

func TestWhatIsLoadedIsBornInTheGenerationOfItsBlock(t *testing.T) {
	for _, gen := range []int{0, 2, 3, 4, 8, 9, 10, api.MaxGen} {
		h := on(t, planted(t), gen)
		wants(t, "P7.1: Load", h.Load(7), api.OK)
		wants(t, "P7.1: Load", h.Load(8), api.OK)
		is(t, "P7.1: loaded", h, gen, 3, 1, 2, 1, 2, 1, 1, 1)
		wants(t, "P7.1: Drop", h.Drop(7), api.OK)
		wants(t, "P7.1: Drop", h.Drop(8), api.OK)
		room := 3
		switch gen {
		case 3:
			room = 9
		case 9:
			room = 4
		}
		is(t, "P7.1: free at once is what is of this generation", h, gen, room, 0, 0, 0, 0, 0, 0, 0)
	}
}

func TestLoadOfWhatWaits(t *testing.T) {
	d := planted(t)
	h := on(t, d, 5)
	wants(t, "P7.1: Load", h.Load(3), api.OK)
	wants(t, "P7.1: Drop", h.Drop(3), api.OK)
	was := stateOf(t, h, d)
	wants(t, "P7.1: Load of what waits", h.Load(3), api.ErrThere)
	unchanged(t, "Load of what waits", h, d, was)
	wants(t, "P7.1: Load of a tree with a leaf that waits", h.Load(7), api.ErrThere)
	is(t, "P7.1: what was loaded ahead of it stays", h, 5, 6, 1, 0, 0, 1, 0, 1, 0)
	writes(t, d, 3, blockOf(t, 3, 3, ""))
	wants(t, "P7.1: Load of what waits and is lost", h.Load(3), api.ErrLost)
	writes(t, d, 3, sectorOf(t, 1, 3, leaf("b")))
	other := on(t, d.Copy(), 5)
	wants(t, "P7.1: Load into another heap", other.Load(3), api.OK)
	wants(t, "P7.1: Settle", h.Settle(), api.OK)
	wants(t, "P7.1: Load of what has waited", h.Load(3), api.OK)
	wants(t, "P7.1: Drop", h.Drop(3), api.OK)
	cut(t, d)
	wants(t, "P7.1: Load of what waits without power", h.Load(3), api.ErrDown)
}

func TestLoadOfWhatWasPutAndDropped(t *testing.T) {
	h, _ := made(t, 8, 1)
	puts(t, "P7.1: Put", h, leaf("a"), 2)
	puts(t, "P7.1: Put", h, above(2, 2), 3)
	wants(t, "P7.1: Drop", h.Drop(2), api.OK)
	wants(t, "P7.1: Drop", h.Drop(3), api.OK)
	is(t, "P7.1: all is free", h, 1, 6, 0, 0)
	wants(t, "P7.1: what was there stands there still", h.Load(3), api.OK)
	is(t, "P7.1: loaded again", h, 1, 4, 2, 1)
	wants(t, "P7.1: Drop", h.Drop(3), api.OK)
	is(t, "P7.1: free at once", h, 1, 6, 0, 0)
}

func TestLoadInACircle(t *testing.T) {
	d := blank(t, 8)
	writes(t, d, 2, sectorOf(t, 2, 1, above(2)))
	writes(t, d, 3, sectorOf(t, 2, 1, above(4, 4)))
	writes(t, d, 4, sectorOf(t, 2, 1, above(3, 4)))
	h := on(t, d, 1)
	wants(t, "P7.1: Load of a node that is its own kid", h.Load(2), api.OK)
	is(t, "P7.1: held by itself, too", h, 1, 5, 2)
	wants(t, "P7.1: Load in a circle", h.Load(3), api.OK)
	is(t, "P7.1: held by one another", h, 1, 3, 2, 2, 3)
	for _, p := range []int{2, 3} {
		wants(t, "P7.1: Drop in a circle", h.Drop(p), api.OK)
	}
	is(t, "P7.1: by one another alone", h, 1, 3, 1, 1, 3)
	wants(t, "P7.1: Drop of what isn't held from outside", h.Drop(2), api.OK)
	wants(t, "P7.1: Drop of what isn't held from outside", h.Drop(3), api.OK)
	is(t, "P7.1: 4 is its own kid", h, 1, 5, 0, 0, 1)
}

func TestLoadBehindACrash(t *testing.T) {
	h, d := made(t, 8, 1)
	puts(t, "P7.1: Put", h, leaf("a"), 2)
	puts(t, "P7.1: Put", h, above(2), 3)
	wants(t, "Flush", d.Flush(), api.OK)
	puts(t, "P7.1: Put", h, above(3, 2), 4)
	for _, c := range []struct {
		fate int
		want api.Errno
	}{{0, api.ErrLost}, {1, api.OK}, {1024 + 3, api.ErrLost}, {1024 + 700, api.ErrLost}, {2 * 1024, api.ErrLost}} {
		o := on(t, d.Crash([]int{c.fate}), 1)
		wants(t, "P7.1: Load of what was flushed", o.Load(3), api.OK)
		wants(t, "P7.1: Load of what wasn't", o.Load(4), c.want)
		wantCounts := []int{1, 1, 0}
		if c.want == api.OK {
			wantCounts = []int{2, 2, 1}
		}
		is(t, "P7.1: behind a crash", o, 1, o.Room(), wantCounts...)
	}
}
