package store_test

import (
	"testing"

	"coppice/api"
	"coppice/disk"
	"coppice/store"
)

func TestScriptsOnSmallDisks(t *testing.T) {
	t.Parallel()
	refused := map[int]int{}
	for seed := range uint64(150) {
		m, p := makerOf(seed), newPlain()
		s, d := formatted(t, 8+m.next(25))
		for range 150 {
			o := m.step(p)
			if !tries(t, "P10.1: a small disk", s, p, o) {
				refused[o.kind]++
			}
			has(t, "P10.1: a small disk", s, p.now, p.gen)
		}
		comesBack(t, d, s, p)
	}
	if refused[puts] < 100 || refused[deletes] < 10 || refused[commits] < 10 {
		t.Error("the test itself is wrong: ErrNoSpace by kinds", refused)
	}
}

// crowded is a store with so many trees, without items, whose names have so many bytes at least.
func crowded(t *testing.T, sectors, trees, bytes int) (*store.Store, *disk.Disk, *plain) {
	t.Helper()
	s, d := formatted(t, sectors)
	p := newPlain()
	for i := range trees {
		does(t, "P10.1: many trees", s, p, op{kind: makes, name: long(digits(i, 3), bytes)})
	}
	if s.Room() != sectors-2 {
		t.Fatal("P10.1: trees without items take sectors", s.Room(), sectors)
	}
	return s, d, p
}

func TestHowManySectorsACommitTakes(t *testing.T) {
	for _, bytes := range []int{3, 20, 63, 64} {
		for _, trees := range []int{0, 1, 2, 13, 14, 15, 16, 50, 195, 196, 197, 199, 200} {
			s, d, p := crowded(t, 600, trees, bytes)
			commit := func() {
				t.Helper()
				does(t, "P10.1: a commit with much room", s, p, op{kind: commits})
				is(t, "P10.1: a commit, mounted", mounted(t, "P10.1", d.Crash(nil)), p, s.Room())
			}
			commit()
			if taken := 598 - s.Room(); taken > 64 || (taken == 0) != (trees == 0) {
				t.Errorf("P10.1: the list of %d trees takes %d sectors", trees, taken)
			}
			for i := range trees {
				does(t, "P10.1", s, p, op{kind: puts, name: long(digits(i, 3), bytes), key: "a", value: digits(i, 1)})
			}
			room := s.Room()
			commit()
			if s.Room() < room-64 {
				t.Errorf("P10.1: a commit of %d trees takes %d sectors", trees, room-s.Room())
			}
			for i := range trees {
				does(t, "P10.1", s, p, op{kind: removes, name: long(digits(i, 3), bytes)})
				if i == trees-2 {
					commit()
				}
			}
			commit()
			if s.Room() != 598 {
				t.Errorf("P10.4: %d trees are gone: room %d", trees, s.Room())
			}
		}
	}
}

func TestACommitIsRefusedOnlyWhereThereIsLittleRoom(t *testing.T) {
	for _, bytes := range []int{3, 64} {
		for _, trees := range []int{1, 2, 14, 15, 40, 196, 197, 200} {
			for sectors := 8; sectors < trees+40; sectors += 1 + sectors/30 {
				s, d, p := crowded(t, sectors, trees, bytes)
				for i := range 4 { // the second one has less room: the first one's list is there still
					if !tries(t, "P10.1: little room", s, p, op{kind: commits}) {
						has(t, "P10.1: little room, mounted", mounted(t, "P10.1", d.Crash(nil)), p.last, p.gen)
						does(t, "P10.1: little room", s, p, op{kind: removes, name: long(digits(i, 3), bytes)})
					}
				}
				has(t, "P10.1: little room, mounted", mounted(t, "P10.1", d.Crash(nil)), p.last, p.gen)
			}
		}
	}
}

func TestACommitWhereTheListIsTall(t *testing.T) {
	for free := range 40 {
		d := blank(t, 42+free)
		var entries []string
		want := named{}
		for i := range 14 {
			name := long(digits(i, 2), 60)
			entries, want[name] = append(entries, name, at(0)), map[string]string{}
		}
		writeNode(t, d, 41, 6, leaf(entries...))
		for place := 2; place < 41; place++ {
			writeNode(t, d, place, 6, above(kid("", place+1)))
		}
		writeSuper(t, d, api.Super{Gen: 6, Root: 2, Sectors: d.Sectors()})
		s, p := mounted(t, "P10.1: a tall list", d), &plain{want.copied(), want.copied(), 6}
		is(t, "P10.1: a tall list", s, p, free)
		for i := range 5 {
			does(t, "P10.1: a tall list", s, p, op{kind: removes, name: entries[2*i]})
			does(t, "P10.1: a tall list", s, p, op{kind: makes, name: "new" + digits(i, 2)})
			tries(t, "P10.1: a tall list", s, p, op{kind: commits})
		}
		comesBack(t, d, s, p)
	}
}

// stuffed is a store all of whose sectors are taken, by trees that were committed: each has a sector of its own.
func stuffed(t *testing.T, sectors int) (*store.Store, *disk.Disk, *plain) {
	t.Helper()
	s, d := formatted(t, sectors)
	p := newPlain()
	for i := range sectors - 3 { // the list takes the last one
		does(t, "P10.1", s, p, op{kind: makes, name: digits(i, 2)})
		does(t, "P10.1", s, p, op{kind: puts, name: digits(i, 2), key: "a", value: digits(i, 2)})
	}
	does(t, "P10.1", s, p, op{kind: commits})
	if s.Room() != 0 {
		t.Fatal("the test itself is wrong: room", s.Room())
	}
	return s, d, p
}

func TestWithoutAnyRoom(t *testing.T) {
	for _, sectors := range []int{8, 12, 17} {
		s, d, p := stuffed(t, sectors)
		for _, o := range []op{{kind: puts, name: "00", key: "b"}, {kind: puts, name: "01", key: "a", value: "x"}, {kind: commits}} {
			if tries(t, "P10.1: no room", s, p, o) {
				t.Fatalf("P10.1: no room, and %+v is done", o)
			}
		}
		for _, o := range []op{
			{kind: puts, name: "00", key: "a", value: "00"}, {kind: deletes, name: "00", key: "not there"}, {kind: puts, name: "02"}, {kind: puts, name: "x", key: "a"}, // nothing to be put
			{kind: copies, name: "00", to: "copied"}, {kind: makes, name: "new"}, {kind: removes, name: "03"}, {kind: deletes, name: "01", key: "a"}, // nor there
		} {
			does(t, "P10.1: no room", s, p, o)
			is(t, "P10.1: no room", s, p, 0)
		}
		does(t, "P10.1: no room", s, p, op{kind: aborts})
		is(t, "P10.1: no room", s, p, 0)
		is(t, "P10.1: no room, mounted", mounted(t, "P10.1", d.Crash(nil)), p, 0)
		m := mounted(t, "P10.1", d.Copy())
		for i, one := range []*store.Store{s, m} {
			p := &plain{p.now.copied(), p.last.copied(), p.gen}
			for name := range p.now {
				does(t, "P10.1: no room", one, p, op{kind: removes, name: name})
				is(t, "P10.1: no room: what was committed is kept, store "+digits(i, 1), one, p, 0)
			}
			does(t, "P10.1: no room, and no trees", one, p, op{kind: commits})
			is(t, "P10.4: no trees", one, p, sectors-2)
		}
		is(t, "P10.4: no trees, mounted", mounted(t, "P10.4", d.Crash(nil)), &plain{named{}, named{}, p.gen + 1}, sectors-2)
	}
}

func TestACopyTakesNoSector(t *testing.T) {
	for _, items := range []int{0, 1, 9, 60} {
		s, d, p := filled(t, 600, items, "t", "u")
		for i := range 60 {
			room := s.Room()
			from := s.Names()[i%len(s.Names())]
			does(t, "P10.3", s, p, op{kind: copies, name: from, to: "copy" + digits(i, 2)})
			is(t, "P10.3: a copy", s, p, room)
			if i%7 == 0 { // a copy is a tree of its own from then on
				does(t, "P10.1", s, p, op{kind: puts, name: "copy" + digits(i, 2), key: "k00", value: digits(i, 2)})
				has(t, "P10.1: a copy is changed", s, p.now, p.gen)
			}
			if i%11 == 0 {
				does(t, "P10.1", s, p, op{kind: commits})
			}
			if i%13 == 0 && from != "t" {
				does(t, "P10.1", s, p, op{kind: removes, name: from})
				has(t, "P10.1: what was copied is removed", s, p.now, p.gen)
			}
		}
		comesBack(t, d, s, p)
	}
}

func TestAllIsFreeWhenAllTreesAreRemoved(t *testing.T) {
	for _, trees := range []int{0, 1, 3, 20} {
		var names []string
		for i := range trees {
			names = append(names, "t"+digits(i, 2))
		}
		s, d, p := filled(t, 600, 30, names...)
		room := s.Room()
		for _, name := range names {
			does(t, "P10.4", s, p, op{kind: removes, name: name})
			is(t, "P10.4: what was committed is kept till the commit", s, p, room)
		}
		is(t, "P10.4: what was committed is kept till the commit", mounted(t, "P10.4", d.Crash(nil)), &plain{p.last, p.last, p.gen}, room)
		does(t, "P10.4", s, p, op{kind: commits})
		is(t, "P10.4: all trees are removed", s, p, 598)
		is(t, "P10.4: all trees are removed, mounted", mounted(t, "P10.4", d.Crash(nil)), p, 598)
		does(t, "P10.1", s, p, op{kind: makes, name: "again"})
		for i := range 30 {
			does(t, "P10.1", s, p, op{kind: puts, name: "again", key: digits(i, 2), value: long("", 160)})
		}
		does(t, "P10.1", s, p, op{kind: aborts})
		is(t, "P10.4: all trees are removed, and an Abort", s, p, 598)
	}
}

func TestWhatWasNeverCommittedIsFreeAtOnce(t *testing.T) {
	s, _, p := filled(t, 300, 9, "t")
	room := s.Room()
	does(t, "P10.1", s, p, op{kind: makes, name: "new"})
	for i := range 40 {
		does(t, "P10.1", s, p, op{kind: puts, name: "new", key: digits(i, 2), value: long("", 100)})
	}
	does(t, "P10.1", s, p, op{kind: removes, name: "new"})
	is(t, "P10.1: what was never committed is removed", s, p, room)
}
