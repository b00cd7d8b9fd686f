package store_test

import (
	"slices"
	"sync"
	"testing"
	"unsafe"

	"coppice/api"
	"coppice/disk"
	"coppice/store"
)

// shaky is a text in memory that can be written into later on.
func shaky(s string) (string, func()) {
	bytes := []byte(s)
	return unsafe.String(unsafe.SliceData(bytes), len(bytes)), func() {
		for i := range bytes {
			bytes[i] = '#'
		}
	}
}

func TestWhatIsHandedInIsNotKept(t *testing.T) {
	s, d := formatted(t, 300)
	p := newPlain()
	m := makerOf(4)
	for range 400 {
		o := m.step(p)
		shaken := o
		var shakes [4]func()
		shaken.name, shakes[0] = shaky(o.name)
		shaken.to, shakes[1] = shaky(o.to)
		shaken.key, shakes[2] = shaky(o.key)
		shaken.value, shakes[3] = shaky(o.value)
		wants(t, "P0.3", shaken.of(s), o.plainly(p))
		if shaken != o {
			t.Fatal("P0.3: what was handed in has changed")
		}
		for _, shake := range shakes {
			shake()
		}
		has(t, "P0.3: what was handed in isn't kept", s, p.now, p.gen)
	}
	comesBack(t, d, s, p)
}

func TestWhatIsAnsweredIsNewMemory(t *testing.T) {
	s, _, p := filled(t, 300, 20, "t", "u", "v")
	does(t, "P10.1", s, p, op{kind: puts, name: "u", key: "k03", value: "other"})
	names, again := s.Names(), s.Names()
	items, _ := s.Range("t", "", "", 50)
	more, _ := s.Range("t", "", "", 50)
	changes, _, _ := s.Diff("t", "u")
	others, _, _ := s.Diff("t", "u")
	for i := range names[:cap(names)] {
		names[:cap(names)][i] = "scribbled"
	}
	for i := range items[:cap(items)] {
		items[:cap(items)][i] = api.Item{Key: "scribbled"}
	}
	for i := range changes[:cap(changes)] {
		changes[:cap(changes)][i] = api.Change{Key: "scribbled"}
	}
	if !slices.Equal(again, []string{"t", "u", "v"}) || !slices.Equal(more, itemsOf(p.now["t"], "", "", 50)) || !slices.Equal(others, changesOf(p.now["t"], p.now["u"])) {
		t.Error("P0.3: two answers share their memory")
	}
	has(t, "P0.3: what is answered isn't kept", s, p.now, p.gen)
}

// told is what comes of some operations on a disk of its own: all answers, and all sectors.
func told(seed uint64) []string {
	d, _ := disk.New(150)
	s, _ := store.Format(d)
	m, p := makerOf(seed), newPlain()
	var list []string
	for range 200 {
		o := m.step(p)
		e := o.of(s)
		if e == api.OK {
			o.plainly(p)
		}
		list = append(list, digits(int(e), 3)+" "+digits(s.Room(), 3)+" "+digits(s.Gen(), 3))
		list = append(list, s.Names()...)
	}
	for n := range d.Sectors() {
		sector, _ := d.Read(n)
		list = append(list, sector)
	}
	return list
}

func TestWhatIsAnsweredHangsOnNothingElse(t *testing.T) {
	for seed := range uint64(6) {
		want := told(seed)
		var all sync.WaitGroup
		answers := make([][]string, 4)
		for i := range answers {
			all.Go(func() { answers[i] = told(seed) })
		}
		all.Wait()
		for i := range answers {
			if !slices.Equal(answers[i], want) {
				t.Error("P0.5: what a call answers hangs on what another store is told, or on chance")
			}
		}
	}
}

func TestADiskIsUsedTogether(t *testing.T) {
	s, d := formatted(t, 40)
	copied := d.Copy()
	other, e := store.Mount(copied)
	wants(t, "Mount of a copy", e, api.OK)
	wants(t, "Make", s.Make("t"), api.OK)
	wants(t, "Put", s.Put("t", "a", "1"), api.OK)
	if d.Open() == 0 || copied.Open() != 0 {
		t.Error("P0.3: the disk that was given is the one that is written", d.Open(), copied.Open())
	}
	is(t, "P0.3: a store on a copy of the disk", other, newPlain(), 38)
}
