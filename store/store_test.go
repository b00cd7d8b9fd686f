package store_test

import (
	"maps"
	"slices"
	"strings"
	"testing"

	"coppice/api"
	"coppice/disk"
	"coppice/store"
)

// The calls as the chapter lists them.
var (
	_ func(d *disk.Disk) (*store.Store, api.Errno)                                            = store.Format
	_ func(d *disk.Disk) (*store.Store, api.Errno)                                            = store.Mount
	_ func(s *store.Store) []string                                                           = (*store.Store).Names
	_ func(s *store.Store, name, key string) (string, bool, api.Errno)                        = (*store.Store).Get
	_ func(s *store.Store, name, from, to string, most int) (items []api.Item, err api.Errno) = (*store.Store).Range
	_ func(s *store.Store, a, b string) ([]api.Change, int, api.Errno)                        = (*store.Store).Diff
	_ func(s *store.Store, name string) api.Errno                                             = (*store.Store).Make
	_ func(s *store.Store, from, to string) api.Errno                                         = (*store.Store).Copy
	_ func(s *store.Store, name string) api.Errno                                             = (*store.Store).Remove
	_ func(s *store.Store, name, key, value string) api.Errno                                 = (*store.Store).Put
	_ func(s *store.Store, name, key string) api.Errno                                        = (*store.Store).Delete
	_ func(s *store.Store) api.Errno                                                          = (*store.Store).Commit
	_ func(s *store.Store) api.Errno                                                          = (*store.Store).Abort
	_ func(s *store.Store) int                                                                = (*store.Store).Gen
	_ func(s *store.Store) int                                                                = (*store.Store).Room
)

// blank is a disk of zeros.
func blank(t *testing.T, sectors int) *disk.Disk {
	t.Helper()
	d, e := disk.New(sectors)
	if e != api.OK {
		t.Fatal("a new disk", sectors, e)
	}
	return d
}

// formatted is a fresh store, and its disk.
func formatted(t *testing.T, sectors int) (*store.Store, *disk.Disk) {
	t.Helper()
	d := blank(t, sectors)
	s, e := store.Format(d)
	if e != api.OK {
		t.Fatalf("P10.1: Format of %d sectors: error %d", sectors, e)
	}
	return s, d
}

// mounted is the store on a disk.
func mounted(t *testing.T, what string, d *disk.Disk) *store.Store {
	t.Helper()
	s, e := store.Mount(d)
	if e != api.OK || s == nil {
		t.Fatalf("%s: Mount: error %d", what, e)
	}
	return s
}

// wants asks whether a call answered an error's number.
func wants(t *testing.T, what string, e, want api.Errno) {
	t.Helper()
	if e != want {
		t.Fatalf("%s: error %d, want %d", what, e, want)
	}
}

// has asks whether a store tells just these trees, and this generation.
func has(t *testing.T, what string, s *store.Store, want named, gen int) {
	t.Helper()
	if !slices.Equal(s.Names(), slices.Sorted(maps.Keys(want))) || s.Gen() != gen {
		t.Fatalf("%s: names %q, generation %d, want %q, %d", what, s.Names(), s.Gen(), slices.Sorted(maps.Keys(want)), gen)
	}
	for name, items := range want {
		list, e := s.Range(name, "", "", len(items)+1)
		if e != api.OK || !slices.Equal(list, itemsOf(items, "", "", len(items))) {
			t.Fatalf("%s: Range of %q: %q, error %d, want %q", what, name, list, e, items)
		}
	}
}

// is asks whether a store is as it is to be, and has so much room.
func is(t *testing.T, what string, s *store.Store, p *plain, room int) {
	t.Helper()
	has(t, what, s, p.now, p.gen)
	if s.Room() != room {
		t.Fatalf("%s: room %d, want %d", what, s.Room(), room)
	}
}

// filled is a fresh store with a tree for each name, of some items.
func filled(t *testing.T, sectors, items int, names ...string) (*store.Store, *disk.Disk, *plain) {
	t.Helper()
	s, d := formatted(t, sectors)
	p := newPlain()
	for _, name := range names {
		does(t, "P10.1", s, p, op{kind: makes, name: name})
		for i := range items {
			does(t, "P10.1", s, p, op{kind: puts, name: name, key: "k" + digits(i, 2), value: long(name, 50)})
		}
	}
	does(t, "P10.1", s, p, op{kind: commits})
	return s, d, p
}

func TestTheChaptersExample(t *testing.T) {
	s, d := formatted(t, 100)
	wants(t, "Make", s.Make("t"), api.OK)
	wants(t, "Put", s.Put("t", "a", "1"), api.OK)
	wants(t, "Commit", s.Commit(), api.OK)
	if s.Gen() != 2 {
		t.Error("P10.1: Gen", s.Gen())
	}
	wants(t, "Put", s.Put("t", "a", "2"), api.OK)
	if value, is, e := s.Get("t", "a"); value != "2" || !is || e != api.OK {
		t.Error("P10.1: as it is now", value, is, e)
	}
	m := mounted(t, "P10.2", d.Crash([]int{1, 1, 1, 1, 1, 1, 1}))
	if value, is, e := m.Get("t", "a"); value != "1" || !is || e != api.OK || m.Gen() != 2 {
		t.Error("P10.2: behind a crash", value, is, e)
	}
}

func TestANilStore(t *testing.T) {
	var s *store.Store
	_, _, get := s.Get("t", "a")
	items, ranged := s.Range("t", "", "", 1)
	changes, read, diff := s.Diff("t", "t")
	for i, e := range []api.Errno{get, ranged, diff, s.Make(""), s.Copy("t", ""), s.Remove("t"), s.Put("t", "", ""), s.Delete("t", "a"), s.Commit(), s.Abort()} {
		if e != api.ErrNil {
			t.Errorf("P10.1: a nil store: call %d: error %d", i, e)
		}
	}
	if len(s.Names()) != 0 || s.Gen() != 0 || s.Room() != 0 || len(items) != 0 || len(changes) != 0 || read != 0 {
		t.Error("P10.1: a nil store: not zeros")
	}
}

func TestFormatOfDisksThatMayNotBe(t *testing.T) {
	refuses := func(what string, d *disk.Disk, want api.Errno) {
		t.Helper()
		if s, e := store.Format(d); s != nil || e != want {
			t.Errorf("P10.1: Format of %s: %v, error %d, want %d", what, s, e, want)
		}
	}
	refuses("no disk", nil, api.ErrNil)
	for sectors := range 8 {
		if sectors > 0 {
			refuses("a small disk", blank(t, sectors), api.ErrSmall)
			down := blank(t, sectors)
			cut(down)
			refuses("a small disk without power", down, api.ErrSmall)
		}
	}
	down := blank(t, 8)
	cut(down)
	refuses("a disk without power", down, api.ErrDown)
	for calls := 0; ; calls++ {
		d := blank(t, 8)
		d.Power(calls)
		if _, e := store.Format(d); e == api.OK {
			if calls == 0 || d.Open() != 0 {
				t.Error("P10.1: Format doesn't flush", calls, d.Open())
			}
			break
		}
		d = blank(t, 8)
		d.Power(calls)
		refuses("a disk whose power goes", d, api.ErrDown)
	}
}

// cut has a disk be without power.
func cut(d *disk.Disk) {
	d.Power(0)
	d.Flush()
}

func TestFormatMakesAStoreWithoutTrees(t *testing.T) {
	for _, sectors := range []int{8, 9, 16, 1000, 4096} {
		s, d := formatted(t, sectors)
		is(t, "P10.1: Format", s, newPlain(), sectors-2)
		is(t, "P10.1: Format, mounted", mounted(t, "P10.1", d), newPlain(), sectors-2)
		is(t, "P10.1: Format, behind a crash", mounted(t, "P10.1", d.Crash(nil)), newPlain(), sectors-2)
	}
}

func TestFormatOverWhatWasThere(t *testing.T) {
	for commits := range 4 {
		s, d, _ := filled(t, 60, 9, "t", "u")
		for range commits {
			wants(t, "Commit", s.Commit(), api.OK)
		}
		s.Put("t", "more", "1") // and something is open
		s, e := store.Format(d)
		wants(t, "P10.1: Format of a disk with a store", e, api.OK)
		is(t, "P10.1: Format over a store", s, newPlain(), 58)
		is(t, "P10.1: Format over a store, mounted", mounted(t, "P10.1", d.Crash(nil)), newPlain(), 58)
	}
	for _, gen := range []int{0, 1, 2, 3, mostGen - 1, mostGen} {
		d := blank(t, 10)
		writeSuper(t, d, api.Super{Gen: gen, Sectors: 10})
		s, e := store.Format(d)
		wants(t, "P10.1: Format over a super", e, api.OK)
		is(t, "P10.1: Format over a super", s, newPlain(), 8)
		m := mounted(t, "P10.1", d)
		is(t, "P10.1: Format over a super, mounted", m, newPlain(), 8)
		wants(t, "P10.1: Commit", m.Commit(), api.OK)
		if m := mounted(t, "P10.1", d.Crash(nil)); m.Gen() != 2 {
			t.Error("P10.1: Format over a super, and a commit: Gen", m.Gen())
		}
	}
}

func TestNamesOfTrees(t *testing.T) {
	s, d := formatted(t, 60)
	p := newPlain()
	wants(t, "Make", s.Make("from"), p.made("from"))
	for _, name := range []string{"", "a", "\x00", "\xff\xfe", "a/b", " ", "ab", "B", "é", strings.Repeat("n", 63), strings.Repeat("n", 64), strings.Repeat("n", 65), strings.Repeat("n", 1000)} {
		does(t, "P10.1: a name", s, p, op{kind: makes, name: name})
		does(t, "P10.1: a name", s, p, op{kind: puts, name: name, key: "whose", value: name[:min(len(name), 100)]})
		for _, end := range []string{"+", "copied", strings.Repeat("m", 60), strings.Repeat("m", 63), strings.Repeat("m", 64)} {
			does(t, "P10.1: a name", s, p, op{kind: copies, name: "from", to: name + end})
		}
		does(t, "P10.1: a name", s, p, op{kind: copies, name: "from", to: name})
		does(t, "P10.1: a name", s, p, op{kind: copies, name: name, to: ""})
	}
	does(t, "P10.1", s, p, op{kind: commits})
	has(t, "P10.1: names, mounted", mounted(t, "P10.1", d.Crash(nil)), p.now, 2)
}

func TestTheOrderOfErrors(t *testing.T) {
	s, _, p := filled(t, 60, 3, "t", "u")
	bad := strings.Repeat("n", 65)
	key, value := strings.Repeat("k", 273), strings.Repeat("v", 161)
	for _, o := range []op{
		{kind: makes, name: ""}, {kind: makes, name: bad}, {kind: makes, name: "t"},
		{kind: copies, name: "x", to: ""}, {kind: copies, name: "", to: "t"}, {kind: copies, name: bad, to: "new"}, {kind: copies, name: "x", to: "t"},
		{kind: copies, name: "t", to: ""}, {kind: copies, name: "t", to: bad}, {kind: copies, name: "t", to: "t"}, {kind: copies, name: "t", to: "u"},
		{kind: removes, name: ""}, {kind: removes, name: "x"}, {kind: removes, name: bad},
		{kind: puts, name: "x"}, {kind: puts, name: "", key: key, value: value}, {kind: puts, name: "t", value: value}, {kind: puts, name: "t", key: key, value: value}, {kind: puts, name: "t", key: "a", value: value},
		{kind: puts, name: "t", key: key[1:], value: value[1:]}, {kind: puts, name: "t", key: "a"},
		{kind: deletes, name: "x", key: "a"}, {kind: deletes, name: "", key: ""}, {kind: deletes, name: "t", key: ""}, {kind: deletes, name: "t", key: key}, {kind: deletes, name: "t", key: "not there"},
	} {
		does(t, "P10.1: errors", s, p, o)
		has(t, "P10.1: errors", s, p.now, 2)
	}
}

func TestAskingTreesThatAreNotThere(t *testing.T) {
	s, _, _ := filled(t, 60, 3, "t")
	for _, name := range []string{"", "x", "T", "t ", strings.Repeat("n", 65)} {
		if value, is, e := s.Get(name, "k00"); value != "" || is || e != api.ErrNoTree {
			t.Errorf("P10.1: Get of no tree: %q, %v, error %d", value, is, e)
		}
		if items, e := s.Range(name, "", "", 9); len(items) != 0 || e != api.ErrNoTree {
			t.Errorf("P10.1: Range of no tree: %q, error %d", items, e)
		}
		for _, pair := range [][2]string{{name, "t"}, {"t", name}, {name, name}} {
			if changes, read, e := s.Diff(pair[0], pair[1]); len(changes) != 0 || read != 0 || e != api.ErrNoTree {
				t.Errorf("P10.1: Diff of no tree: %v, %d, error %d", changes, read, e)
			}
		}
	}
}

func TestAsManyTreesAsMayBe(t *testing.T) {
	s, d := formatted(t, 400)
	p := newPlain()
	does(t, "P10.1: 200 trees", s, p, op{kind: makes, name: "from"})
	does(t, "P10.1: 200 trees", s, p, op{kind: puts, name: "from", key: "a", value: "1"})
	for i := range 199 {
		o := op{kind: copies, name: "from", to: long(digits(i, 3), 64)}
		if i%2 == 0 {
			o = op{kind: makes, name: long(digits(i, 3), i%64)}
		}
		does(t, "P10.1: 200 trees", s, p, o)
	}
	if len(s.Names()) != 200 {
		t.Fatal("P10.1: names", len(s.Names()))
	}
	over := []op{{kind: makes, name: "more"}, {kind: copies, name: "from", to: "more"}, {kind: makes, name: "from"}, {kind: makes, name: ""}, {kind: copies, name: "from", to: "from"}, {kind: copies, name: "from", to: ""}, {kind: copies, name: "x", to: "more"}}
	for _, o := range over {
		does(t, "P10.1: more trees than may be", s, p, o)
	}
	has(t, "P10.1: 200 trees", s, p.now, 1)
	does(t, "P10.1: 200 trees", s, p, op{kind: commits})
	m := mounted(t, "P10.1: 200 trees", d.Crash(nil))
	is(t, "P10.1: 200 trees, mounted", m, p, s.Room())
	for _, o := range over {
		does(t, "P10.1: more trees than may be, mounted", m, p, o)
	}
	does(t, "P10.1: one tree less", m, p, op{kind: removes, name: "000"})
	does(t, "P10.1: one tree less", m, p, op{kind: makes, name: "more"})
	does(t, "P10.1: one tree less", m, p, op{kind: makes, name: "000"})
	has(t, "P10.1: one tree less, and one more", m, p.now, 2)
}

func TestDiffReadsFewBlocks(t *testing.T) {
	s, _, _ := filled(t, 600, 90, "t")
	wants(t, "Copy", s.Copy("t", "u"), api.OK)
	for _, pair := range [][2]string{{"t", "t"}, {"t", "u"}} {
		if changes, read, e := s.Diff(pair[0], pair[1]); len(changes) != 0 || read != 0 || e != api.OK {
			t.Errorf("P10.1: Diff of what is the same: %v, %d, error %d", changes, read, e)
		}
	}
	wants(t, "Put", s.Put("u", "k50", "other"), api.OK)
	changes, read, e := s.Diff("t", "u")
	if len(changes) != 1 || changes[0].Key != "k50" || changes[0].New != "other" || read < 2 || read > 128 || e != api.OK {
		t.Errorf("P10.1: Diff of one change: %v, %d, error %d", changes, read, e)
	}
}
