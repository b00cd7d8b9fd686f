package store_test

import (
	"maps"
	"slices"
	"strings"
	"testing"

	"coppice/api"
	"coppice/disk"
	"coppice/store"
)

// Kinds of operations.
const (
	makes = iota
	copies
	removes
	puts
	deletes
	commits
	aborts
)

// op is a call that changes something.
type op struct {
	kind       int
	name, to   string
	key, value string
}

// of has a store do it.
func (o op) of(s *store.Store) api.Errno {
	switch o.kind {
	case makes:
		return s.Make(o.name)
	case copies:
		return s.Copy(o.name, o.to)
	case removes:
		return s.Remove(o.name)
	case puts:
		return s.Put(o.name, o.key, o.value)
	case deletes:
		return s.Delete(o.name, o.key)
	case commits:
		return s.Commit()
	}
	return s.Abort()
}

// plainly has it done to named lists.
func (o op) plainly(p *plain) api.Errno {
	switch o.kind {
	case makes:
		return p.made(o.name)
	case copies:
		return p.copiedTo(o.name, o.to)
	case removes:
		return p.removed(o.name)
	case puts:
		return p.put(o.name, o.key, o.value)
	case deletes:
		return p.deleted(o.name, o.key)
	case commits:
		return p.committed()
	}
	return p.aborted()
}

// does has a store do it where there is room, and asks whether it answers what it is to.
func does(t *testing.T, what string, s *store.Store, p *plain, o op) {
	t.Helper()
	want := o.plainly(p)
	if e := o.of(s); e != want {
		t.Fatalf("%s: %+v: error %d, want %d", what, o, e, want)
	}
}

// tries has a store do it where there may be no room, and tells whether it was done.
func tries(t *testing.T, what string, s *store.Store, p *plain, o op) bool {
	t.Helper()
	was, room := p.now.copied(), s.Room()
	e := o.of(s)
	if e != api.ErrNoSpace {
		if wants(t, what, e, o.plainly(p)); o.kind == commits && room-s.Room() > 64 {
			t.Fatalf("P10.1: %s: a commit takes %d sectors", what, room-s.Room())
		}
		return true
	}
	if !mayWantRoom(o, room, len(was)) {
		t.Fatalf("P10.1: %s: %+v: ErrNoSpace with %d free, %d trees", what, o, room, len(was))
	}
	has(t, what+": ErrNoSpace, by which nothing has changed", s, was, p.gen)
	if s.Room() != room {
		t.Fatalf("%s: %+v: ErrNoSpace: room %d, was %d", what, o, s.Room(), room)
	}
	return false
}

// mayWantRoom tells whether an operation may be refused for want of room. (The inside tests ask how many levels a tree has.)
func mayWantRoom(o op, room, trees int) bool {
	switch o.kind {
	case puts, deletes:
		return room < 64
	case commits:
		return trees > 0 && room < 256 && room < trees+16
	}
	return false
}

// maker makes operations by chance.
type maker struct {
	next  func(below int) int
	names []string // of trees
	keys  int      // that there are
	calm  int      // how many operations there are for each Commit or Abort
}

// step is an operation, mostly of trees that are there.
func (m maker) step(p *plain) op {
	o := op{name: m.name(), to: m.name(), key: m.key(), value: strings.Repeat("v", m.next(40))}
	if there := slices.Sorted(maps.Keys(p.now)); len(there) > 0 && m.next(8) > 0 {
		o.name = there[m.next(len(there))]
	}
	switch roll := m.next(40); {
	case m.next(m.calm) == 0:
		o.kind = commits
		if m.next(4) == 0 {
			o.kind = aborts
		}
	case roll < 4:
		o.kind, o.name = makes, m.name()
	case roll < 9:
		o.kind = copies
	case roll < 12:
		o.kind = removes
	case roll < 30:
		o.kind = puts
	default:
		o.kind = deletes
	}
	return o
}

// name is a tree's name, and now and then none.
func (m maker) name() string {
	if m.next(50) == 0 {
		return []string{"", strings.Repeat("n", 65)}[m.next(2)]
	}
	return m.names[m.next(len(m.names))]
}

// key is a key, and now and then none.
func (m maker) key() string {
	if m.next(50) == 0 {
		return []string{"", strings.Repeat("k", 273)}[m.next(2)]
	}
	return long(digits(m.next(m.keys), 3), []int{3, 3, 60, 200}[m.next(4)])
}

// makerOf is one that makes operations by a seed.
func makerOf(seed uint64) maker {
	next := numbers(seed)
	m := maker{next: next, keys: []int{3, 20, 200}[next(3)], calm: 5 + next(30)}
	for i := range 2 + next(9) {
		m.names = append(m.names, long(digits(i, 1), []int{1, 20, 64}[next(3)]))
	}
	return m
}

func TestScriptsOfAllCalls(t *testing.T) {
	t.Parallel()
	for seed := range uint64(60) {
		m, p := makerOf(seed), newPlain()
		s, d := formatted(t, 2000)
		for range 150 {
			room := s.Room()
			o := m.step(p)
			does(t, "P10.1: a script", s, p, o)
			has(t, "P10.1: a script", s, p.now, p.gen)
			if o.kind == commits && s.Room() < room-64 {
				t.Fatalf("P10.1: a commit takes %d sectors", room-s.Room())
			}
			asks(t, m, s, p)
		}
		comesBack(t, d, s, p)
	}
}

// asks asks some of what a store tells of trees.
func asks(t *testing.T, m maker, s *store.Store, p *plain) {
	t.Helper()
	there := slices.Sorted(maps.Keys(p.now))
	if len(there) == 0 {
		return
	}
	a, b, from, to, most := there[m.next(len(there))], there[m.next(len(there))], m.key(), m.key(), m.next(12)-2
	value, is, e := s.Get(a, from)
	if want, there := p.now[a][from]; value != want || is != there || e != api.OK {
		t.Fatalf("P10.1: Get(%q, %q): %q, %v, error %d, want %q, %v", a, from, value, is, e, want, there)
	}
	items, e := s.Range(a, from, to, most)
	if e != api.OK || !slices.Equal(items, itemsOf(p.now[a], from, to, most)) {
		t.Fatalf("P10.1: Range(%q, %q, %q, %d): %q, error %d", a, from, to, most, items, e)
	}
	changes, _, e := s.Diff(a, b)
	if e != api.OK || !slices.Equal(changes, changesOf(p.now[a], p.now[b])) {
		t.Fatalf("P10.1: Diff(%q, %q): %v, error %d", a, b, changes, e)
	}
}

// comesBack asks whether what was committed is mounted, and by Abort, and whether all is free in the end.
func comesBack(t *testing.T, d *disk.Disk, s *store.Store, p *plain) {
	t.Helper()
	m := mounted(t, "P10.2", d.Crash(nil))
	has(t, "P10.2: mounted", m, p.last, p.gen)
	wants(t, "P10.1: Abort", s.Abort(), p.aborted())
	is(t, "P10.1: Abort", s, p, m.Room())
	for i, one := range []*store.Store{s, m} {
		p := &plain{p.now.copied(), p.last.copied(), p.gen}
		for _, name := range one.Names() {
			does(t, "P10.4", one, p, op{kind: removes, name: name})
		}
		does(t, "P10.4", one, p, op{kind: commits})
		is(t, "P10.4: all trees are removed, store "+digits(i, 1), one, p, d.Sectors()-2)
	}
	is(t, "P10.4: all trees are removed, mounted", mounted(t, "P10.4", d.Crash(nil)), &plain{named{}, named{}, p.gen + 1}, d.Sectors()-2)
}

func TestAbort(t *testing.T) {
	s, _, p := filled(t, 300, 20, "t", "u", "v")
	room := s.Room()
	for what, list := range map[string][]op{
		"nothing":  nil,
		"changes":  {{kind: puts, name: "t", key: "k01", value: "x"}, {kind: deletes, name: "u", key: "k02"}, {kind: puts, name: "v", key: "new"}},
		"copies":   {{kind: copies, name: "t", to: "w"}, {kind: copies, name: "w", to: "x"}, {kind: puts, name: "w", key: "k03", value: "w"}, {kind: removes, name: "t"}},
		"removals": {{kind: removes, name: "t"}, {kind: removes, name: "u"}, {kind: removes, name: "v"}},
		"others":   {{kind: removes, name: "t"}, {kind: makes, name: "t"}, {kind: puts, name: "t", key: "k01", value: "y"}, {kind: makes, name: "z"}},
	} {
		for _, o := range list {
			does(t, "P10.1", s, p, o)
		}
		does(t, "P10.1: Abort behind "+what, s, p, op{kind: aborts})
		is(t, "P10.1: Abort behind "+what, s, p, room)
		does(t, "P10.1: Abort twice", s, p, op{kind: aborts})
		is(t, "P10.1: Abort twice", s, p, room)
	}
	fresh, _ := formatted(t, 50)
	wants(t, "Make", fresh.Make("t"), api.OK)
	wants(t, "Put", fresh.Put("t", "a", "1"), api.OK)
	wants(t, "P10.1: Abort of a store without a commit", fresh.Abort(), api.OK)
	is(t, "P10.1: Abort of a store without a commit", fresh, newPlain(), 48)
}
