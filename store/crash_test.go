package store_test

import (
	"maps"
	"slices"
	"testing"

	"coppice/api"
	"coppice/disk"
	"coppice/store"
)

// fall is what was known of a store when its power went.
type fall struct {
	d    *disk.Disk
	last named
	gen  int
	next named // what a commit was under way of; nil: there was none
}

// falls has a store that is mounted do these, until its power goes behind so many calls of its disk. It is nil, if the power stays to the end.
func falls(t *testing.T, d *disk.Disk, p *plain, list []op, calls int) *fall {
	t.Helper()
	s := mounted(t, "P10.2", d)
	p = &plain{p.last.copied(), p.last.copied(), p.gen}
	d.Power(calls)
	for _, o := range list {
		before := p.now.copied()
		last, gen := p.last, p.gen
		want := o.plainly(p)
		e := o.of(s)
		if e == api.ErrDown {
			isDown(t, s)
			f := &fall{d: d, last: last, gen: gen}
			if o.kind == commits {
				f.next = before
			}
			return f
		}
		wants(t, "P10.2: ahead of the power's end", e, want)
	}
	return nil
}

// isDown asks whether all calls of a store answer that the power is gone.
func isDown(t *testing.T, s *store.Store) {
	t.Helper()
	value, is, get := s.Get("t", "k00")
	items, ranged := s.Range("t", "", "", 9)
	changes, read, diff := s.Diff("t", "u")
	for i, e := range []api.Errno{get, ranged, diff, s.Make(""), s.Make("new"), s.Copy("t", "new"), s.Copy("x", ""), s.Remove("t"), s.Remove("x"), s.Put("t", "a", "1"), s.Put("x", "", ""), s.Delete("t", "k00"), s.Delete("x", ""), s.Commit(), s.Abort()} {
		if e != api.ErrDown {
			t.Fatalf("P10.2: without power: call %d: error %d", i, e)
		}
	}
	if value != "" || is || len(items) != 0 || len(changes) != 0 || read != 0 || len(s.Names()) != 0 || s.Gen() != 0 || s.Room() != 0 {
		t.Fatal("P10.2: without power: not zeros")
	}
}

// rises asks whether what is mounted behind a crash is what was committed last, or what a commit was under way of, and the same each time. It answers what it is.
func (f *fall) rises(t *testing.T, what string, crashed *disk.Disk) *plain {
	t.Helper()
	s := mounted(t, what, crashed)
	p := &plain{now: f.last, last: f.last, gen: f.gen}
	if f.next != nil && s.Gen() == f.gen+1 {
		p = &plain{now: f.next, last: f.next, gen: f.gen + 1}
	}
	has(t, what, s, p.now, p.gen)
	room := s.Room()
	is(t, what+", mounted again", mounted(t, what, crashed), p, room)
	is(t, what+", behind another crash", mounted(t, what, crashed.Crash(nil)), p, room)
	return p
}

// fatesOf is fates of so many open writes: all are lost, or done; one alone is, or is torn; and by chance.
func fatesOf(next func(int) int, open int) [][]int {
	list := [][]int{nil, slices.Repeat([]int{1}, open)}
	for _, torn := range []int{0, 1, 1024, 1025, 1024 + 13, 1024 + 21, 1024 + 29, 1024 + 37, 1024 + 200, 1024 + 1020, 2047, 3 << 20} {
		fates := slices.Repeat([]int{next(2)}, open)
		if open > 0 {
			fates[[]int{open - 1, next(open)}[next(2)]] = torn
		}
		list = append(list, fates)
	}
	for range 5 {
		var fates []int
		for range next(open + 1) {
			fates = append(fates, []int{0, 1, 1024 + next(1024), -next(9), 2 + next(1022)}[next(5)])
		}
		list = append(list, fates)
	}
	return list
}

// scripted is operations by a seed, as they would be done to a store that has these trees.
func scripted(p *plain, seed uint64, count int) []op {
	m := makerOf(seed)
	m.calm = 6
	for _, name := range slices.Sorted(maps.Keys(p.now)) {
		m.names = append(m.names, name)
	}
	shadow := &plain{p.now.copied(), p.last.copied(), p.gen}
	var list []op
	for range count {
		o := m.step(shadow)
		o.plainly(shadow)
		list = append(list, o)
	}
	return list
}

func TestWhereverThePowerGoes(t *testing.T) {
	for seed := range uint64(7) {
		t.Run("script "+digits(int(seed), 1), func(t *testing.T) {
			t.Parallel()
			next := numbers(seed)
			_, base, p := filled(t, 500, []int{2, 9, 20}[next(3)], "t", "u", "v")
			list := scripted(p, seed, 25)
			old, made := 0, 0
			for calls := 0; ; calls++ {
				f := falls(t, base.Copy(), p, list, calls)
				if f == nil {
					break
				}
				for _, fates := range fatesOf(next, f.d.Open()) {
					crashed := f.d.Crash(fates)
					now := f.rises(t, "P10.2: a crash", crashed)
					if now.gen > f.gen {
						made++
					} else if f.next != nil {
						old++
					}
					if next(4) == 0 {
						fallsAgain(t, next, crashed, now)
					}
				}
			}
			if old == 0 || made == 0 {
				t.Error("the test itself is wrong: crashes within a commit", old, made)
			}
		})
	}
}

// fallsAgain has what was mounted behind a crash go on, and fall once more.
func fallsAgain(t *testing.T, next func(int) int, d *disk.Disk, p *plain) {
	t.Helper()
	f := falls(t, d, p, scripted(p, uint64(next(1000)), 12), next(14))
	if f == nil {
		return
	}
	for _, fates := range fatesOf(next, f.d.Open())[next(9):][:6] {
		f.rises(t, "P10.2: a second crash", f.d.Crash(fates))
	}
}

func TestASuperThatIsTorn(t *testing.T) {
	_, base, p := filled(t, 100, 5, "t", "u")
	torn, whole := 0, 0
	for round := range 4 { // each of the slots, of a store that was committed once more and twice
		if round%2 == 1 {
			wants(t, "Commit", mounted(t, "P10.2", base).Commit(), api.OK)
			p.gen++
		}
		list := []op{{kind: puts, name: "t", key: "new", value: digits(round, 3)}, {kind: removes, name: "u"}, {kind: commits}}
		for calls := 0; ; calls++ {
			f := falls(t, base.Copy(), p, list, calls)
			if f == nil {
				break
			}
			if f.next == nil || f.d.Open() != 1 {
				continue
			}
			for bytes := range 1024 {
				crashed := f.d.Crash([]int{1024 + bytes})
				if now := f.rises(t, "P10.2: a torn super", crashed); now.gen > f.gen {
					whole++
				} else {
					torn++
				}
				if bytes%97 == 0 { // the next super comes over the torn one
					s := mounted(t, "P10.2", crashed)
					wants(t, "Put", s.Put("t", "other", "1"), api.OK)
					wants(t, "Commit", s.Commit(), api.OK)
					if v, _, e := mounted(t, "P10.2", crashed.Crash(nil)).Get("t", "other"); v != "1" || e != api.OK {
						t.Fatalf("P10.2: a commit behind a torn one: %q, error %d", v, e)
					}
				}
			}
			if f.rises(t, "P10.2: a whole super", f.d.Crash([]int{1})).gen > f.gen {
				whole++
			}
		}
	}
	if torn == 0 || whole == 0 {
		t.Error("the test itself is wrong: torn and whole supers", torn, whole)
	}
}

func TestACommitIsThereForGood(t *testing.T) {
	s, d, p := filled(t, 200, 9, "t", "u")
	for i := range 12 {
		does(t, "P10.2", s, p, op{kind: puts, name: "t", key: "k", value: digits(i, 1)})
		does(t, "P10.2", s, p, op{kind: commits})
		if d.Open() != 0 {
			t.Fatal("P10.2: Commit is OK, and writes are open:", d.Open())
		}
		has(t, "P10.2: behind a commit", mounted(t, "P10.2", d.Crash(nil)), p.now, p.gen)
		cutOff := d.Copy()
		cut(cutOff)
		has(t, "P10.2: the power goes behind a commit", mounted(t, "P10.2", cutOff.Crash(nil)), p.now, p.gen)
	}
}

func TestACommitThatIsRefusedForWantOfRoomIsNoCommit(t *testing.T) {
	s, d, p := filled(t, 20, 1, "t")
	for i := 0; s.Room() > 0; i++ {
		name := "full" + digits(i, 3)
		does(t, "P10.1", s, p, op{kind: makes, name: name})
		if !tries(t, "P10.1", s, p, op{kind: puts, name: name, key: "a", value: "1"}) {
			break
		}
	}
	if tries(t, "P10.1: a disk that is full", s, p, op{kind: commits}) {
		t.Fatal("the test itself is wrong: there is room for a commit")
	}
	for _, fates := range [][]int{nil, slices.Repeat([]int{1}, d.Open())} {
		has(t, "P10.2: a commit that was refused", mounted(t, "P10.2", d.Crash(fates)), p.last, p.gen)
	}
	for i := range 4 {
		does(t, "P10.1: room again", s, p, op{kind: removes, name: "full" + digits(i, 3)})
	}
	if !tries(t, "P10.1: room again", s, p, op{kind: commits}) {
		t.Error("P10.1: Commit of few trees with some sectors free", s.Room())
	}
	has(t, "P10.2: a commit", mounted(t, "P10.2", d.Crash(nil)), p.now, p.gen)
}

func TestEachCallThatMeetsThatThePowerIsGone(t *testing.T) {
	for what, call := range map[string]func(s *store.Store) api.Errno{
		"Get":    func(s *store.Store) api.Errno { _, _, e := s.Get("t", "k00"); return e },
		"Range":  func(s *store.Store) api.Errno { _, e := s.Range("t", "", "", 9); return e },
		"Diff":   func(s *store.Store) api.Errno { _, _, e := s.Diff("t", "u"); return e },
		"Put":    func(s *store.Store) api.Errno { return s.Put("t", "a", "1") },
		"Delete": func(s *store.Store) api.Errno { return s.Delete("t", "k00") },
		"Commit": func(s *store.Store) api.Errno { return s.Commit() },
	} {
		s, d, p := filled(t, 60, 9, "t", "u")
		cut(d)
		wants(t, "P10.2: "+what+" without power", call(s), api.ErrDown)
		isDown(t, s)
		has(t, "P10.2: "+what+" without power, and a crash", mounted(t, "P10.2", d.Crash(nil)), p.last, p.gen)
	}
}
