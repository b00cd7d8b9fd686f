package store_test

import (
	"strings"
	"testing"

	"coppice/api"
	"coppice/super"
)

func TestWhatStandsOnTheDisk(t *testing.T) {
	for seed := range uint64(20) {
		m, p := makerOf(seed), newPlain()
		s, d := formatted(t, 700)
		for range 60 {
			o := m.step(p)
			does(t, "P10.1", s, p, o)
			v := judged(d)
			wants(t, "P10.1: what stands on the disk", v.may[0], api.OK)
			if v.gen != p.gen || s.Room() > 698-len(v.held) {
				t.Fatalf("P10.1: on the disk: generation %d, want %d; room %d, held %d", v.gen, p.gen, s.Room(), len(v.held))
			}
			has(t, "P10.1: what stands on the disk", mounted(t, "P10.1", d), v.want, p.gen)
			if o.kind != commits {
				continue
			}
			sector, _ := d.Read(p.gen % 2)
			if from, e := super.Open(sector); e != api.OK || from.Gen != p.gen || from.Sectors != 700 || (from.Root == 0) != (len(p.now) == 0) {
				t.Fatalf("P10.1: in the slot of generation %d: %+v, error %d", p.gen, from, e)
			}
			sector, _ = d.Read(1 - p.gen%2)
			if from, e := super.Open(sector); p.gen > 2 && (e != api.OK || from.Gen != p.gen-1) {
				t.Fatalf("P10.2: in the other slot of generation %d: %+v, error %d", p.gen, from, e)
			}
		}
	}
}

func TestGenerationsUpToTheGreatest(t *testing.T) {
	d := blank(t, 30)
	writeNode(t, d, 2, 3, leaf("t", at(3)))
	writeNode(t, d, 3, 3, leaf("a", "1"))
	writeSuper(t, d, api.Super{Gen: mostGen - 4, Root: 2, Sectors: 30})
	s := mounted(t, "P10.1: a great generation", d)
	p := &plain{named{"t": {"a": "1"}}, named{"t": {"a": "1"}}, mostGen - 4}
	is(t, "P10.1: a great generation", s, p, 26)
	for i := range 3 {
		does(t, "P10.1: a great generation", s, p, op{kind: puts, name: "t", key: "a", value: digits(i, 1)})
		does(t, "P10.1: a great generation", s, p, op{kind: commits})
		is(t, "P10.1: a great generation", s, p, 26)
		is(t, "P10.1: a great generation, mounted", mounted(t, "P10.1", d.Crash(nil)), p, 26)
	}
	if p.gen != mostGen-1 {
		t.Fatal("the test itself is wrong", p.gen)
	}
	for _, o := range []op{{kind: commits}, {kind: puts, name: "t", key: "b", value: "2"}, {kind: commits}, {kind: copies, name: "t", to: "u"}, {kind: commits}, {kind: commits}} {
		does(t, "P10.1: the last generation", s, p, o)
		has(t, "P10.1: the last generation", s, p.now, mostGen-1)
	}
	m := mounted(t, "P10.1: the last generation", d.Crash(nil))
	has(t, "P10.1: the last generation, mounted", m, p.last, mostGen-1)
	wants(t, "P10.1: Commit of the last generation, mounted", m.Commit(), api.ErrMany)
	does(t, "P10.1: the last generation", s, p, op{kind: aborts})
	is(t, "P10.1: the last generation, aborted", s, p, 26)
	for i := range 30 { // ErrMany stands ahead of ErrNoSpace
		s.Make(digits(i, 2))
		s.Put(digits(i, 2), "a", strings.Repeat("v", 160))
	}
	if s.Room() != 0 {
		t.Fatal("the test itself is wrong: room", s.Room())
	}
	wants(t, "P10.1: Commit of the last generation without room", s.Commit(), api.ErrMany)
	for _, name := range s.Names() {
		wants(t, "Remove", s.Remove(name), api.OK)
	}
	wants(t, "P10.1: Commit of the last generation without trees", s.Commit(), api.ErrMany)
}
