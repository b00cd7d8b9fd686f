package super_test

import (
	"slices"
	"strings"
	"testing"

	"coppice/api"
	"coppice/super"
)

// choice is what Choose answers by the chapter's words.
func choice(zero, one string) (api.Super, api.Errno) {
	var found []api.Super
	if s, e := super.Open(zero); e == api.OK && s.Gen%2 == 0 {
		found = append(found, s)
	}
	if s, e := super.Open(one); e == api.OK && s.Gen%2 == 1 {
		found = append(found, s)
	}
	if len(found) == 0 {
		return api.Super{}, api.ErrSuper
	}
	return slices.MaxFunc(found, func(a, b api.Super) int { return a.Gen - b.Gen }), api.OK
}

// chooses asks whether Choose answers that super.
func chooses(t *testing.T, what, zero, one string, want api.Super) {
	t.Helper()
	if s, e := super.Choose(zero, one); e != api.OK || s != want {
		t.Errorf("%s: Choose: %+v, error %d, want %+v", what, s, e, want)
	}
}

// choosesNone asks whether Choose answers that there is none.
func choosesNone(t *testing.T, what, zero, one string) {
	t.Helper()
	if s, e := super.Choose(zero, one); e != api.ErrSuper || s != (api.Super{}) {
		t.Errorf("%s: Choose: %+v, error %d, want ErrSuper alone", what, s, e)
	}
}

// spoilt is a sector with a byte of it turned.
func spoilt(sector string, at int) string {
	return sector[:at] + string([]byte{sector[at] ^ 0xFF}) + sector[at+1:]
}

func TestTheChaptersExamples(t *testing.T) {
	if super.Slot(5) != 1 {
		t.Error("P9.1: Slot of 5")
	}
	four, five := api.Super{Gen: 4, Root: 2, Sectors: 16}, api.Super{Gen: 5, Root: 3, Sectors: 16}
	bad := "x" + plain(four)[1:]
	chooses(t, "P9.1: a spoilt sector and Gen 5's", bad, plain(five), five)
	chooses(t, "P9.1: Gen 4's and Gen 5's", plain(four), plain(five), five)
	choosesNone(t, "P9.1: Gen 5's in the slot 0 and nothing", plain(five), "")
	choosesNone(t, "P9.1: Gen 5's in the slot 0 and zeros", plain(five), zeros)
}

func TestChooseOfAllPairs(t *testing.T) {
	texts := []string{"", "x", zeros, zeros + "\x00", strings.Repeat("\xFF", 1024)}
	for _, s := range []api.Super{
		{Gen: 0, Sectors: 8}, {Gen: 1, Sectors: 8}, {Gen: 1, Root: 7, Sectors: 8}, {Gen: 2, Root: 2, Sectors: 4096},
		{Gen: 7, Root: 5, Sectors: 100}, {Gen: 8, Root: 6, Sectors: 100}, {Gen: 8, Root: 9, Sectors: 100}, {Gen: 9, Root: 5, Sectors: 100},
		{Gen: mostGen - 1, Root: 3, Sectors: 9}, {Gen: mostGen, Root: 4, Sectors: 9},
	} {
		texts = append(texts, plain(s), spoilt(plain(s), 20), plain(s)[1:])
	}
	texts = append(texts, sealed(8, 8, payload(2, 8, 8)), sealed(9, 8, payload(1, 8, 8)), sealed(9, 9, payload(2, 8, 8)))
	for _, zero := range texts {
		for _, one := range texts {
			want, err := choice(zero, one)
			if err == api.OK {
				chooses(t, "P9.1: a pair", zero, one, want)
			} else {
				choosesNone(t, "P9.1: a pair", zero, one)
			}
		}
	}
}

func TestChooseBySlots(t *testing.T) {
	even, odd := api.Super{Gen: 8, Root: 2, Sectors: 16}, api.Super{Gen: 5, Root: 3, Sectors: 16}
	chooses(t, "P9.1: both", plain(even), plain(odd), even)
	chooses(t, "P9.1: the slot 0 alone", plain(even), zeros, even)
	chooses(t, "P9.1: the slot 1 alone", zeros, plain(odd), odd)
	choosesNone(t, "P9.1: none", zeros, zeros)
	choosesNone(t, "P9.1: each in the other one's slot", plain(odd), plain(even))
	choosesNone(t, "P9.1: in the wrong slot, and nothing", zeros, plain(even))
	chooses(t, "P9.1: two that are alike", plain(even), plain(even), even)
	chooses(t, "P9.1: two that are alike", plain(odd), plain(odd), odd)
	newer := api.Super{Gen: 10, Root: 4, Sectors: 16}
	chooses(t, "P9.1: a newer one in the wrong slot", plain(even), plain(newer), even)
	chooses(t, "P9.1: a lesser root, and fewer sectors", plain(api.Super{Gen: 0, Root: 4000, Sectors: 4096}), plain(api.Super{Gen: 1, Sectors: 8}), api.Super{Gen: 1, Sectors: 8})
	chooses(t, "P9.1: Gen 0", plain(api.Super{Sectors: 8}), zeros, api.Super{Sectors: 8})
}

func TestATornSector(t *testing.T) {
	next := numbers(13)
	pairs := [][2]api.Super{
		{{Gen: 4, Root: 2, Sectors: 16}, {Gen: 5, Root: 3, Sectors: 16}},
		{{Gen: 4, Root: 2, Sectors: 16}, {Gen: 6, Root: 2, Sectors: 16}}, // one slot's by turns
		{{Gen: 0, Sectors: 8}, {Gen: mostGen, Root: 4095, Sectors: 4096}},
		{{Gen: 255, Root: 2, Sectors: 8}, {Gen: 256, Root: 2, Sectors: 8}},
		{{Gen: 1 << 40, Root: 0x0102, Sectors: 0x0203}, {Gen: 1<<40 + 2, Root: 0x0201, Sectors: 0x0302}},
	}
	for range 150 {
		a, b := chance(next), chance(next)
		if next(2) == 0 {
			b.Root, b.Sectors = a.Root, a.Sectors
		}
		if a.Gen != b.Gen {
			pairs = append(pairs, [2]api.Super{a, b})
		}
	}
	for _, pair := range pairs {
		first, second := wrapped(t, pair[0]), wrapped(t, pair[1])
		for cut := range 1025 {
			tearsWell(t, first, second, cut)
			tearsWell(t, second, first, cut)
		}
	}
}

// tearsWell asks what becomes of the first bytes of one sector and the others of another one.
func tearsWell(t *testing.T, first, second string, cut int) {
	t.Helper()
	torn := first[:cut] + second[cut:]
	s, e := super.Open(torn)
	if e == api.OK && torn != first && torn != second {
		t.Errorf("P9.3: torn behind %d bytes it opens: %+v", cut, s)
	}
	if e != api.OK && (torn == first || torn == second) {
		t.Errorf("P9.2: as long as it is one of the two it opens: error %d", e)
	}
}

func TestATornSectorWhoseSumFits(t *testing.T) { // by chance it may: what a super says twice tells it then
	a, b := api.Super{Gen: 4, Root: 2, Sectors: 16}, api.Super{Gen: 6, Root: 3, Sectors: 17}
	first, second := payload(a.Root, a.Sectors, a.Gen), payload(b.Root, b.Sectors, b.Gen)
	for cut := range 25 {
		torn := first[:cut] + second[cut:]
		if cut < 24 {
			wrongOpen(t, "P9.3: the generation of the one ahead", sealed(9, uint64(a.Gen), torn), api.ErrSuper)
		} else {
			opens(t, "P9.3: all of the one", sealed(9, uint64(a.Gen), torn), a)
		}
	}
}

func TestTheNewerOneOfTwo(t *testing.T) {
	for _, gen := range []int{0, 1, 2, 3, 254, 255, 256, 1<<32 - 1, 1 << 32, mostGen - 2, mostGen - 1} {
		elder, newer := api.Super{Gen: gen, Root: 9, Sectors: 16}, api.Super{Gen: gen + 1, Root: 8, Sectors: 16}
		slots := [2]string{}
		slots[gen%2], slots[1-gen%2] = wrapped(t, elder), wrapped(t, newer)
		chooses(t, "P9.4: both", slots[0], slots[1], newer)
		for at := range 1024 {
			bad := slots
			bad[1-gen%2] = spoilt(slots[1-gen%2], at)
			chooses(t, "P9.4: the newer one is spoilt", bad[0], bad[1], elder)
			bad = slots
			bad[gen%2] = spoilt(slots[gen%2], at)
			chooses(t, "P9.4: the elder one is spoilt", bad[0], bad[1], newer)
			bad[1-gen%2] = spoilt(slots[1-gen%2], 1023-at)
			choosesNone(t, "P9.4: both are spoilt", bad[0], bad[1])
		}
		tornOver(t, gen, slots, newer)
	}
}

// tornOver asks what Choose takes while the next super is written over the elder one of two.
func tornOver(t *testing.T, gen int, slots [2]string, newer api.Super) {
	t.Helper()
	next := api.Super{Gen: gen + 2, Root: 7, Sectors: 16}
	if next.Gen > mostGen {
		return
	}
	sector := wrapped(t, next)
	for cut := range 1025 {
		now := slots
		now[gen%2] = sector[:cut] + slots[gen%2][cut:]
		want := newer
		if now[gen%2] == sector {
			want = next
		}
		chooses(t, "P9.4: the next one is being written", now[0], now[1], want)
	}
}
