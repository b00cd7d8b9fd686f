package heap_test

import (
	"slices"
	"strings"
	"testing"

	"coppice/api"
	"coppice/disk"
	"coppice/heap"
)

// plainSector is what the chapter's words say of a sector.
type plainSector struct {
	held, waits bool // neither: it is free
	holders     int
	born        int
	awaited     int
	kids        []int // of one that is held

	stands bool // a node of its kind in a block; else what stands there is lost
	node   api.Node
	gen    int
}

// plainHeap is a heap, with its disk, as the chapter's words say it.
type plainHeap struct {
	sectors []plainSector // those below 2 are never held
	gen     int
	power   int // calls that are left to it; below 0: it stays
	down    bool
}

func plainNew(sectors, gen int) *plainHeap {
	return &plainHeap{sectors: make([]plainSector, sectors), gen: gen, power: -1}
}

// at is a sector that may be a node's; nil: there is no such one.
func (p *plainHeap) at(place int) *plainSector {
	if place < 2 || place >= len(p.sectors) {
		return nil
	}
	return &p.sectors[place]
}

// heldAt is a sector that is held; nil: nobody holds it.
func (p *plainHeap) heldAt(place int) *plainSector {
	if s := p.at(place); s != nil && s.held {
		return s
	}
	return nil
}

// Put is asked of nodes of which layer 6's Check answers this.
func (p *plainHeap) Put(n api.Node, check api.Errno) (int, api.Errno) {
	if check != api.OK {
		return 0, check
	}
	var kids []int
	for _, k := range n.Kids {
		kids = append(kids, k.Place)
		if p.heldAt(k.Place) == nil {
			return 0, api.ErrFree
		}
	}
	for _, k := range kids {
		more := 0
		for _, other := range kids {
			if other == k {
				more++
			}
		}
		if p.heldAt(k).holders+more > 5000 {
			return 0, api.ErrMany
		}
	}
	place := 2
	for place < len(p.sectors) && (p.sectors[place].held || p.sectors[place].waits) {
		place++
	}
	if place == len(p.sectors) {
		return 0, api.ErrNoSpace
	}
	if p.down || p.power == 0 {
		p.down = true
		return 0, api.ErrDown
	}
	p.power--
	p.sectors[place] = plainSector{held: true, holders: 1, born: p.gen, kids: kids, stands: true, node: n, gen: p.gen}
	for _, k := range kids {
		p.sectors[k].holders++
	}
	return place, api.OK
}

func (p *plainHeap) Get(place int) (api.Node, api.Errno) {
	s := p.heldAt(place)
	switch {
	case s == nil:
		return api.Node{}, api.ErrFree
	case p.down:
		return api.Node{}, api.ErrDown
	case !s.stands:
		return api.Node{}, api.ErrLost
	}
	return s.node, api.OK
}

func (p *plainHeap) Hold(place int) api.Errno {
	s := p.heldAt(place)
	switch {
	case s == nil:
		return api.ErrFree
	case s.holders == 5000:
		return api.ErrMany
	}
	s.holders++
	return api.OK
}

func (p *plainHeap) Drop(place int) api.Errno {
	s := p.heldAt(place)
	if s == nil {
		return api.ErrFree
	}
	s.holders--
	if s.holders > 0 {
		return api.OK
	}
	kids := s.kids
	s.held, s.waits, s.awaited, s.kids = false, s.born != p.gen, p.gen, nil
	for _, k := range kids {
		p.Drop(k)
	}
	return api.OK
}

func (p *plainHeap) Load(place int) api.Errno {
	s := p.at(place)
	switch {
	case s == nil:
		return api.ErrSector
	case s.held:
		return p.Hold(place)
	case p.down:
		return api.ErrDown
	case !s.stands:
		return api.ErrLost
	case s.waits:
		return api.ErrThere
	}
	s.held, s.holders, s.born = true, 1, s.gen
	for _, k := range s.node.Kids {
		s.kids = append(s.kids, k.Place)
	}
	for _, k := range s.node.Kids {
		if e := p.Load(k.Place); e != api.OK {
			return e
		}
	}
	return api.OK
}

func (p *plainHeap) Settle() api.Errno {
	if p.gen == 1<<60 {
		return api.ErrMany
	}
	for i := range p.sectors {
		if s := &p.sectors[i]; s.waits && s.awaited <= p.gen {
			s.waits = false
		}
	}
	p.gen++
	return api.OK
}

func (p *plainHeap) Room() int {
	free := 0
	for _, s := range p.sectors[2:] {
		if !s.held && !s.waits {
			free++
		}
	}
	return free
}

func (p *plainHeap) Count(place int) int {
	if s := p.heldAt(place); s != nil {
		return s.holders
	}
	return 0
}

// writes is a write of others: of a node, or (nil) of bytes that are none.
func (p *plainHeap) writes(place int, n *api.Node, gen int) {
	if p.down || p.power == 0 {
		p.down = true
		return
	}
	p.power--
	s := &p.sectors[place]
	s.stands = n != nil
	if n != nil {
		s.node, s.gen = *n, gen
	}
}

// numbers answers ever the same row of numbers, so that a test that fails fails again.
func numbers(seed uint64) func(below int) int {
	seed = seed*0x9e3779b97f4a7c15 | 1
	return func(below int) int {
		seed ^= seed << 13
		seed ^= seed >> 7
		seed ^= seed << 17
		return int(seed >> 20 % uint64(below))
	}
}

// pair is a heap and what it should be.
type pair struct {
	t *testing.T
	h *heap.Heap
	d *disk.Disk
	p *plainHeap
}

func pairOf(t *testing.T, sectors, gen int) pair {
	h, d := made(t, sectors, gen)
	return pair{t, h, d, plainNew(sectors, gen)}
}

// agree asks whether both tell the same of all.
func (x pair) agree(what string) {
	x.t.Helper()
	if x.h.Gen() != x.p.gen || x.h.Room() != x.p.Room() {
		x.t.Fatalf("P7.1: behind %s: generation %d, room %d; want %d, %d", what, x.h.Gen(), x.h.Room(), x.p.gen, x.p.Room())
	}
	if x.d.Down() != x.p.down {
		x.t.Fatalf("P7.1: behind %s: the disk is down: %v", what, x.d.Down())
	}
	for place := -1; place <= len(x.p.sectors)+1; place++ {
		if got, want := x.h.Count(place), x.p.Count(place); got != want {
			x.t.Fatalf("P7.1: behind %s: Count(%d): %d, want %d", what, place, got, want)
		}
		n, e := x.h.Get(place)
		wantNode, wantErr := x.p.Get(place)
		if e != wantErr || !same(n, wantNode) {
			x.t.Fatalf("P7.1: behind %s: Get(%d): %v, error %d; want %v, %d", what, place, n, e, wantNode, wantErr)
		}
	}
}

// stands asks whether what stands on the disk is what should stand there.
func (x pair) stands(what string) {
	x.t.Helper()
	if x.d.Down() {
		return
	}
	for place, s := range x.p.sectors {
		if !s.stands {
			continue
		}
		kind := 2
		if s.node.Leaf {
			kind = 1
		}
		if got, _ := x.d.Read(place); got != sectorOf(x.t, kind, s.gen, s.node) {
			x.t.Fatalf("P7.1: behind %s: what stands in sector %d isn't its node", what, place)
		}
	}
}

// answers asks whether both answered the same.
func (x pair) answers(what string, got, want api.Errno) {
	x.t.Helper()
	if got != want {
		x.t.Fatalf("P7.1: %s: error %d, want %d", what, got, want)
	}
}

// puts has both put a node.
func (x pair) puts(n api.Node, check api.Errno) {
	x.t.Helper()
	place, e := x.h.Put(n)
	wantPlace, wantErr := x.p.Put(n, check)
	x.answers("Put", e, wantErr)
	if place != wantPlace {
		x.t.Fatalf("P7.1: Put: %d, want %d", place, wantPlace)
	}
}

// places is a row of places, those of the disk most of the time.
func (x pair) places(number func(int) int, most int) []int {
	var list []int
	for range 1 + number(most) {
		list = append(list, x.place(number))
	}
	return list
}

// place is one that may be held, most of the time.
func (x pair) place(number func(int) int) int {
	if number(30) == 0 {
		return []int{-7, 0, 1, len(x.p.sectors), len(x.p.sectors) + 1, 4095}[number(6)]
	}
	return 2 + number(len(x.p.sectors)-2)
}

// held is one that is held, most of the time.
func (x pair) held(number func(int) int) int {
	for range 6 {
		if p := x.place(number); x.p.Count(p) > 0 {
			return p
		}
	}
	return x.place(number)
}

// putsOne has both put a node of some kind.
func (x pair) putsOne(number func(int) int) {
	x.t.Helper()
	switch number(12) {
	case 0:
		x.puts(api.Node{}, api.ErrNode)
	case 1:
		x.puts(bigLeaf(1008+number(40)), api.ErrBig)
	case 2, 3, 4:
		x.puts(leaf(strings.Repeat("k", 1+number(100))), api.OK)
	default:
		var kids []int
		for range 1 + number(4) {
			kids = append(kids, x.held(number))
		}
		check := api.OK
		if slices.Min(kids) < 2 {
			check = api.ErrNode
		}
		x.puts(above(kids...), check)
	}
}

// othersWrite has a sector written by others.
func (x pair) othersWrite(number func(int) int) {
	x.t.Helper()
	place, gen := 2+number(len(x.p.sectors)-2), max(0, x.p.gen-number(3))
	var e api.Errno
	switch number(3) {
	case 0:
		e = x.d.Write(place, blockOf(x.t, 3, gen, "junk"))
		x.p.writes(place, nil, 0)
	case 1:
		n := leaf("other", "than")
		e = x.d.Write(place, sectorOf(x.t, 1, gen, n))
		x.p.writes(place, &n, gen)
	default:
		kids := x.places(number, 3)
		if slices.Min(kids) < 2 {
			return
		}
		n := above(kids...)
		e = x.d.Write(place, sectorOf(x.t, 2, gen, n))
		x.p.writes(place, &n, gen)
	}
	if e == api.ErrDown != x.p.down {
		x.t.Fatal("the disk's power isn't what it should be")
	}
}

// step has both do the same.
func (x pair) step(number func(int) int) string {
	x.t.Helper()
	switch kind := number(100); {
	case kind < 35:
		x.putsOne(number)
		return "Put"
	case kind < 45:
		p := x.held(number)
		x.answers("Hold", x.h.Hold(p), x.p.Hold(p))
		return "Hold"
	case kind < 75:
		p := x.held(number)
		x.answers("Drop", x.h.Drop(p), x.p.Drop(p))
		return "Drop"
	case kind < 88:
		p := x.place(number)
		x.answers("Load", x.h.Load(p), x.p.Load(p))
		return "Load"
	case kind < 94:
		x.answers("Settle", x.h.Settle(), x.p.Settle())
		return "Settle"
	}
	x.othersWrite(number)
	return "a write of others"
}

func TestAnySteps(t *testing.T) {
	for seed := range uint64(120) {
		number := numbers(seed + 1)
		gen := []int{0, 1, 40, api.MaxGen - 3, api.MaxGen}[number(5)]
		x := pairOf(t, 8+number(12), gen)
		for range 250 {
			x.agree(x.step(number))
		}
		x.stands("all")
	}
}

func TestAnyStepsWhileThePowerGoes(t *testing.T) {
	for seed := range uint64(150) {
		number := numbers(seed + 1000)
		x := pairOf(t, 8+number(6), number(4))
		calls := number(40)
		x.d.Power(calls)
		x.p.power = calls
		for range 120 {
			x.agree(x.step(number))
		}
	}
}

// TestAllShortRows goes through all rows of a few calls, so that no order of them is left out.
func TestAllShortRows(t *testing.T) {
	calls := []func(x pair) string{
		func(x pair) string { x.puts(leaf("a"), api.OK); return "Put of a leaf" },
		func(x pair) string { x.puts(above(2), api.OK); return "Put above 2" },
		func(x pair) string { x.puts(above(3, 2, 3), api.OK); return "Put above 3, 2 and 3" },
		func(x pair) string { x.answers("Hold(2)", x.h.Hold(2), x.p.Hold(2)); return "Hold(2)" },
		func(x pair) string { x.answers("Drop(2)", x.h.Drop(2), x.p.Drop(2)); return "Drop(2)" },
		func(x pair) string { x.answers("Drop(3)", x.h.Drop(3), x.p.Drop(3)); return "Drop(3)" },
		func(x pair) string { x.answers("Load(3)", x.h.Load(3), x.p.Load(3)); return "Load(3)" },
		func(x pair) string { x.answers("Settle", x.h.Settle(), x.p.Settle()); return "Settle" },
	}
	const length = 5
	rows := 1
	for range length {
		rows *= len(calls)
	}
	for row := range rows {
		x := pairOf(t, 8, 1)
		for range length {
			x.agree(calls[row%len(calls)](x))
			row /= len(calls)
		}
	}
}
