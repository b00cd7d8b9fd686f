package store_test

import (
	"maps"
	"slices"
	"strings"
	"testing"

	"coppice/api"
	"coppice/block"
	"coppice/disk"
	"coppice/pack"
	"coppice/store"
	"coppice/super"
)

// refusesMount asks whether Mount answers an error alone.
func refusesMount(t *testing.T, what string, d *disk.Disk, want api.Errno) {
	t.Helper()
	if s, e := store.Mount(d); s != nil || e != want {
		t.Errorf("P10.1: Mount of %s: %v, error %d, want %d", what, s, e, want)
	}
}

func TestMountOfDisksWithoutAStore(t *testing.T) {
	refusesMount(t, "no disk", nil, api.ErrNil)
	next := numbers(5)
	for _, sectors := range []int{1, 2, 3, 7, 8, 9, 100, 4096} {
		d := blank(t, sectors)
		refusesMount(t, "zeros", d, api.ErrSuper)
		for n := range min(sectors, 20) {
			write(t, d, n, anyBytes(next, 1024))
		}
		refusesMount(t, "any bytes", d, api.ErrSuper)
		cut(d)
		refusesMount(t, "a disk without power", d, api.ErrDown)
	}
	for _, sectors := range []int{1, 2, 7} { // too small for a store, with a super all the same
		for _, told := range []int{8, 9} {
			d := blank(t, 8)
			writeSuper(t, d, api.Super{Sectors: told})
			sector, _ := d.Read(0)
			small := blank(t, sectors)
			write(t, small, 0, sector)
			refusesMount(t, "a small disk with a super", small, api.ErrSuper)
		}
	}
	d := blank(t, 20)
	writeSuper(t, d, api.Super{Gen: 5, Sectors: 20})
	cut(d)
	refusesMount(t, "a store without power", d, api.ErrDown)
}

// anyBytes is so many bytes of all kinds.
func anyBytes(next func(int) int, count int) string {
	b := make([]byte, count)
	for i := range b {
		b[i] = byte(next(256))
	}
	return string(b)
}

func TestMountJustAheadOfThePowersEnd(t *testing.T) {
	s, d, p := filled(t, 60, 9, "t", "u")
	d.Power(0)
	m := mounted(t, "P10.1: the power isn't gone yet", d)
	has(t, "P10.1: the power isn't gone yet", m, p.now, s.Gen())
	wants(t, "P10.2: the power goes", m.Put("t", "a", "1"), api.ErrDown)
	refusesMount(t, "a disk whose power went", d, api.ErrDown)
}

func TestMountOfSupers(t *testing.T) {
	for _, gen := range []int{0, 1, 2, 77, 1 << 59, mostGen - 2, mostGen - 1, mostGen} {
		for _, sectors := range []int{8, 30, 4096} {
			d := blank(t, sectors)
			writeSuper(t, d, api.Super{Gen: gen, Sectors: sectors})
			want := api.OK
			if gen == mostGen {
				want = api.ErrMany
			}
			wants(t, "P10.1: Mount of a super", judges(t, "a super alone", d), want)
			right, _ := d.Read(gen % 2)
			if gen > 1 {
				writeSuper(t, d, api.Super{Gen: gen - 1, Root: 2, Sectors: sectors}) // an elder one, whose root can't be read
				wants(t, "P10.1: Mount of two supers", judges(t, "two supers", d), want)
				writeSuper(t, d, api.Super{Gen: gen - 1, Sectors: 4000})
				wants(t, "P10.1: Mount of two supers", judges(t, "two supers, the elder one of another disk", d), want)
			}
			write(t, d, 1-gen%2, right)
			write(t, d, gen%2, anyBytes(numbers(1), 1024))
			wants(t, "P10.1: Mount of a super in the wrong slot", judges(t, "a super in the wrong slot", d), api.ErrSuper)
		}
	}
	for _, told := range []int{8, 29, 31, 4096} {
		d := blank(t, 30)
		writeSuper(t, d, api.Super{Gen: 4, Sectors: told})
		refusesMount(t, "a super of another disk", d, api.ErrSuper)
		writeSuper(t, d, api.Super{Gen: 3, Sectors: 30})
		refusesMount(t, "a newer super of another disk", d, api.ErrSuper) // Choose finds the newer one
		writeSuper(t, d, api.Super{Gen: 5, Sectors: 30})
		wants(t, "P10.1: Mount", judges(t, "an elder super of another disk", d), api.OK)
	}
	d := blank(t, 30)
	writeSuper(t, d, api.Super{Gen: mostGen, Sectors: 31})
	refusesMount(t, "another disk's super of the greatest generation", d, api.ErrSuper)
	writeSuper(t, d, api.Super{Gen: mostGen, Root: 5, Sectors: 30})
	refusesMount(t, "the greatest generation, without a root that can be read", d, api.ErrMany)
}

// listed is a disk with a list of these entries, in the sector 2; in the sectors 3 and 4 there is a leaf each.
func listed(t *testing.T, entries ...string) *disk.Disk {
	t.Helper()
	d := blank(t, 30)
	writeNode(t, d, 2, 7, leaf(entries...))
	writeNode(t, d, 3, 7, leaf("a", "1"))
	writeNode(t, d, 4, 7, leaf("b", "2", "c", "3"))
	writeSuper(t, d, api.Super{Gen: 7, Root: 2, Sectors: 30})
	return d
}

func TestMountOfLists(t *testing.T) {
	name := strings.Repeat("n", 64)
	for what, list := range map[string]struct {
		want    api.Errno
		entries []string
	}{
		"two trees":                      {api.OK, []string{"t", at(3), "u", at(4)}},
		"a tree without items":           {api.OK, []string{"t", at(0), "u", at(4)}},
		"two trees that are the same":    {api.OK, []string{"t", at(3), "u", at(3)}},
		"a tree that is the list":        {api.OK, []string{"t", at(2), "u", at(4)}},
		"a name of 64 bytes":             {api.OK, []string{name, at(3)}},
		"a name of any bytes":            {api.OK, []string{"\x00\xff/", at(3)}},
		"a name of 65 bytes":             {api.ErrTree, []string{name + "n", at(3)}},
		"a name of 272 bytes":            {api.ErrTree, []string{"a", at(3), strings.Repeat("n", 272), at(0)}},
		"no place":                       {api.ErrTree, []string{"t", ""}},
		"the place 1":                    {api.ErrTree, []string{"t", at(1)}},
		"the place 4096":                 {api.ErrTree, []string{"t", at(4096)}},
		"the place 2^32 + 3":             {api.ErrTree, []string{"t", pack.Short(1<<32 + 3)}},
		"the place 2^63":                 {api.ErrTree, []string{"t", pack.Short(1 << 63)}},
		"the place 2^64 - 1":             {api.ErrTree, []string{"t", pack.Short(1<<64 - 1)}},
		"no short number":                {api.ErrTree, []string{"t", "\x83\x00"}},
		"a short number that is cut":     {api.ErrTree, []string{"t", "\x83"}},
		"something behind a number":      {api.ErrTree, []string{"t", at(3) + "\x00"}},
		"a fixed number":                 {api.ErrTree, []string{"t", pack.Fixed(3)}},
		"a text of a number":             {api.ErrTree, []string{"t", pack.Text(at(3))}},
		"a sector of zeros":              {api.ErrLost, []string{"t", at(5)}},
		"the last sector, of zeros":      {api.ErrLost, []string{"t", at(29)}},
		"a sector behind the last":       {api.ErrLost, []string{"t", at(30)}},
		"the place 4095":                 {api.ErrLost, []string{"t", at(4095)}},
		"a lost tree behind a right one": {api.ErrLost, []string{"t", at(3), "u", at(5)}},
	} {
		if e := judges(t, what, listed(t, list.entries...)); e != list.want {
			t.Errorf("P10.1: Mount of a list with %s: error %d, want %d", what, e, list.want)
		}
	}
	judges(t, "both errors", listed(t, "t", at(1), "u", at(5)))
	judges(t, "both errors", listed(t, "t", at(5), "u", at(1)))
}

func TestMountOfListsWithManyTrees(t *testing.T) {
	for _, trees := range []int{1, 199, 200, 201, 202, 600} {
		d := blank(t, 100)
		var kids []api.Kid
		for place := 3; trees > 20*len(kids); place++ {
			var entries []string
			for i := 20 * len(kids); i < min(20*len(kids)+20, trees); i++ {
				entries = append(entries, digits(i, 4), at(0))
			}
			writeNode(t, d, place, 7, leaf(entries...))
			kids = append(kids, kid(entries[0], place))
		}
		writeNode(t, d, 2, 7, above(kids...))
		writeSuper(t, d, api.Super{Gen: 7, Root: 2, Sectors: 100})
		want := api.OK
		if trees > 200 {
			want = api.ErrTree
		}
		wants(t, "P10.1: Mount of "+digits(trees, 1)+" trees", judges(t, "many trees", d), want)
	}
}

// shape is nodes by hand, by their sectors, the root in the sector 10, and what Mount makes of them.
type shape struct {
	want  api.Errno
	nodes map[int]api.Node
}

// one is a leaf of items without values.
func one(keys ...string) api.Node {
	n := api.Node{Leaf: true}
	for _, key := range keys {
		n.Items = append(n.Items, api.Item{Key: key, Value: at(0)})
	}
	return n
}

// shapes are trees that aren't right, and such as are, though they seem not to be.
func shapes() map[string]shape {
	return map[string]shape{
		"a leaf":                        {api.OK, map[int]api.Node{10: one("m")}},
		"a node":                        {api.OK, map[int]api.Node{10: above(kid("", 11), kid("m", 12)), 11: one("a"), 12: one("m")}},
		"one kid":                       {api.OK, map[int]api.Node{10: above(kid("a", 11)), 11: above(kid("a", 12)), 12: one("m")}},
		"a kid's key below its bounds":  {api.OK, map[int]api.Node{10: above(kid("", 11), kid("m", 12)), 11: above(kid("a", 13), kid("l", 14)), 12: above(kid("a", 15)), 13: one("b"), 14: one("lz"), 15: one("n")}},
		"a kid twice":                   {api.ErrTree, map[int]api.Node{10: above(kid("", 11), kid("m", 11)), 11: one("m")}},
		"a leaf below two nodes":        {api.ErrTree, map[int]api.Node{10: above(kid("", 11), kid("m", 12)), 11: above(kid("a", 13)), 12: above(kid("m", 13)), 13: one("m")}},
		"itself":                        {api.ErrTree, map[int]api.Node{10: above(kid("", 10))}},
		"itself, later":                 {api.ErrTree, map[int]api.Node{10: above(kid("", 11), kid("m", 10)), 11: one("a")}},
		"a circle":                      {api.ErrTree, map[int]api.Node{10: above(kid("", 11)), 11: above(kid("", 12)), 12: above(kid("", 10))}},
		"a circle below":                {api.ErrTree, map[int]api.Node{10: above(kid("", 11)), 11: above(kid("", 12)), 12: above(kid("", 11))}},
		"leaves at two levels":          {api.ErrTree, map[int]api.Node{10: above(kid("", 11), kid("m", 12)), 11: one("a"), 12: above(kid("m", 13)), 13: one("m")}},
		"a key below its kid's":         {api.ErrTree, map[int]api.Node{10: above(kid("b", 11)), 11: one("a")}},
		"a key at the next kid's":       {api.ErrTree, map[int]api.Node{10: above(kid("", 11), kid("m", 12)), 11: one("m"), 12: one("n")}},
		"a key above the next kid's":    {api.ErrTree, map[int]api.Node{10: above(kid("", 11), kid("m", 12)), 11: one("a", "z"), 12: one("n")}},
		"a key above the next one, far": {api.ErrTree, map[int]api.Node{10: above(kid("", 11), kid("m", 12)), 11: above(kid("", 13)), 13: one("z"), 12: above(kid("", 14)), 14: one("n")}},
		"a lost kid":                    {api.ErrLost, map[int]api.Node{10: above(kid("", 11), kid("m", 12)), 11: one("a")}},
		"a kid behind the disk":         {api.ErrLost, map[int]api.Node{10: above(kid("", 11), kid("m", 60)), 11: one("a")}},
		"a kid far behind":              {api.ErrLost, map[int]api.Node{10: above(kid("", 4095))}},
	}
}

func TestMountOfShapes(t *testing.T) {
	for what, shape := range shapes() {
		for _, gen := range []int{0, 6, 7, 8, 9, mostGen} {
			d := blank(t, 60)
			for place, n := range shape.nodes {
				writeNode(t, d, place, gen, n)
			}
			writeNode(t, d, 2, gen, leaf("m", at(10), "t", at(10), "u", at(0)))
			writeSuper(t, d, api.Super{Gen: 7, Root: 2, Sectors: 60})
			wants(t, "P10.5: Mount of a tree: "+what, judges(t, "a tree: "+what, d), shape.want)
			writeSuper(t, d, api.Super{Gen: 8, Root: 10, Sectors: 60})
			wants(t, "P10.5: Mount of a list: "+what, judges(t, "the list: "+what, d), shape.want)
		}
	}
}

func TestMountOfTreesThatArePartsOfOthers(t *testing.T) {
	right := map[int]api.Node{10: above(kid("", 11), kid("m", 12)), 11: above(kid("", 13)), 12: above(kid("m", 14)), 13: one("a", "b"), 14: one("m", "n")}
	wrong := map[int]api.Node{10: above(kid("", 11), kid("m", 12)), 11: above(kid("", 13)), 12: above(kid("m", 13)), 13: one("a", "b")}
	for _, entries := range [][]string{
		{"a", at(10), "b", at(11), "c", at(13), "d", at(14), "e", at(10), "f", at(13)},
		{"a", at(13), "b", at(11), "c", at(12), "d", at(10)},
		{"a", at(13), "b", at(2), "c", at(10)},
	} {
		d := blank(t, 60)
		writeNode(t, d, 2, 7, leaf(entries...))
		writeSuper(t, d, api.Super{Gen: 7, Root: 2, Sectors: 60})
		for place, n := range right {
			writeNode(t, d, place, 7, n)
		}
		wants(t, "P10.5: Mount of parts of trees", judges(t, "parts of trees", d), api.OK)
		for place, n := range wrong {
			writeNode(t, d, place, 7, n)
		}
		wants(t, "P10.5: Mount of parts of a tree that isn't right", judges(t, "parts of a tree that isn't right", d), api.ErrTree)
	}
}

func TestMountOfShapesThatAreLostAndWrong(t *testing.T) {
	for what, nodes := range map[string]map[int]api.Node{
		"a circle, and a lost kid":    {10: above(kid("", 10), kid("m", 12))},
		"a lost kid, and a kid twice": {10: above(kid("", 12), kid("m", 11), kid("n", 11)), 11: one("m")},
		"the list below itself":       {10: above(kid("", 2))},
	} {
		d := blank(t, 60)
		for place, n := range nodes {
			writeNode(t, d, place, 7, n)
		}
		writeNode(t, d, 2, 7, leaf("m", at(10), "t", at(10), "u", at(0)))
		for i, root := range []int{2, 10} {
			writeSuper(t, d, api.Super{Gen: 7 + i, Root: root, Sectors: 60})
			judges(t, what, d)
		}
	}
}

func TestMountOfTreesWithManyLevels(t *testing.T) {
	for _, levels := range []int{2, 39, 40, 41, 42, 1000, 3000} {
		d := blank(t, 4096)
		writeNode(t, d, 10, 1, leaf("m", at(0)))
		for level := 1; level < levels; level++ {
			writeNode(t, d, 10+level, 1, above(kid("", 9+level)))
		}
		writeNode(t, d, 2, 1, leaf("t", at(9+levels)))
		for _, root := range []int{2, 9 + levels} {
			writeSuper(t, d, api.Super{Gen: 7, Root: root, Sectors: 4096})
			if e := judges(t, "many levels", d); (e == api.OK) != (levels <= 40) {
				t.Errorf("P10.5: Mount of %d levels: error %d", levels, e)
			}
		}
	}
}

func TestMountOfANodeThatTooManyLeadTo(t *testing.T) {
	for _, root := range []int{2, 100} {
		d := blank(t, 200)
		var rows []api.Kid
		for row := range 60 { // 6000 kids in all
			var kids []api.Kid
			for i := range 100 {
				kids = append(kids, kid(digits(100*row+i, 4), 3))
			}
			writeNode(t, d, 101+row, 1, above(kids...))
			rows = append(rows, kid(digits(100*row, 4), 101+row))
		}
		writeNode(t, d, 3, 1, leaf("m", at(0)))
		writeNode(t, d, 100, 1, above(rows...))
		writeNode(t, d, 2, 1, leaf("t", at(100)))
		writeSuper(t, d, api.Super{Gen: 7, Root: root, Sectors: 200})
		wants(t, "P10.5: Mount of a node with 6000 holders", judges(t, "many holders", d), api.ErrTree)
	}
}

func TestMountOfBlocksThatCanNotBeRead(t *testing.T) {
	s, d, _ := filled(t, 200, 40, "t", "u")
	wants(t, "Copy", s.Copy("t", "v"), api.OK)
	wants(t, "Put", s.Put("v", "k20", "other"), api.OK)
	wants(t, "Commit", s.Commit(), api.OK)
	v := judged(d)
	if len(v.held) < 9 {
		t.Fatal("the test itself is wrong: few blocks", len(v.held))
	}
	for place := range v.held {
		was, _ := d.Read(place)
		b, _ := block.Open(was)
		other, _ := block.Wrap(api.Block{Kind: 3 - b.Kind, Gen: b.Gen, Payload: b.Payload})
		longer, _ := block.Wrap(api.Block{Kind: b.Kind, Gen: b.Gen, Payload: b.Payload + "\x00"})
		none, _ := block.Wrap(api.Block{Kind: b.Kind, Gen: b.Gen})
		for _, sector := range []string{strings.Repeat("\x00", 1024), was[:500] + "x" + was[501:], other, longer, none} {
			spoilt := d.Copy()
			write(t, spoilt, place, sector)
			wants(t, "P10.1: Mount with a lost block", judges(t, "a lost block", spoilt), api.ErrLost)
		}
	}
	for place := 2; place < 200; place++ {
		if _, is := v.held[place]; !is {
			write(t, d, place, anyBytes(numbers(uint64(place)), 1024))
		}
	}
	wants(t, "P10.5: Mount where what is free has any bytes", judges(t, "what is free has any bytes", d), api.OK)
}

func TestMountOfBlocksOfAnyGeneration(t *testing.T) {
	next := numbers(77)
	for round := range 60 {
		s, d, p := filled(t, 120, 25, "t", "u", "v")
		wants(t, "Commit", s.Commit(), api.OK)
		gen := s.Gen()
		for _, place := range slices.Sorted(maps.Keys(judged(d).held)) {
			sector, _ := d.Read(place)
			b, _ := block.Open(sector)
			b.Gen = []int{0, gen - 1, gen, gen + 1, gen + 2, gen + 3, next(1 << 59), mostGen - 1, mostGen}[next(9)]
			again, _ := block.Wrap(b)
			write(t, d, place, again)
		}
		if round%3 == 0 {
			sector, _ := d.Read(gen % 2)
			from, _ := super.Open(sector)
			writeSuper(t, d, api.Super{Gen: mostGen - 3, Root: from.Root, Sectors: 120})
			p.gen = mostGen - 3
		} else {
			p.gen = gen
		}
		wants(t, "P10.5: Mount of any generations", judges(t, "any generations", d), api.OK)
		goesOn(t, "P10.5: any generations", d, p, makerOf(uint64(round)), 60)
	}
}

// goesOn has a store that is mounted go on by chance, and asks each time whether a crash leaves what was committed.
func goesOn(t *testing.T, what string, d *disk.Disk, p *plain, m maker, steps int) {
	t.Helper()
	s := mounted(t, what, d)
	p.now, p.last = p.now.copied(), p.now.copied()
	for range steps {
		tries(t, what, s, p, m.step(p))
		has(t, what, s, p.now, p.gen)
		all := slices.Repeat([]int{1}, d.Open())
		has(t, what+", behind a crash", mounted(t, what, d.Crash(all)), p.last, p.gen)
	}
}

func TestMountOfAnyBlocks(t *testing.T) {
	t.Parallel()
	answers := map[api.Errno]int{}
	for seed := range uint64(3000) {
		next := numbers(seed)
		d := blank(t, 8+next(12))
		for place := 2; place < d.Sectors(); place++ {
			if next(12) > 0 {
				writeNode(t, d, place, next(10), anyNode(next, place))
			}
		}
		writeSuper(t, d, api.Super{Gen: next(9), Root: 2, Sectors: d.Sectors()})
		answers[judges(t, "any blocks", d)]++
	}
	if answers[api.OK] < 100 || answers[api.ErrLost] < 100 || answers[api.ErrTree] < 100 {
		t.Error("the test itself is wrong:", answers)
	}
}

// anyNode is a node by chance: entries of a list, items, or kids.
func anyNode(next func(int) int, place int) api.Node {
	n := api.Node{Leaf: place > 2 && next(3) > 0 || place == 2 && next(4) > 0}
	for i := range 1 + next(3) {
		key := string(rune('a' + 3*i + next(3)))
		if i == 0 && next(3) > 0 && !n.Leaf {
			key = ""
		}
		to := place + 1 + next(4)
		if next(12) == 0 {
			to = 2 + next(20)
		}
		if n.Leaf {
			n.Items = append(n.Items, api.Item{Key: key, Value: at(to)})
		} else {
			n.Kids = append(n.Kids, kid(key, to))
		}
	}
	return n
}

func TestMountOfAStoreWithTurnedBytes(t *testing.T) {
	t.Parallel()
	s, whole, _ := filled(t, 100, 30, "t", "u")
	wants(t, "Commit", s.Commit(), api.OK)
	held := slices.Sorted(maps.Keys(judged(whole).held))
	answers := map[api.Errno]int{}
	for seed := range uint64(1500) {
		next := numbers(seed)
		d := whole.Copy()
		for range 1 + next(3) {
			place := held[next(len(held))]
			sector, _ := d.Read(place)
			b, _ := block.Open(sector)
			bytes := []byte(b.Payload)
			if len(bytes) > 0 {
				bytes[next(min(len(bytes), 1+next(len(bytes))))] = byte(next(256))
			}
			b.Payload = string(bytes)
			again, _ := block.Wrap(b)
			write(t, d, place, again)
		}
		answers[judges(t, "turned bytes", d)]++
	}
	if len(answers) < 3 {
		t.Error("the test itself is wrong:", answers)
	}
}
