package store_test

import (
	"maps"
	"slices"
	"testing"

	"coppice/api"
	"coppice/block"
	"coppice/disk"
	"coppice/node"
	"coppice/pack"
	"coppice/store"
	"coppice/super"
)

// verdict is what Mount is to make of a disk, by the chapters' words.
type verdict struct {
	may  []api.Errno // what it may answer
	gen  int
	want named
	held map[int]struct{} // the sectors that are held
}

// judge looks through what a super leads to.
type judge struct {
	d           *disk.Disk
	lost, wrong bool
	held        map[int]struct{}
}

// judged is what Mount is to make of a disk that has power.
func judged(d *disk.Disk) verdict {
	zero, _ := d.Read(0)
	one, _ := d.Read(1)
	from, e := super.Choose(zero, one)
	switch {
	case e != api.OK || from.Sectors != d.Sectors():
		return verdict{may: []api.Errno{api.ErrSuper}}
	case from.Gen == mostGen:
		return verdict{may: []api.Errno{api.ErrMany}}
	}
	j := &judge{d: d, held: map[int]struct{}{}}
	v := verdict{gen: from.Gen, want: named{}, held: j.held}
	list := j.tree(from.Root)
	if len(list) > mostTrees {
		j.wrong = true
	}
	for _, item := range list {
		root, is := placeIn(item)
		if !is {
			j.wrong = true
			continue
		}
		v.want[item.Key] = map[string]string{}
		for _, below := range j.tree(root) {
			v.want[item.Key][below.Key] = below.Value
		}
	}
	if j.lost {
		v.may = append(v.may, api.ErrLost)
	}
	if j.wrong {
		v.may = append(v.may, api.ErrTree)
	}
	if len(v.may) == 0 {
		v.may = append(v.may, api.OK)
	}
	return v
}

// placeIn is the place that an entry of the list tells, and whether it is one.
func placeIn(item api.Item) (int, bool) {
	for place := range 4096 {
		if place != 1 && item.Value == pack.Short(uint64(place)) {
			return place, item.Key != "" && len(item.Key) <= mostName
		}
	}
	return 0, false
}

// tree is a tree's items, in the order in which they are met. What is met twice isn't looked through again.
func (j *judge) tree(root int) []api.Item {
	if root == 0 {
		return nil
	}
	var items []api.Item
	met, depth := map[int]struct{}{}, 0
	var below func(place, level int, from, to string)
	below = func(place, level int, from, to string) {
		if _, is := met[place]; is {
			j.wrong = true
			return
		}
		met[place] = struct{}{}
		j.held[place] = struct{}{}
		n, is := nodeOn(j.d, place)
		if !is {
			j.lost = true
			return
		}
		if n.Leaf && depth == 0 {
			depth = level
		}
		if level > 40 || n.Leaf && depth != level {
			j.wrong = true
		}
		for _, item := range n.Items {
			j.wrong = j.wrong || item.Key < from || to != "" && item.Key >= to
		}
		items = append(items, n.Items...)
		for i, kid := range n.Kids {
			end := to
			if i+1 < len(n.Kids) && (to == "" || n.Kids[i+1].Key < to) {
				end = n.Kids[i+1].Key
			}
			below(kid.Place, level+1, max(from, kid.Key), end)
		}
	}
	below(root, 1, "", "")
	return items
}

// nodeOn is the node in one of the heap's sectors, and whether there is one.
func nodeOn(d *disk.Disk, place int) (api.Node, bool) {
	sector, e := d.Read(place)
	if place < 2 || e != api.OK {
		return api.Node{}, false
	}
	b, e := block.Open(sector)
	if e != api.OK {
		return api.Node{}, false
	}
	n, e := node.Decode(b.Payload)
	return n, e == api.OK && (b.Kind == 1 && n.Leaf || b.Kind == 2 && !n.Leaf)
}

// judges asks whether Mount makes of a disk what it is to, writes nothing, and whether what it mounts can be used. It tells what Mount answered.
func judges(t *testing.T, what string, d *disk.Disk) api.Errno {
	t.Helper()
	v := judged(d)
	watched := d.Copy()
	watched.Power(0) // the first write, or flush, would end it
	s, e := store.Mount(watched)
	if !slices.Contains(v.may, e) || (s == nil) != (e != api.OK) || watched.Down() || watched.Open() != d.Open() {
		t.Fatalf("P10.5: %s: Mount: %v, error %d, want one of %v; %d writes, power gone: %v", what, s, e, v.may, watched.Open(), watched.Down())
	}
	if e == api.OK {
		has(t, "P10.5: "+what, s, v.want, v.gen)
		if s.Room() != d.Sectors()-2-len(v.held) {
			t.Fatalf("P10.5: %s: room %d, held %d of %d", what, s.Room(), len(v.held), d.Sectors())
		}
		canBeUsed(t, what, d.Copy(), v)
	}
	return e
}

// canBeUsed asks whether what is mounted can be read, changed, committed, and behind a crash mounted, and whether all is free in the end.
func canBeUsed(t *testing.T, what string, d *disk.Disk, v verdict) {
	t.Helper()
	s := mounted(t, what, d)
	p := &plain{v.want.copied(), v.want.copied(), v.gen}
	what = "P10.5: changed: " + what
	tries(t, what, s, p, op{kind: makes, name: "new"})
	for i, name := range append(slices.Sorted(maps.Keys(v.want)), "new") {
		tries(t, what, s, p, op{kind: copies, name: name, to: "copy" + digits(i, 1)})
		tries(t, what, s, p, op{kind: puts, name: name, key: "new", value: "1"})
		if items := itemsOf(v.want[name], "", "", 1); len(items) > 0 {
			tries(t, what, s, p, op{kind: deletes, name: name, key: items[0].Key})
		}
	}
	has(t, what, s, p.now, p.gen)
	crashed := func(also string) {
		t.Helper()
		has(t, what+also, mounted(t, what, d.Crash(nil)), p.last, p.gen)
		has(t, what+also, mounted(t, what, d.Crash(slices.Repeat([]int{1}, d.Open()))), p.last, p.gen)
	}
	crashed(", a crash ahead of the commit")
	if tries(t, what, s, p, op{kind: aborts}) {
		has(t, what+", aborted", s, p.now, p.gen)
	}
	tries(t, what, s, p, op{kind: makes, name: "other"})
	tries(t, what, s, p, op{kind: puts, name: "other", key: "a", value: "1"})
	tries(t, what, s, p, op{kind: commits})
	crashed(", a crash behind the commit")
	for name := range p.now {
		does(t, what, s, p, op{kind: removes, name: name})
	}
	does(t, what, s, p, op{kind: commits})
	if s.Gen() != mostGen-1 && s.Room() != d.Sectors()-2 {
		t.Fatalf("P10.4: %s: room %d of %d", what, s.Room(), d.Sectors())
	}
	crashed(", all trees removed")
}
