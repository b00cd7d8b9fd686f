package store_test

import (
	"testing"

	"coppice/api"
	"coppice/block"
	"coppice/disk"
	"coppice/node"
	"coppice/pack"
	"coppice/super"
)

// writeSuper writes a super into its slot.
func writeSuper(t *testing.T, d *disk.Disk, s api.Super) {
	t.Helper()
	sector, e := super.Wrap(s)
	if e != api.OK {
		t.Fatalf("Wrap of %+v: error %d", s, e)
	}
	write(t, d, s.Gen%2, sector)
}

// write writes a sector for good.
func write(t *testing.T, d *disk.Disk, n int, sector string) {
	t.Helper()
	if d.Write(n, sector) != api.OK || d.Flush() != api.OK {
		t.Fatal("a sector can't be written", n)
	}
}

// writeNode writes a node into a sector, by a generation.
func writeNode(t *testing.T, d *disk.Disk, place, gen int, n api.Node) {
	t.Helper()
	payload, e := node.Encode(n)
	if e != api.OK {
		t.Fatalf("Encode of %+v: error %d", n, e)
	}
	kind := 2
	if n.Leaf {
		kind = 1
	}
	sector, e := block.Wrap(api.Block{Kind: kind, Gen: gen, Payload: payload})
	if e != api.OK {
		t.Fatalf("Wrap of a node's block: error %d", e)
	}
	write(t, d, place, sector)
}

// leaf is a leaf of items, told by keys and values in turn.
func leaf(texts ...string) api.Node {
	n := api.Node{Leaf: true}
	for i := 0; i < len(texts); i += 2 {
		n.Items = append(n.Items, api.Item{Key: texts[i], Value: texts[i+1]})
	}
	return n
}

// kid is a kid of a node.
func kid(key string, place int) api.Kid { return api.Kid{Key: key, Place: place} }

// above is a node with kids.
func above(kids ...api.Kid) api.Node { return api.Node{Kids: kids} }

// at is a root's place as the list has it.
func at(place int) string { return pack.Short(uint64(place)) }
