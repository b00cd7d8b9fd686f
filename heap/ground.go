package heap

import (
	"coppice/alloc"
	"coppice/api"
	"coppice/block"
	"coppice/disk"
	"coppice/node"
)

const (
	leafKind = 1 // a leaf's block
	kidsKind = 2 // another node's block
)

// ground is what a heap stands on: a disk, and which of its sectors are free. Both are embedded here and not in Heap itself, so that nobody takes or writes a sector past the heap.
type ground struct {
	*alloc.Alloc
	*disk.Disk
}

// store writes a node's bytes into the least free sector, which is held once from then on.
func (g ground) store(b api.Block) (int, api.Errno) {
	sector, err := block.Wrap(b)
	if err != api.OK {
		return 0, err
	}
	place, err := g.Take(b.Gen)
	if err != api.OK {
		return 0, err
	}
	if err := g.Write(place, sector); err != api.OK {
		g.Drop(place, b.Gen) // it was born in this very generation: so it is free again, and doesn't wait
		return 0, err
	}
	return place, api.OK
}

// fetch is the node that stands in a sector, and the generation of its block.
func (g ground) fetch(place int) (api.Node, int, api.Errno) {
	sector, err := g.Read(place)
	if err != api.OK {
		return api.Node{}, 0, err
	}
	b, err := block.Open(sector)
	if err != api.OK {
		return api.Node{}, 0, api.ErrLost
	}
	n, err := node.Decode(b.Payload)
	if err != api.OK || b.Kind != kindOf(n) {
		return api.Node{}, 0, api.ErrLost
	}
	return n, b.Gen, api.OK
}

// kindOf is the kind of a node's block.
func kindOf(n api.Node) int {
	if n.Leaf {
		return leafKind
	}
	return kidsKind
}
