package store

import (
	"slices"

	"coppice/api"
	"coppice/pack"
	"coppice/super"
)

// What the tree of names and roots has on the disk.
const (
	nodeHead  = 2               // bytes ahead of a node's entries: its kind, and how many there are
	entryMost = 1 + maxName + 3 // bytes of one of them at most: a name, and a place as a text
	wide      = (api.MaxPayload - nodeHead) / entryMost
)

// Commit writes what there is now.
func (s *Store) Commit() api.Errno {
	err := s.ready()
	if err == nil {
		err = s.commit()
	}
	return s.answer(err)
}

// commit gives up what was committed only once the new super is there for good: wherever the power goes ahead of that, all that the old one leads to stands where it stood.
func (s *Store) commit() error {
	if s.gen >= api.MaxGen-1 {
		return failed("the generation", api.ErrMany)
	}
	list, err := s.putList()
	if err != nil {
		return err
	}
	if err := s.publish(s.gen+1, list); err != nil {
		return err
	}
	s.drop(s.list)
	s.dropAll(s.last)
	s.gen, s.list, s.last = s.gen+1, list, s.again(s.now)
	return failed("the generation", s.heap.Settle())
}

// publish writes the super of a generation. All that it leads to is flushed ahead of it: so it isn't there without that.
func (s *Store) publish(gen, list int) error {
	sector, code := super.Wrap(api.Super{Gen: gen, Root: list, Sectors: s.disk.Sectors()})
	if code != api.OK {
		return failed("the super", code)
	}
	if code := s.disk.Flush(); code != api.OK {
		return failed("what is below the super", code)
	}
	if code := s.disk.Write(super.Slot(gen), sector); code != api.OK {
		return failed("the super", code)
	}
	return failed("the super", s.disk.Flush())
}

// putList puts the tree of all names and roots, and is its root. It is put anew, and not made of the last one: so it takes few sectors whatever that looks like, and one alone where there are few trees.
func (s *Store) putList() (int, error) {
	var items []api.Item
	for _, name := range s.Names() {
		items = append(items, api.Item{Key: name, Value: pack.Short(uint64(s.now[name]))})
	}
	if len(items) == 0 {
		return 0, nil
	}
	each := 1
	for each*wide < len(items) {
		each *= wide
	}
	return s.plant(items, each)
}

// plant puts a node, with so many of the items below each of its kids; 1: it is a leaf of all of them.
func (s *Store) plant(items []api.Item, each int) (int, error) {
	n := api.Node{Leaf: true, Items: items}
	if each > 1 {
		n = api.Node{}
		for part := range slices.Chunk(items, each) {
			place, err := s.plant(part, each/wide)
			if err != nil {
				return 0, err
			}
			defer s.drop(place) // its node holds it then, or it was put in vain
			n.Kids = append(n.Kids, api.Kid{Key: part[0].Key, Place: place})
		}
	}
	place, code := s.heap.Put(n)
	return place, failed("the list", code)
}

// Abort is back at what was committed.
func (s *Store) Abort() api.Errno {
	err := s.ready()
	if err == nil {
		s.dropAll(s.now)
		s.now = s.again(s.last)
	}
	return s.answer(err)
}
