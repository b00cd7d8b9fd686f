package store

import (
	"errors"

	"coppice/api"
	"coppice/disk"
	"coppice/pack"
	"coppice/super"
	"coppice/tree"
)

const (
	slots      = 2
	firstPlace = 2 // where a root may stand: the sectors below it are the slots
)

// Mount is the store on a disk.
func Mount(d *disk.Disk) (*Store, api.Errno) {
	s, err := mounted(d)
	switch {
	case errors.Is(err, api.ErrSector): // what doesn't stand in one of the heap's sectors can't be read
		return nil, api.ErrLost
	case err != nil:
		return nil, api.Code(err)
	}
	return s, api.OK
}

// mounted is the store that a disk's super leads to.
func mounted(d *disk.Disk) (*Store, error) {
	from, err := chosen(d)
	if err != nil {
		return nil, err
	}
	s, err := started(d, from.Gen)
	if err != nil {
		return nil, err
	}
	s.list = from.Root
	if err := s.loadAll(); err != nil {
		return nil, err
	}
	s.now = s.again(s.last)
	return s, nil
}

// chosen is the super of a disk, if it is this disk's.
func chosen(d *disk.Disk) (api.Super, error) {
	var sectors [slots]string
	for n := range sectors {
		sector, code := d.Read(n)
		if code != api.OK && code != api.ErrSector { // a disk of one sector lacks a slot: nothing opens in it
			return api.Super{}, failed("a slot", code)
		}
		sectors[n] = sector
	}
	from, code := super.Choose(sectors[0], sectors[1])
	switch {
	case code != api.OK:
		return api.Super{}, failed("the super", code)
	case from.Sectors != d.Sectors():
		return api.Super{}, failed("the super", api.ErrSuper)
	case from.Gen == api.MaxGen:
		return api.Super{}, failed("the generation", api.ErrMany)
	}
	return from, nil
}

// loadAll has the heap hold the list, and each tree that it tells of.
func (s *Store) loadAll() error {
	if err := s.load("the list", s.list); err != nil {
		return err
	}
	items, code := tree.Range(s.heap, s.list, "", "", api.MaxTrees+1)
	switch {
	case code != api.OK:
		return failed("the list", code)
	case len(items) > api.MaxTrees:
		return failed("the list", api.ErrTree)
	}
	for _, item := range items { // and not by the map: of several trees that can't be loaded the first one tells the error
		root, err := rootIn(item)
		if err != nil {
			return err
		}
		if err := s.load(item.Key, root); err != nil {
			return err
		}
		s.last[item.Key] = root
	}
	return nil
}

// load has the heap hold a tree that stands on the disk, if it is right. One that is held already is another name's tree, or a part of one, and was found right with it.
func (s *Store) load(what string, root int) error {
	if root == 0 {
		return nil
	}
	isKnown := s.heap.Count(root) > 0
	switch code := s.heap.Load(root); {
	case code == api.ErrMany: // more lead to a place than so many right trees can
		return failed(what, api.ErrTree)
	case code != api.OK || isKnown:
		return failed(what, code)
	}
	return failed(what, tree.Check(s.heap, root))
}

// rootIn is the root that an entry of the list tells.
func rootIn(item api.Item) (int, error) {
	r := pack.Read(item.Value)
	root := r.Short()
	isPlace := root == 0 || root >= firstPlace && root < api.MaxSectors
	if !isName(item.Key) || r.End() != api.OK || !isPlace {
		return 0, failed(item.Key, api.ErrTree)
	}
	return int(root), nil
}
