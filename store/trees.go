package store

import (
	"errors"
	"maps"
	"strings"

	"coppice/api"
	"coppice/tree"
)

const maxName = 64

// Get is a key's value.
func (s *Store) Get(name, key string) (string, bool, api.Errno) {
	root, err := s.root(name)
	if err != nil {
		return "", false, s.answer(err)
	}
	value, is, code := tree.Get(s.heap, root, key)
	return value, is, s.answer(failed(name, code))
}

// Range is the items of some keys.
func (s *Store) Range(name, from, to string, most int) ([]api.Item, api.Errno) {
	root, err := s.root(name)
	if err != nil {
		return nil, s.answer(err)
	}
	items, code := tree.Range(s.heap, root, from, to, most)
	return items, s.answer(failed(name, code))
}

// Diff is what is unlike in two trees.
func (s *Store) Diff(a, b string) ([]api.Change, int, api.Errno) {
	first, errA := s.root(a)
	second, errB := s.root(b)
	if err := errors.Join(errA, errB); err != nil {
		return nil, 0, s.answer(err)
	}
	changes, read, code := tree.Diff(s.heap, first, second)
	return changes, read, s.answer(failed(a, code))
}

// Make makes a tree.
func (s *Store) Make(name string) api.Errno {
	err := s.ready()
	if err == nil {
		err = s.add(name, 0)
	}
	return s.answer(err)
}

// Copy copies a tree.
func (s *Store) Copy(from, to string) api.Errno {
	root, err := s.root(from)
	if err == nil {
		err = s.add(to, root)
	}
	return s.answer(err)
}

// Remove removes a tree.
func (s *Store) Remove(name string) api.Errno {
	root, err := s.root(name)
	if err == nil {
		s.drop(root)
		delete(s.now, name)
	}
	return s.answer(err)
}

// Put puts a key's value.
func (s *Store) Put(name, key, value string) api.Errno {
	return s.change(name, func(root int) (int, api.Errno) {
		return tree.Put(s.heap, root, key, value)
	})
}

// Delete takes a key out.
func (s *Store) Delete(name, key string) api.Errno {
	return s.change(name, func(root int) (int, api.Errno) {
		return tree.Delete(s.heap, root, key)
	})
}

// change has a tree be the one that is made of it.
func (s *Store) change(name string, made func(root int) (int, api.Errno)) api.Errno {
	root, err := s.root(name)
	if err != nil {
		return s.answer(err)
	}
	changed, code := made(root)
	if code != api.OK {
		return s.answer(failed(name, code))
	}
	s.drop(root)
	s.set(name, changed)
	return api.OK
}

// root is that of a tree as it is now.
func (s *Store) root(name string) (int, error) {
	if err := s.ready(); err != nil {
		return 0, err
	}
	root, is := s.now[name]
	if !is {
		return 0, failed(name, api.ErrNoTree)
	}
	return root, nil
}

// add is one tree more, whose root is held by another one, too.
func (s *Store) add(name string, root int) error {
	_, is := s.now[name]
	switch {
	case !isName(name):
		return failed(name, api.ErrName)
	case is:
		return failed(name, api.ErrThere)
	case len(s.now) >= api.MaxTrees:
		return failed(name, api.ErrMany)
	}
	s.hold(root)
	s.set(name, root)
	return nil
}

// isName tells whether a tree may have this name.
func isName(name string) bool { return name != "" && len(name) <= maxName }

// set has a root be a tree's. Of a name that it has already the map keeps the text that it is told last: so that is cloned each time.
func (s *Store) set(name string, root int) { s.now[strings.Clone(name)] = root }

// hold has a tree be held once more. It can't be held by too many: in each tree, as it is now or was committed, a place is met once at most.
func (s *Store) hold(root int) {
	if root != 0 {
		s.heap.Hold(root)
	}
}

// drop has a tree be held once less.
func (s *Store) drop(root int) {
	if root != 0 {
		s.heap.Drop(root)
	}
}

// again is the same roots, each held once more.
func (s *Store) again(roots map[string]int) map[string]int {
	for _, root := range roots {
		s.hold(root)
	}
	return maps.Clone(roots)
}

// dropAll has each of some roots be held once less.
func (s *Store) dropAll(roots map[string]int) {
	for _, root := range roots {
		s.drop(root)
	}
}
