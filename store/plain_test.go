package store_test

import (
	"maps"
	"slices"
	"strings"

	"coppice/api"
)

// What the chapters say of bounds, in numbers: a test that took api's words would move with them.
const (
	mostName  = 64
	mostTrees = 200
	mostKey   = 272
	mostValue = 160
	mostGen   = 1 << 60
)

// named is lists of items by names: what a store tells.
type named map[string]map[string]string

// copied is named lists that nobody else changes.
func (n named) copied() named {
	c := named{}
	for name, items := range n {
		c[name] = maps.Clone(items)
	}
	return c
}

// plain is what a store is to be by the chapter's words. It knows of no disk.
type plain struct {
	now, last named
	gen       int
}

func newPlain() *plain { return &plain{named{}, named{}, 1} }

// free is what Make answers.
func (p *plain) free(name string) api.Errno {
	_, is := p.now[name]
	switch {
	case name == "" || len(name) > mostName:
		return api.ErrName
	case is:
		return api.ErrThere
	case len(p.now) == mostTrees:
		return api.ErrMany
	}
	return api.OK
}

// made is what Make makes of named lists.
func (p *plain) made(name string) api.Errno {
	e := p.free(name)
	if e == api.OK {
		p.now[name] = map[string]string{}
	}
	return e
}

// copiedTo is what Copy makes of named lists.
func (p *plain) copiedTo(from, to string) api.Errno {
	items, is := p.now[from]
	if !is {
		return api.ErrNoTree
	}
	e := p.free(to)
	if e == api.OK {
		p.now[to] = maps.Clone(items)
	}
	return e
}

// removed is what Remove makes of named lists.
func (p *plain) removed(name string) api.Errno {
	if _, is := p.now[name]; !is {
		return api.ErrNoTree
	}
	delete(p.now, name)
	return api.OK
}

// put is what Put makes of named lists.
func (p *plain) put(name, key, value string) api.Errno {
	items, is := p.now[name]
	switch {
	case !is:
		return api.ErrNoTree
	case key == "" || len(key) > mostKey:
		return api.ErrKey
	case len(value) > mostValue:
		return api.ErrValue
	}
	items[key] = value
	return api.OK
}

// deleted is what Delete makes of named lists.
func (p *plain) deleted(name, key string) api.Errno {
	items, is := p.now[name]
	if !is {
		return api.ErrNoTree
	}
	delete(items, key)
	return api.OK
}

// committed is what Commit makes of named lists.
func (p *plain) committed() api.Errno {
	if p.gen >= mostGen-1 {
		return api.ErrMany
	}
	p.last = p.now.copied()
	p.gen++
	return api.OK
}

// aborted is what Abort makes of named lists.
func (p *plain) aborted() api.Errno {
	p.now = p.last.copied()
	return api.OK
}

// itemsOf is a list's items with keys from one on, below another one, most at most.
func itemsOf(items map[string]string, from, to string, most int) []api.Item {
	var list []api.Item
	for _, key := range slices.Sorted(maps.Keys(items)) {
		if len(list) < most && key >= from && (to == "" || key < to) {
			list = append(list, api.Item{Key: key, Value: items[key]})
		}
	}
	return list
}

// changesOf is what becomes of the items of one list in another one.
func changesOf(a, b map[string]string) []api.Change {
	both := maps.Clone(a)
	maps.Copy(both, b)
	var list []api.Change
	for _, key := range slices.Sorted(maps.Keys(both)) {
		old, had := a[key]
		now, has := b[key]
		if had != has || old != now {
			list = append(list, api.Change{Key: key, Had: had, Has: has, Old: old, New: now})
		}
	}
	return list
}

// numbers answers ever the same row of numbers, so that a test that fails fails again.
func numbers(seed uint64) func(below int) int {
	seed = seed*0x9e3779b97f4a7c15 | 1
	return func(below int) int {
		seed ^= seed << 13
		seed ^= seed >> 7
		seed ^= seed << 17
		return int(seed >> 4 % uint64(below))
	}
}

// long is a text with so many bytes at least, that begins with another one.
func long(s string, bytes int) string { return s + strings.Repeat(".", max(bytes-len(s), 0)) }

// digits is a number with so many digits at least.
func digits(n, count int) string {
	s := ""
	for ; n > 0 || len(s) < count; n /= 10 {
		s = string(rune('0'+n%10)) + s
	}
	return s
}
