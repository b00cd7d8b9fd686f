package tree

import (
	"slices"

	"coppice/api"
)

const (
	maxPut  = 64  // nodes that a change may put
	maxRead = 128 // blocks that Diff may read of a tree and of what a change made of it
)

// plan is what may come in the place of a node of the other tree.
type plan struct {
	list   []entry
	gone   int // how many nodes are given up for it
	levels int // of what it leads to
}

// price is what a plan costs. Of a tree with as many levels as may be one node is put and one is given up for each level at least: then 24 more may be put, and 48 more be put or given up. So a node that is put counts for three that are given up.
func (p plan) price() int { return 3*nodesOf(p.list) + p.gone }

// crowned is a plan with nodes above what it leads to until there is one root, or none.
func crowned(p plan) plan {
	for len(p.list) > 1 {
		p.list = parts(draft{list: p.list}, "", true)
		p.levels++
	}
	if len(p.list) == 0 {
		p.levels = 0
	}
	return p
}

// best is the plan for the changed tree. Where that would have more levels than items, or than may be, upper levels are made anew; more than may be put, or read, only where there is no other way.
func (m *maker) best() plan {
	p := m.simple()
	if p.levels <= maxLevels && (m.isBushy() || p.levels <= m.items(p.levels)) {
		return p
	}
	if q, is := m.shorter(m.items(maxLevels), true); is {
		return q
	}
	if p.levels <= maxLevels {
		return p
	}
	q, is := m.shorter(maxLevels, false)
	if !is {
		m.tell(api.ErrTree)
	}
	return q
}

// simple is the plan that changes the way alone, and what is beside it.
func (m *maker) simple() plan {
	if m.isTall() {
		return m.tall()
	}
	return m.usual()
}

// isWithin tells whether a plan puts little enough, and Diff reads little enough, that shares nodes up to some height. To find how many levels one tree has more Diff reads what both have, too.
func (m *maker) isWithin(p plan, height int) bool {
	put := nodesOf(p.list)
	more := min(height, max(m.levels()-p.levels, p.levels-m.levels()))
	return put <= maxPut && put+p.gone+more <= maxRead
}

// levels is how many the other tree has, or that it has one leaf that isn't put yet.
func (m *maker) levels() int { return len(m.way) + 1 }

// isTall tells whether the other tree has so many levels that two nodes for each, and a root, are more than may be put.
func (m *maker) isTall() bool { return 2*m.levels()+1 > maxPut }

// isBushy tells whether the changed tree has as many items as levels for sure: so it is wherever each node on the way has two kids, and is joined with one beside it when it has but one left. A lonely one was put by others.
func (m *maker) isBushy() bool {
	return !m.isTall() && !slices.ContainsFunc(m.way, func(s step) bool { return draftOf(s.node).isLonely() })
}

// items is how many items the changed tree has, but no more than these.
func (m *maker) items(most int) int {
	items, err := Range(m.h, m.root, "", "", most+1)
	m.tell(err)
	return min(len(m.edit(items)), most)
}

// usual is a plan that mends each node on the way by itself: it is split where it is too big, and joined with one beside it where little is left of it.
func (m *maker) usual() plan {
	was, now := draftOf(m.leaf), leafOf(m.edit(m.leaf.Items))
	end := endsUnlike(was, now)
	for _, s := range slices.Backward(m.way) {
		kids := m.mended(s, was, now, end)
		was, now = draftOf(s.node), draft{list: kids}
		end = s.at == len(s.node.Kids)-1
	}
	return m.topped(now, end)
}

// topped is a plan for a root, or for what it leads to, where it has one kid only, or none.
func (m *maker) topped(now draft, end bool) plan {
	if len(now.list) == 0 || now.isLonely() {
		return crowned(plan{list: now.list, levels: m.levels() - 1})
	}
	return crowned(plan{list: parts(now, "", end), levels: m.levels()})
}

// endsUnlike tells whether a leaf has another last key than it had.
func endsUnlike(was, now draft) bool {
	a, b := len(was.list), len(now.list)
	return a == 0 || b == 0 || was.list[a-1].key != now.list[b-1].key
}

// mended is the kids of a node of which one has become another one.
func (m *maker) mended(s step, was, now draft, end bool) []entry {
	kids := draftOf(s.node).list
	from, to := s.at, s.at+1
	switch {
	case len(now.list) == 0:
		return replaced(kids, from, to, nil)
	case isLean(was, now):
		now, from, to = m.joined(kids, s.at, now)
	}
	return replaced(kids, from, to, parts(now, "", end))
}

// isLean tells whether a node is to be joined with one beside it: it has become lesser, and little is left of it. So has one that was left with one kid.
func isLean(was, now draft) bool {
	size := now.size()
	return size <= api.MaxPayload/2 && size < was.size()
}

// joined is a node together with one beside it, and from which kid on, up to which one, it comes in the place of both. It stays alone where none beside it has room; but a lonely one, which can't stay so, shares then what the other one has.
func (m *maker) joined(kids []entry, at int, now draft) (draft, int, int) {
	kids = replaced(kids, at, at+1, []entry{planned("", now)})
	for _, from := range []int{at - 1, at} {
		if from < 0 || from+2 > len(kids) {
			continue
		}
		whole, _, is := m.together(kids[from : from+2])
		if is && (!whole.isBig() || now.isLonely()) {
			return whole, from, from + 2
		}
	}
	return now, at, at + 1
}
