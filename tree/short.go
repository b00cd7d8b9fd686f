package tree

import (
	"slices"

	"coppice/api"
)

// shorter is the cheapest plan with so few levels, and whether there is one: some upper levels are made anew, as few as need be, and what is below them is shared. It isn't there where it would put too much, or Diff would read too much of both trees, unless that may be.
func (m *maker) shorter(most int, within bool) (plan, bool) {
	limit := maxRead
	if !within {
		limit = api.MaxSectors
	}
	rows := m.rows()
	upper, gone := []entry{{place: m.root}}, 0
	for i, s := range m.way {
		if gone += len(upper); gone > limit {
			break
		}
		whole, _, is := m.together(upper)
		if !is {
			break
		}
		upper = whole.list
		p := m.lowered(upper, s, rows[len(m.way)-1-i][0])
		p.gone += gone
		if p.levels <= most && (!within || m.isWithin(p, len(m.way)-i)) {
			return p, true
		}
	}
	return plan{}, false
}

// lowered is a plan whose nodes of one level are the upper ones, but that the one to which the step leads is replaced by a plan.
func (m *maker) lowered(upper []entry, s step, p plan) plan {
	at := slices.IndexFunc(upper, func(e entry) bool { return e.place == s.node.Kids[s.at].Place })
	p.list = replaced(upper, at, at+1, p.list)
	return crowned(p)
}
