package tree

import (
	"cmp"
	"slices"
)

const maxPlans = 4 // that are gone on with, of those with so many nodes side by side

// tall is a plan for a tree with many levels: the cheapest one, of those that put little enough, and of which Diff reads little enough, if there are any.
func (m *maker) tall() plan {
	var plans []plan
	for _, p := range m.rows()[len(m.way)] {
		if len(p.list) == 1 && p.list[0].node.isLonely() {
			p.list = p.list[0].node.list
			p.levels--
		}
		plans = append(plans, crowned(p))
	}
	return slices.MinFunc(plans, func(a, b plan) int {
		return cmp.Or(cmp.Compare(m.fault(a), m.fault(b)), cmp.Compare(a.price(), b.price()))
	})
}

// fault is 0 of a plan that may be, more of one that breaks a bound.
func (m *maker) fault(p plan) int {
	switch {
	case p.levels > maxLevels:
		return 2
	case !m.isWithin(p, m.levels()):
		return 1
	}
	return 0
}

// rows is, for each level from the leaves up, what may come in the place of the node on the way. A node on the way isn't joined with one beside it, so that little is put and given up at each level; one that is too big is split, or its kids are made fewer.
func (m *maker) rows() [][]plan {
	row := []plan{{split(leafOf(m.edit(m.leaf.Items))), 1, 1}}
	rows := [][]plan{row}
	for _, s := range slices.Backward(m.way) {
		var above []plan
		for _, p := range row {
			above = append(above, m.above(s, p)...)
		}
		row = cheapest(above)
		rows = append(rows, row)
	}
	return rows
}

// above is what may come in the place of a node, of whose kids one is replaced by a plan.
func (m *maker) above(s step, p plan) []plan {
	now := draft{list: replaced(draftOf(s.node).list, s.at, s.at+1, p.list)}
	plans := []plan{{split(now), p.gone + 1, p.levels + 1}}
	if now.isBig() {
		if f := m.pressed(now.list); f.list != nil {
			plans = append(plans, plan{split(draft{list: f.list}), p.gone + 1 + f.gone, p.levels + 1})
		}
	}
	return plans
}

// split is a draft in parts; of one without entries there are none.
func split(d draft) []entry {
	if len(d.list) == 0 {
		return nil
	}
	return parts(d, "", false)
}

// cheapest is the cheapest plans, some with each number of nodes side by side.
func cheapest(plans []plan) []plan {
	slices.SortStableFunc(plans, func(a, b plan) int { return cmp.Compare(a.price(), b.price()) })
	met := map[int]int{}
	return slices.DeleteFunc(plans, func(p plan) bool {
		met[len(p.list)]++
		return met[len(p.list)] > maxPlans
	})
}
