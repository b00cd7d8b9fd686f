package tree

import (
	"slices"

	"coppice/api"
	"coppice/heap"
)

// How far it is looked for what can be made fewer. Where nothing is found within these bounds, the kids are so many, or what hangs on them branches so much, that a disk has no room for many such nodes above one another.
const (
	maxList = 64 // kids of which some may be made fewer
	maxRun  = 8  // kids that may be made fewer at once
	maxDeep = 4  // levels below them that may be changed for it
)

// press makes kids fewer that stand side by side.
type press struct {
	reader
	err   api.Errno // the first one that was met
	known map[stretch]fewer
}

// stretch is nodes of the other tree that stand side by side, and so many levels below them.
type stretch struct {
	first, last, count, deep int
}

// fewer is kids that come in the place of more, and how many nodes are given up for them. Without kids it is told that there is no such thing.
type fewer struct {
	list []entry
	gone int
}

// pressOf is a press that knows nothing yet.
func pressOf(h *heap.Heap) press {
	return press{reader: reader{h, map[int]api.Node{}}, known: map[stretch]fewer{}}
}

// tell keeps the first error.
func (p *press) tell(err api.Errno) {
	if p.err == api.OK {
		p.err = err
	}
}

// open is what a kid leads to, and how many nodes are given up where that is changed.
func (p *press) open(kid entry) (draft, int) {
	if kid.place == 0 {
		return kid.node, 0
	}
	n, err := p.get(kid.place)
	p.tell(err)
	return draftOf(n), 1
}

// together is one draft with all that kids lead to that stand side by side, how many nodes are given up for it, and whether they are of one kind. The first entry of each of them that has kids gets the key by which that one is found: its own needn't be above the keys ahead of it.
func (p *press) together(kids []entry) (draft, int, bool) {
	var whole draft
	gone := 0
	for i, kid := range kids {
		d, one := p.open(kid)
		if len(d.list) == 0 || i > 0 && d.leaf != whole.leaf {
			return draft{}, 0, false
		}
		first := len(whole.list)
		whole = draft{d.leaf, append(whole.list, d.list...)}
		if !d.leaf {
			whole.list[first].key = kid.key
		}
		gone += one
	}
	return whole, gone, len(kids) > 0
}

// pressed is kids of a node that is too big, made fewer so that it isn't, with as few levels below them changed as may be.
func (p *press) pressed(kids []entry) fewer {
	for deep := range maxDeep + 1 {
		if f := p.squeezed(kids, 1, deep); f.list != nil {
			return f
		}
	}
	return fewer{}
}

// squeezed is kids made fewer so that so few nodes have them: again and again the best run of them is made fewer.
func (p *press) squeezed(kids []entry, most, deep int) fewer {
	if len(kids) > maxList {
		return fewer{}
	}
	gone := 0
	for range kids {
		if nodesFor(kids) <= most {
			return fewer{kids, gone}
		}
		best := p.bestRun(kids, most, deep)
		if best.list == nil {
			break
		}
		kids = replaced(kids, best.from, best.to, best.list)
		gone += best.gone
	}
	return fewer{}
}

// nodesFor is how many nodes some kids need.
func nodesFor(kids []entry) int { return len(parts(draft{list: kids}, "", true)) }

// run is kids that stand side by side, and what may come in their place.
type run struct {
	fewer
	from, to int
	enough   bool // so few nodes have all kids then as are to
	saved    int  // bytes
	price    int
}

// bestRun is the run that is best made fewer.
func (p *press) bestRun(kids []entry, most, deep int) run {
	var best run
	for from := range kids {
		for to := from + 2; to <= min(from+maxRun, len(kids)); to++ {
			r := p.runOf(kids, from, to, most, deep)
			if r.list != nil && (best.list == nil || r.isBetter(best)) {
				best = r
			}
			if r.enough {
				break
			}
		}
	}
	return best
}

// runOf is one run, made fewer if it can be.
func (p *press) runOf(kids []entry, from, to, most, deep int) run {
	old := kids[from:to]
	f := p.fewerOf(old, deep)
	if f.list == nil {
		return run{}
	}
	now := replaced(kids, from, to, f.list)
	return run{
		fewer:  f,
		from:   from,
		to:     to,
		enough: nodesFor(now) <= most,
		saved:  draft{list: kids}.size() - draft{list: now}.size(),
		price:  max(plan{list: f.list, gone: f.gone}.price()-plan{list: old}.price(), 1),
	}
}

// isBetter tells whether a run is enough at a lesser price than another one, or, where none is enough, saves more for its price.
func (r run) isBetter(other run) bool {
	if r.enough && other.enough {
		return r.price < other.price
	}
	return r.enough || !other.enough && r.saved*other.price > other.saved*r.price
}

// fewerOf is kids made fewer, with so many levels below them changed at most. Of those of the other tree it is kept.
func (p *press) fewerOf(kids []entry, deep int) fewer {
	if slices.ContainsFunc(kids, func(kid entry) bool { return kid.place == 0 }) {
		return p.thinned(kids, deep)
	}
	what := stretch{kids[0].place, kids[len(kids)-1].place, len(kids), deep}
	f, is := p.known[what]
	if !is {
		f = p.thinned(kids, deep)
		p.known[what] = f
	}
	return f
}

// thinned is kids made fewer: by nodes that are fuller, or by making fewer first what hangs on them.
func (p *press) thinned(kids []entry, deep int) fewer {
	whole, gone, is := p.together(kids)
	if !is {
		return fewer{}
	}
	if list := parts(whole, "", true); len(list) < len(kids) {
		return fewer{list, gone}
	}
	if whole.leaf || deep == 0 {
		return fewer{}
	}
	below := p.squeezed(whole.list, len(kids)-1, deep-1)
	if below.list == nil {
		return fewer{}
	}
	return fewer{parts(draft{list: below.list}, "", true), gone + below.gone}
}
