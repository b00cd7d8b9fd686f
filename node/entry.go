package node

import (
	"strings"

	"coppice/api"
	"coppice/pack"
)

// writer puts the bytes of a node's entries one behind the other.
type writer struct {
	count   int
	entries []byte
}

// item puts one more, and is how many bytes the node has with it.
func (w *writer) item(one api.Item) int {
	return w.put(pack.Text(one.Key) + pack.Text(one.Value))
}

// kid puts one more, and is how many bytes the node has with it.
func (w *writer) kid(one api.Kid) int {
	return w.put(pack.Text(one.Key) + pack.Short(uint64(one.Place)))
}

// put puts an entry's bytes behind the others.
func (w *writer) put(entry string) int {
	w.count++
	w.entries = append(w.entries, entry...)
	return markSize + len(pack.Short(uint64(w.count))) + len(w.entries)
}

// text is the bytes of the node, which begin with a mark.
func (w *writer) text(mark byte) string {
	return string([]byte{mark}) + pack.Short(uint64(w.count)) + string(w.entries)
}

// each hands all entries to a writer.
func each[E any](list []E, write func(E) int) {
	for _, one := range list {
		write(one)
	}
}

// fitting is how many entries, from the first one on, fit into a node. An entry that may be is never too big alone.
func fitting[E any](list []E, write func(E) int) int {
	for i, one := range list {
		if write(one) > api.MaxPayload {
			return i
		}
	}
	return len(list)
}

// areRight tells whether there are entries, all of which may be, with keys that rise.
func areRight[E any](list []E, keyOf func(E) string, may func(E) bool) bool {
	for i, one := range list {
		if !may(one) || i > 0 && keyOf(one) <= keyOf(list[i-1]) {
			return false
		}
	}
	return len(list) > 0
}

// find is how many keys are below one, up to the first that isn't, and whether that is just the one. They are gone through one by one, as they needn't rise.
func find[E any](list []E, keyOf func(E) string, key string) (int, bool) {
	for i, one := range list {
		if k := keyOf(one); k >= key {
			return i, k == key
		}
	}
	return len(list), false
}

// entries is so many as the number ahead of them says, or fewer, if the reader has an error.
func entries[E any](r *pack.Reader, next func(*pack.Reader) E) []E {
	var list []E
	for count := r.Short(); count > 0 && r.Err() == api.OK; count-- {
		list = append(list, next(r))
	}
	return list
}

// copies is the entries of all lists in one of new memory.
func copies[E any](copyOf func(E) E, lists ...[]E) []E {
	var all []E
	for _, list := range lists {
		for _, one := range list {
			all = append(all, copyOf(one))
		}
	}
	return all
}

func itemKey(one api.Item) string { return one.Key }

func kidKey(one api.Kid) string { return one.Key }

// mayItem tells whether it may stand in a leaf.
func mayItem(one api.Item) bool {
	return one.Key != "" && len(one.Key) <= api.MaxKey && len(one.Value) <= api.MaxValue
}

// mayKid tells whether it may stand in a node with kids. Its key may be empty: nothing is below that.
func mayKid(one api.Kid) bool {
	return len(one.Key) <= api.MaxKey && one.Place >= minPlace && one.Place < api.MaxSectors
}

func readItem(r *pack.Reader) api.Item {
	key := r.Text(api.MaxKey)
	return api.Item{Key: key, Value: r.Text(api.MaxValue)}
}

func readKid(r *pack.Reader) api.Kid {
	key := r.Text(api.MaxKey)
	return api.Kid{Key: key, Place: int(r.Short())}
}

func copyItem(one api.Item) api.Item {
	return api.Item{Key: strings.Clone(one.Key), Value: strings.Clone(one.Value)}
}

func copyKid(one api.Kid) api.Kid {
	return api.Kid{Key: strings.Clone(one.Key), Place: one.Place}
}
