package node_test

import (
	"slices"
	"strings"

	"coppice/api"
)

// What the chapter says of bounds, in numbers: a test that took api's words would move with them.
const (
	mostKey     = 272
	mostValue   = 160
	leastPlace  = 2
	mostPlace   = 4095
	mostPayload = 1007
)

// plainKeys is the keys of a node's entries, by the chapter's words.
func plainKeys(n api.Node) []string {
	var keys []string
	if n.Leaf {
		for _, one := range n.Items {
			keys = append(keys, one.Key)
		}
		return keys
	}
	for _, one := range n.Kids {
		keys = append(keys, one.Key)
	}
	return keys
}

// plainBelow tells byte by byte whether a text is below another one.
func plainBelow(a, b string) bool {
	for i := range len(a) {
		if i == len(b) {
			return false
		}
		if a[i] != b[i] {
			return a[i] < b[i]
		}
	}
	return len(a) < len(b)
}

// plainRight tells by the chapter's words whether a node is right.
func plainRight(n api.Node) bool {
	keys := plainKeys(n)
	if len(keys) == 0 {
		return false
	}
	if n.Leaf && len(n.Kids) > 0 || !n.Leaf && len(n.Items) > 0 {
		return false
	}
	for i, key := range keys {
		if len(key) > mostKey || n.Leaf && len(key) < 1 {
			return false
		}
		if n.Leaf && len(n.Items[i].Value) > mostValue {
			return false
		}
		if !n.Leaf && (n.Kids[i].Place < leastPlace || n.Kids[i].Place > mostPlace) {
			return false
		}
		if i > 0 && !plainBelow(keys[i-1], key) {
			return false
		}
	}
	return true
}

// plainShort is a short number as the words of layer 2 say it.
func plainShort(n uint64) string {
	var groups []byte
	for rest, first := n, true; first || rest > 0; rest, first = rest/128, false {
		groups = append(groups, byte(rest%128))
	}
	for i := range len(groups) - 1 {
		groups[i] += 128
	}
	return string(groups)
}

// plainText is a text as the words of layer 2 say it.
func plainText(s string) string {
	return plainShort(uint64(len(s))) + s
}

// plainBytes is what a node's bytes would be, whether it is right or not.
func plainBytes(n api.Node) string {
	var s strings.Builder
	if n.Leaf {
		s.WriteString("\x01" + plainShort(uint64(len(n.Items))))
		for _, one := range n.Items {
			s.WriteString(plainText(one.Key) + plainText(one.Value))
		}
		return s.String()
	}
	s.WriteString("\x02" + plainShort(uint64(len(n.Kids))))
	for _, one := range n.Kids {
		s.WriteString(plainText(one.Key) + plainShort(uint64(one.Place)))
	}
	return s.String()
}

// plainCheck is Check as the chapter's words say it.
func plainCheck(n api.Node) api.Errno {
	if !plainRight(n) {
		return api.ErrNode
	}
	if len(plainBytes(n)) > mostPayload {
		return api.ErrBig
	}
	return api.OK
}

// plainSize is Size as the chapter's words say it.
func plainSize(n api.Node) int {
	if !plainRight(n) {
		return 0
	}
	return len(plainBytes(n))
}

// plainNumber takes a number off the beginning of s, however long it is written; -1: there is none of few bytes.
func plainNumber(s string) (int, string) {
	n := 0
	for i := range min(len(s), 4) {
		n += int(s[i]%128) << (7 * i)
		if s[i] < 128 {
			return n, s[i+1:]
		}
	}
	return -1, ""
}

// plainCut takes a text off the beginning of s.
func plainCut(s string) (text, rest string, ok bool) {
	n, rest := plainNumber(s)
	if n < 0 || n > len(rest) {
		return "", "", false
	}
	return rest[:n], rest[n:], true
}

// plainDecode looks for a node that has just these bytes.
func plainDecode(s string) (api.Node, api.Errno) {
	var n api.Node
	if s == "" || s[0] != 1 && s[0] != 2 {
		return api.Node{}, api.ErrNode
	}
	n.Leaf = s[0] == 1
	_, rest := plainNumber(s[1:])
	for rest != "" {
		key, behind, ok := plainCut(rest)
		if !ok {
			return api.Node{}, api.ErrNode
		}
		if n.Leaf {
			var value string
			value, rest, ok = plainCut(behind)
			if !ok {
				return api.Node{}, api.ErrNode
			}
			n.Items = append(n.Items, api.Item{Key: key, Value: value})
			continue
		}
		var place int
		place, rest = plainNumber(behind)
		n.Kids = append(n.Kids, api.Kid{Key: key, Place: place})
	}
	if plainCheck(n) != api.OK || plainBytes(n) != s {
		return api.Node{}, api.ErrNode
	}
	return n, api.OK
}

// plainFind is Find as the chapter's words say it.
func plainFind(n api.Node, key string) (int, bool) {
	keys := plainKeys(n)
	below := 0
	for below < len(keys) && plainBelow(keys[below], key) {
		below++
	}
	return below, below < len(keys) && keys[below] == key
}

// plainPart is a node's entries from one on, below another one.
func plainPart(n api.Node, from, to int) api.Node {
	if n.Leaf {
		return api.Node{Leaf: true, Items: slices.Clone(n.Items[from:to])}
	}
	return api.Node{Kids: slices.Clone(n.Kids[from:to])}
}

// plainSplit tries for each part whether it may have one entry more.
func plainSplit(n api.Node) []api.Node {
	if !plainRight(n) {
		return nil
	}
	var parts []api.Node
	all := len(plainKeys(n))
	for from, to := 0, 0; from < all; from = to {
		for to < all && len(plainBytes(plainPart(n, from, to+1))) <= mostPayload {
			to++
		}
		parts = append(parts, plainPart(n, from, to))
	}
	return parts
}

// plainJoin is Join as the chapter's words say it.
func plainJoin(a, b api.Node) (api.Node, bool) {
	if a.Leaf != b.Leaf {
		return api.Node{}, false
	}
	n := api.Node{Leaf: a.Leaf}
	if n.Leaf {
		n.Items = slices.Concat(a.Items, b.Items)
	} else {
		n.Kids = slices.Concat(a.Kids, b.Kids)
	}
	if plainCheck(n) != api.OK {
		return api.Node{}, false
	}
	return n, true
}
