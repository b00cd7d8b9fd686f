package key_test

import (
	"cmp"
	"math"
	"strings"

	"coppice/api"
	"coppice/key"
)

// The calls as the chapter lists them.
var (
	_ func(k api.Key) (string, api.Errno)        = key.Make
	_ func(s string) (api.Key, api.Errno)        = key.Parse
	_ func(kind byte, ino int) (from, to string) = key.Under
)

// The chapter's bounds, in numbers of their own.
const (
	mostIno   = 1 << 40
	mostName  = 255
	mostIndex = 1<<56 - 1
	allKinds  = "nidpx"
	inoKinds  = "idpx"
	nameKinds = "dx"
)

// numbers answers ever the same row of numbers, so that a test that fails fails again.
func numbers(seed uint64) func() uint64 {
	return func() uint64 {
		seed ^= seed << 13
		seed ^= seed >> 7
		seed ^= seed << 17
		return seed
	}
}

// eight is a number in eight bytes, as layer 2 has it.
func eight(n uint64) string {
	var s string
	for range 8 {
		s = string([]byte{byte(n % 256)}) + s
		n /= 256
	}
	return s
}

// back is the number of eight bytes.
func back(s string) uint64 {
	var n uint64
	for i := range 8 {
		n = n*256 + uint64(s[i])
	}
	return n
}

// has tells whether a kind is one of some.
func has(kinds string, kind byte) bool {
	return strings.IndexByte(kinds, kind) >= 0
}

// plainIs is what the chapter's words say is a key.
func plainIs(k api.Key) bool {
	ino, name, index := k.Ino == 0, k.Name == "", k.Index == 0
	if has(inoKinds, k.Kind) {
		ino = 1 <= k.Ino && k.Ino <= mostIno
	}
	if has(nameKinds, k.Kind) {
		name = 1 <= len(k.Name) && len(k.Name) <= mostName
	}
	if k.Kind == 'p' {
		index = 0 <= k.Index && k.Index <= mostIndex
	}
	return has(allKinds, k.Kind) && ino && name && index
}

// plainMake is Make by the chapter's words.
func plainMake(k api.Key) (string, api.Errno) {
	if !plainIs(k) {
		return "", api.ErrKey
	}
	s := string([]byte{k.Kind})
	if has(inoKinds, k.Kind) {
		s += eight(uint64(k.Ino))
	}
	s += k.Name
	if k.Kind == 'p' {
		s += eight(uint64(k.Index))
	}
	return s, api.OK
}

// plainParse is Parse by the chapter's words: of all keys that such bytes may be one alone comes near.
func plainParse(s string) (api.Key, api.Errno) {
	if s == "n" {
		return api.Key{Kind: 'n'}, api.OK
	}
	if len(s) < 9 || !has(inoKinds, s[0]) {
		return api.Key{}, api.ErrKey
	}
	k, ino, index, rest := api.Key{Kind: s[0]}, back(s[1:9]), uint64(0), s[9:]
	switch {
	case has(nameKinds, s[0]):
		if len(rest) < 1 || len(rest) > mostName {
			return api.Key{}, api.ErrKey
		}
		k.Name = rest
	case s[0] == 'p':
		if len(rest) != 8 {
			return api.Key{}, api.ErrKey
		}
		index = back(rest)
	case rest != "":
		return api.Key{}, api.ErrKey
	}
	if ino < 1 || ino > mostIno || index > mostIndex {
		return api.Key{}, api.ErrKey
	}
	k.Ino, k.Index = int(ino), int(index)
	return k, api.OK
}

// plainUnder is Under by the chapter's words.
func plainUnder(kind byte, ino int) (string, string) {
	if !has(inoKinds, kind) || ino < 1 || ino > mostIno {
		return "", ""
	}
	return string([]byte{kind}) + eight(uint64(ino)), string([]byte{kind}) + eight(uint64(ino)+1)
}

// plainOrder is in which order P11.3 says that two keys' texts stand.
func plainOrder(k, l api.Key) int {
	by := cmp.Or(cmp.Compare(k.Kind, l.Kind), cmp.Compare(k.Ino, l.Ino))
	for i := 0; by == 0; i++ {
		switch {
		case i == len(k.Name) && i == len(l.Name):
			return cmp.Compare(k.Index, l.Index)
		case i == len(k.Name):
			return -1
		case i == len(l.Name):
			return 1
		}
		by = cmp.Compare(k.Name[i], l.Name[i])
	}
	return by
}

// inos are numbers within an Ino's bounds, at them, and beyond.
func inos() []int {
	return []int{math.MinInt, -mostIno, -256, -1, 0, 1, 2, 255, 256, 258, 65535, 65536, 1<<32 - 1, 1 << 32, mostIno - 1, mostIno, mostIno + 1, mostIno + 256, 1 << 41, 1 << 56, math.MaxInt}
}

// rightInos are those within.
func rightInos() []int {
	var list []int
	for _, ino := range inos() {
		if ino >= 1 && ino <= mostIno {
			list = append(list, ino)
		}
	}
	return list
}

// indexes are numbers within an Index's bounds, at them, and beyond.
func indexes() []int {
	return []int{math.MinInt, -mostIndex, -1, 0, 1, 255, 256, 1 << 32, mostIno, mostIno + 1, mostIndex - 1, mostIndex, mostIndex + 1, 1 << 57, 1 << 62, math.MaxInt}
}

// rightIndexes are those within.
func rightIndexes() []int {
	var list []int
	for _, index := range indexes() {
		if index >= 0 && index <= mostIndex {
			list = append(list, index)
		}
	}
	return list
}

// rightNames are names, with all bytes, some the beginnings of others.
func rightNames() []string {
	list := []string{"a", "aa", "ab", "a\x00", "a\x00b", "a\xff", "b", ".", "..", "/", "a/b", "n", "\xff", "\xff\xff", "\x00", "\x00\x00", "\x00\x00\x00\x00\x00\x00\x00\x01", "\x00\x00\x00\x00\x00\x00\x00\x01a", "\xc3\xa4"}
	for _, fill := range []string{"\x00", "a", "\xff"} {
		for _, size := range []int{8, 9, 254, mostName} {
			list = append(list, strings.Repeat(fill, size))
		}
	}
	for b := range 256 {
		list = append(list, string([]byte{byte(b)}), "a"+string([]byte{byte(b)}))
	}
	return list
}

// someNames are some of them.
func someNames() []string {
	return rightNames()[:31]
}

// rightKeys are keys of all kinds, with all of these names or with some.
func rightKeys(names []string) []api.Key {
	list := []api.Key{{Kind: 'n'}}
	for _, ino := range rightInos() {
		list = append(list, api.Key{Kind: 'i', Ino: ino})
		for _, name := range names {
			list = append(list, api.Key{Kind: 'd', Ino: ino, Name: name}, api.Key{Kind: 'x', Ino: ino, Name: name})
		}
		for _, index := range rightIndexes() {
			list = append(list, api.Key{Kind: 'p', Ino: ino, Index: index})
		}
	}
	return list
}
