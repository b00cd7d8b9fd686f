package inode_test

import (
	"math"
	"strings"

	"coppice/api"
	"coppice/inode"
)

// The calls as the chapter lists them.
var (
	_ func(n api.Inode) api.Errno           = inode.Check
	_ func(n api.Inode) (string, api.Errno) = inode.Encode
	_ func(s string) (api.Inode, api.Errno) = inode.Decode
	_ func(n int) (string, api.Errno)       = inode.Number
	_ func(s string) (int, api.Errno)       = inode.NumberOf
)

// The chapter's bounds, in numbers of their own.
const (
	mostMode   = 4095
	mostLinks  = 1 << 40
	mostSize   = 1 << 62
	mostTarget = 100
	mostValue  = 160
	leastNext  = 2
	mostNext   = 1<<40 + 1
)

// numbers answers ever the same row of numbers, so that a test that fails fails again.
func numbers(seed uint64) func() uint64 {
	return func() uint64 {
		seed ^= seed << 13
		seed ^= seed >> 7
		seed ^= seed << 17
		return seed
	}
}

// eight is a number in eight bytes, as layer 2 has it.
func eight(n uint64) string {
	var s string
	for range 8 {
		s = string([]byte{byte(n % 256)}) + s
		n /= 256
	}
	return s
}

// back is the number of eight bytes.
func back(s string) uint64 {
	var n uint64
	for i := range 8 {
		n = n*256 + uint64(s[i])
	}
	return n
}

// short is a short number, as layer 2 has it.
func short(n uint64) string {
	if n < 128 {
		return string([]byte{byte(n)})
	}
	return string([]byte{byte(n%128 + 128)}) + short(n/128)
}

// shortAt is the short number that s begins with, and how long it is; no length: there is none.
func shortAt(s string) (uint64, int) {
	for size := 1; size <= min(len(s), 10); size++ {
		var n uint64
		for i := size - 1; i >= 0; i-- {
			n = n*128 + uint64(s[i]%128)
		}
		if short(n) == s[:size] { // so it is with no longer way to write it, and with none beyond 64 bits
			return n, size
		}
	}
	return 0, 0
}

// plainRight is what the chapter's words say is right.
func plainRight(n api.Inode) bool {
	file, dir, link := n.Kind == 1, n.Kind == 2, n.Kind == 3
	if !file && !dir && !link {
		return false
	}
	if n.Mode < 0 || n.Mode > mostMode || n.Links < 1 || n.Links > mostLinks || n.Size < 0 || n.Size > mostSize {
		return false
	}
	if dir && n.Links != 1 || (dir || link) && n.Size != 0 {
		return false
	}
	if link {
		return len(n.Target) >= 1 && len(n.Target) <= mostTarget && strings.IndexByte(n.Target, 0) < 0
	}
	return n.Target == ""
}

// plainEncode is Encode by the chapter's words.
func plainEncode(n api.Inode) (string, api.Errno) {
	if !plainRight(n) {
		return "", api.ErrArg
	}
	s := string([]byte{byte(n.Kind)}) + short(uint64(n.Mode)) + eight(uint64(n.Time)) + short(uint64(n.Links))
	if n.Kind == 1 {
		s += short(uint64(n.Size))
	}
	if n.Kind == 3 {
		s += short(uint64(len(n.Target))) + n.Target
	}
	return s, api.OK
}

// plainDecode is Decode by the chapter's words: of all inodes that such bytes may be one alone comes near.
func plainDecode(s string) (api.Inode, api.Errno) {
	n, ok := near(s)
	if is, err := plainEncode(n); ok && err == api.OK && is == s {
		return n, api.OK
	}
	return api.Inode{}, api.ErrForm
}

// near is the one inode whose bytes s may be, if its numbers fit.
func near(s string) (n api.Inode, ok bool) {
	if s == "" {
		return n, false
	}
	n.Kind = int(s[0])
	mode, size := shortAt(s[1:])
	s = s[1+size:]
	if size == 0 || mode > mostMode || len(s) < 8 {
		return n, false
	}
	n.Mode, n.Time = int(mode), int(back(s))
	links, size := shortAt(s[8:])
	if size == 0 || links > mostLinks {
		return n, false
	}
	n.Links = int(links)
	s = s[8+size:]
	last, size := shortAt(s)
	switch {
	case n.Kind == 1 && size > 0 && last <= mostSize:
		n.Size = int(last)
	case n.Kind == 3 && size > 0:
		n.Target = s[size:]
	}
	return n, true
}

// plainNumberOf is NumberOf by the chapter's words.
func plainNumberOf(s string) (int, api.Errno) {
	if len(s) != 8 || back(s) < leastNext || back(s) > mostNext {
		return 0, api.ErrForm
	}
	return int(back(s)), api.OK
}

// kinds are those that there are, others, and some that are these in one byte.
func kinds() []int {
	return []int{math.MinInt, -255, -1, 0, 1, 2, 3, 4, 5, 127, 128, 255, 256, 257, 258, 259, 1<<32 + 1, math.MaxInt}
}

// modes are numbers within a mode's bounds, at them, and beyond.
func modes() []int {
	return []int{math.MinInt, -1, 0, 1, 127, 128, 420, mostMode - 1, mostMode, mostMode + 1, 1 << 16, math.MaxInt}
}

// times are numbers: any is right.
func times() []int {
	return []int{math.MinInt, -5, -1, 0, 1, 1 << 56, math.MaxInt}
}

// links are numbers within the bounds of links, at them, and beyond.
func links() []int {
	return []int{math.MinInt, -1, 0, 1, 2, 127, 128, mostLinks - 1, mostLinks, mostLinks + 1, 1 << 41, math.MaxInt}
}

// sizes are numbers within a size's bounds, at them, and beyond.
func sizes() []int {
	return []int{math.MinInt, -1, 0, 1, 127, 128, 4096, mostSize - 1, mostSize, mostSize + 1, math.MaxInt}
}

// targets are such that a symlink may have, and others.
func targets() []string {
	return []string{"", "x", "../x", "/", "//", "a//b", "\xff", "\x00", "a\x00b", "a\x00", strings.Repeat("a", mostTarget), strings.Repeat("\x00", mostTarget), strings.Repeat("a", mostTarget+1), strings.Repeat("a", 128), strings.Repeat("a", 5000)}
}

// inodes hands on all that these make, those with one of these kinds.
func inodes(ofKinds []int, use func(n api.Inode) bool) {
	for _, kind := range ofKinds {
		for _, mode := range modes() {
			for _, time := range times() {
				for _, link := range links() {
					for _, size := range sizes() {
						for _, target := range targets() {
							if !use(api.Inode{Kind: kind, Mode: mode, Time: time, Links: link, Size: size, Target: target}) {
								return
							}
						}
					}
				}
			}
		}
	}
}

// rightInodes are those of them that are right.
func rightInodes() []api.Inode {
	var list []api.Inode
	inodes([]int{1, 2, 3}, func(n api.Inode) bool {
		if plainRight(n) {
			list = append(list, n)
		}
		return true
	})
	return list
}
