package path_test

import (
	"math"
	"strings"

	"coppice/api"
	"coppice/path"
)

// The calls as the chapter lists them.
var (
	_ func(s string) bool                             = path.Name
	_ func(p string) ([]string, api.Errno)            = path.Split
	_ func(names ...string) (string, api.Errno)       = path.Join
	_ func(p string) ([]string, api.Errno)            = path.Loose
	_ func(ino int) (string, api.Errno)               = path.Orphan
	_ func(name string) (int, bool)                   = path.OrphanOf
	_ func(s string) bool                             = path.Target
	_ func(target string) ([]string, bool, api.Errno) = path.Lead
)

// The chapter's bounds, in numbers of their own.
const (
	mostName   = 255
	mostPath   = 1023
	mostLoose  = 1037
	mostDepth  = 32
	mostIno    = 1 << 40
	mostTarget = 100
)

// numbers answers ever the same row of numbers, so that a test that fails fails again.
func numbers(seed uint64) func() uint64 {
	return func() uint64 {
		seed ^= seed << 13
		seed ^= seed >> 7
		seed ^= seed << 17
		return seed
	}
}

// plainName is Name by the chapter's words.
func plainName(s string) bool {
	for i := range len(s) {
		if s[i] == 0x2f || s[i] == 0 {
			return false
		}
	}
	return 1 <= len(s) && len(s) <= mostName && s != "." && s != ".."
}

// plainOrphanOf is OrphanOf by the chapter's words.
func plainOrphanOf(s string) (int, bool) {
	if len(s) < 2 || len(s) > 14 || s[0] != 0 || s[1] == '0' {
		return 0, false
	}
	ino := 0
	for i := 1; i < len(s); i++ {
		if s[i] < '0' || s[i] > '9' {
			return 0, false
		}
		ino = 10*ino + int(s[i]-'0')
	}
	if ino < 1 || ino > mostIno {
		return 0, false
	}
	return ino, true
}

// plainOrphan is Orphan by the chapter's words.
func plainOrphan(ino int) (string, api.Errno) {
	if ino < 1 || ino > mostIno {
		return "", api.ErrArg
	}
	s := ""
	for ; ino > 0; ino /= 10 {
		s = string([]byte{byte('0' + ino%10)}) + s
	}
	return "\x00" + s, api.OK
}

// plainDown are the names of what begins with a slash; loose: the first one may be an orphan's.
func plainDown(p string, size int, loose bool) ([]string, bool) {
	if p == "/" {
		return nil, true
	}
	if len(p) > size || len(p) == 0 || p[0] != '/' {
		return nil, false
	}
	names := strings.Split(p[1:], "/")
	for i, name := range names {
		_, orphan := plainOrphanOf(name)
		if !plainName(name) && !(loose && i == 0 && orphan) {
			return nil, false
		}
	}
	if len(names) > mostDepth {
		return nil, false
	}
	return names, true
}

// plainTarget is Target by the chapter's words.
func plainTarget(s string) bool {
	for i := range len(s) {
		if s[i] == 0 {
			return false
		}
	}
	return 1 <= len(s) && len(s) <= mostTarget
}

// plainLead is Lead by the chapter's words: the names, from the root or not, and whether it leads anywhere.
func plainLead(s string) ([]string, bool, bool) {
	if !plainTarget(s) {
		return nil, false, false
	}
	if names, is := plainDown(s, mostPath, false); is {
		return names, true, true
	}
	names := strings.Split(s, "/")
	for _, name := range names {
		if !plainName(name) && name != ".." {
			return nil, false, false
		}
	}
	if len(names) > mostDepth {
		return nil, false, false
	}
	return names, false, true
}

// plainJoin is Join by the chapter's words.
func plainJoin(names []string) (string, api.Errno) {
	p := ""
	for _, name := range names {
		if !plainName(name) {
			return "", api.ErrName
		}
		p += "/" + name
	}
	if p == "" {
		p = "/"
	}
	if len(p) > mostPath || len(names) > mostDepth {
		return "", api.ErrName
	}
	return p, api.OK
}

// code is ErrName of what is not.
func code(is bool) api.Errno {
	if is {
		return api.OK
	}
	return api.ErrName
}

// short are all texts of these letters that have at most size bytes.
func short(letters string, size int) []string {
	list := []string{""}
	for from := 0; size > 0; size-- {
		to := len(list)
		for _, s := range list[from:to] {
			for i := range len(letters) {
				list = append(list, s+letters[i:i+1])
			}
		}
		from = to
	}
	return list
}

// inos are numbers within an inode's bounds, at them, and beyond.
func inos() []int {
	list := []int{math.MinInt, math.MinInt + 1, -mostIno, -7, -1, 0, mostIno - 1, mostIno, mostIno + 1, mostIno + 10, 1 << 41, 1 << 56, math.MaxInt - 1, math.MaxInt}
	for ino := 1; ino < mostIno; ino *= 10 {
		list = append(list, ino-1, ino, ino+1, 2*ino, 7*ino+3)
	}
	for n := range 300 {
		list = append(list, n)
	}
	return list
}

// rightNames are names: with all bytes that a name may have, at its bounds, with runes of any length, and with bytes that are no text.
func rightNames() []string {
	list := []string{"...", "....", ".a", "..a", "a.", "a..", ". ", " ", "\\", "~", "a b", "\n", "\xff", "\xff\xfe", "\xc0\xaf", "\xc0\x80", "\xe0\x80\xaf", "\xe2\x82", "\xe2", "\xf0\x9f\x98", "\x80\x80", "\xc3\xa4", "\xe2\x82\xac", "\xf0\x9f\x98\x80", "\xef\xbf\xbd", "\xed\xa0\x80", "7", "07", "1099511627776"}
	for b := 1; b < 256; b++ {
		if b != '/' {
			list = append(list, "a"+string([]byte{byte(b)}))
		}
		if b != '/' && b != '.' {
			list = append(list, string([]byte{byte(b)}), string([]byte{byte(b)})+"a")
		}
	}
	for _, fill := range []string{"a", ".", "\xff", "\x80"} {
		for _, size := range []int{3, 100, 254, mostName} {
			list = append(list, strings.Repeat(fill, size))
		}
	}
	return list
}

// wrongNames are texts that are no names.
func wrongNames() []string {
	list := []string{"", ".", "..", "/", "//", "a/", "/a", "a/b", "../a", "a\x00", "\x00", "\x00a", "a\x00b", "\x007", "\xff/", "/\xff", "\xe2/", "\xe2\x82/a", "\xf0\x9f\x98/", "\xff\x00", "\xe2\x82\x00", "\xc3\x00\xa4", "\xc3/\xa4"}
	for _, fill := range []string{"a", ".", "\xff", "/", "\x00"} {
		for _, size := range []int{mostName + 1, mostName + 2, 511, 1000, 70000} {
			list = append(list, strings.Repeat(fill, size))
		}
	}
	for _, at := range []int{0, 100, 254} {
		a := strings.Repeat("a", mostName)
		list = append(list, a[:at]+"/"+a[at+1:], a[:at]+"\x00"+a[at+1:])
	}
	return list
}

// sized are names that, each with a slash ahead, have just so many bytes; each has at most a name's.
func sized(bytes, names int) []string {
	list := make([]string, names)
	for i := range list {
		left := names - i
		size := (bytes - 1) / left
		list[i] = strings.Repeat(string([]byte{byte('a' + i%26)}), size)
		if left == 1 {
			list[i] = strings.Repeat("z", bytes-1)
		}
		bytes -= 1 + len(list[i])
	}
	return list
}

// slashed is names, each with a slash ahead, whatever they are.
func slashed(names []string) string {
	return strings.Join(append([]string{""}, names...), "/")
}
