package sparse_test

import (
	"math"
	"slices"
	"strings"

	"coppice/api"
	"coppice/sparse"
)

// The calls as the chapter lists them.
var (
	_ func(l []api.Piece, size int) api.Errno                                       = sparse.Check
	_ func(l []api.Piece, size, off, n int) (string, api.Errno)                     = sparse.Read
	_ func(l []api.Piece, size, off int, data string) ([]api.Piece, int, api.Errno) = sparse.Write
	_ func(l []api.Piece, size, n int) ([]api.Piece, int, api.Errno)                = sparse.Truncate
	_ func(l []api.Piece, size, off, n int) ([]api.Piece, api.Errno)                = sparse.Punch
	_ func(l []api.Piece, size int) ([]api.Range, api.Errno)                        = sparse.Ranges
)

// The chapter's bounds, in numbers of their own.
const (
	pieceBytes = 64
	mostSize   = 1 << 62
	mostData   = 4096
)

// numbers answers ever the same row of numbers, so that a test that fails fails again.
func numbers(seed uint64) func() uint64 {
	return func() uint64 {
		seed ^= seed << 13
		seed ^= seed >> 7
		seed ^= seed << 17
		return seed
	}
}

// plain is a file as a plain list of bytes from base (a multiple of 64) on, all below base being a hole: one byte a place up to the size, and which pieces are there.
type plain struct {
	base  int
	bytes []byte
	there map[int]bool
}

// nothing is a file without pieces whose size is base.
func nothing(base int) *plain {
	if base%pieceBytes != 0 {
		panic("the test itself is wrong: no piece begins there")
	}
	return &plain{base: base, there: map[int]bool{}}
}

// filled is a file of that size with pieces of those indexes, without zeros below the size.
func filled(size int, indexes ...int) *plain {
	f := nothing(0)
	f.bytes = make([]byte, size)
	for _, index := range indexes {
		f.there[index] = true
		for at := index * pieceBytes; at < min(size, (index+1)*pieceBytes); at++ {
			f.bytes[at] = byte(at%251 + 1)
		}
	}
	return f
}

func (f *plain) copy() *plain {
	c := &plain{f.base, slices.Clone(f.bytes), map[int]bool{}}
	for index := range f.there {
		c.there[index] = true
	}
	return c
}

func (f *plain) size() int { return f.base + len(f.bytes) }

// pieces is the file as the program has it.
func (f *plain) pieces() []api.Piece {
	var list []api.Piece
	first := f.base / pieceBytes
	for i := 0; i*pieceBytes < len(f.bytes); i++ {
		if !f.there[first+i] {
			continue
		}
		data := string(f.bytes[i*pieceBytes : min((i+1)*pieceBytes, len(f.bytes))])
		list = append(list, api.Piece{Index: first + i, Data: data + strings.Repeat("\x00", pieceBytes-len(data))})
	}
	return list
}

// read is Read by the chapter's words.
func (f *plain) read(off, n int) (string, api.Errno) {
	if off < 0 || n < 0 || n > mostData {
		return "", api.ErrArg
	}
	s := make([]byte, 0, n)
	for ; n > 0 && off < f.size(); off, n = off+1, n-1 {
		if off < f.base {
			s = append(s, 0)
		} else {
			s = append(s, f.bytes[off-f.base])
		}
	}
	return string(s), api.OK
}

// write is Write by the chapter's words.
func (f *plain) write(off int, data string) api.Errno {
	if off < 0 || len(data) > mostData {
		return api.ErrArg
	}
	if uint64(off)+uint64(len(data)) > mostSize {
		return api.ErrFar
	}
	if data == "" {
		return api.OK
	}
	if off < f.base || off-f.base > 1<<20 {
		panic("the test itself is wrong: so long a list of bytes isn't kept")
	}
	for i := range len(data) {
		for f.size() <= off+i {
			f.bytes = append(f.bytes, 0)
		}
		f.bytes[off+i-f.base] = data[i]
		f.there[(off+i)/pieceBytes] = true
	}
	return api.OK
}

// truncate is Truncate by the chapter's words.
func (f *plain) truncate(n int) api.Errno {
	if n < 0 {
		return api.ErrArg
	}
	if n > mostSize {
		return api.ErrFar
	}
	if n < f.base || n-f.base > 1<<20 {
		panic("the test itself is wrong: so long a list of bytes isn't kept")
	}
	for f.size() < n {
		f.bytes = append(f.bytes, 0)
	}
	f.bytes = f.bytes[:n-f.base]
	for index := range f.there {
		if index*pieceBytes >= n {
			delete(f.there, index)
		}
	}
	return api.OK
}

// punch is Punch by the chapter's words.
func (f *plain) punch(off, n int) api.Errno {
	if off < 0 || n < 0 {
		return api.ErrArg
	}
	among := func(place int) bool {
		return place >= off && uint64(place) < uint64(off)+uint64(n)
	}
	for index := range f.there {
		all := true
		for place := index * pieceBytes; place < (index+1)*pieceBytes && place < f.size(); place++ {
			if among(place) {
				f.bytes[place-f.base] = 0
			} else {
				all = false
			}
		}
		if all {
			delete(f.there, index)
		}
	}
	return api.OK
}

// ranges is Ranges by the chapter's words.
func (f *plain) ranges() []api.Range {
	var list []api.Range
	inside := false
	for place := f.base; place < f.size(); place++ {
		there := f.there[place/pieceBytes]
		if there && !inside {
			list = append(list, api.Range{From: place})
		}
		if there {
			list[len(list)-1].To = place + 1
		}
		inside = there
	}
	return list
}

// edges are places and lengths about a file: those that the chapter names, each with its neighbours.
func edges(size int) []int {
	list := []int{math.MinInt, math.MinInt + 1, -mostSize, -1, math.MaxInt - mostData, math.MaxInt - mostSize, math.MaxInt - 1, math.MaxInt}
	for _, middle := range []int{1, 64, 128, 192, 256, mostData, mostSize / 2, mostSize - 64, mostSize} {
		list = append(list, middle-1, middle, middle+1)
	}
	for _, from := range []int{size, mostSize - size, math.MaxInt - size} {
		for by := -2; by <= 2; by++ {
			if by <= 0 || from <= math.MaxInt-by {
				list = append(list, from+by)
			}
		}
	}
	slices.Sort(list)
	return slices.Compact(list)
}

// some is so many bytes, none of them zero.
func some(next func() uint64, n int) string {
	s := make([]byte, n)
	for i := range s {
		s[i] = byte(next()%255 + 1)
	}
	return string(s)
}
