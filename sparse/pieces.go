package sparse

import (
	"sort"
	"strings"

	"coppice/api"
)

// places is how many pieces so many bytes are, the last one perhaps in part.
func places(size int) int {
	return (size + api.PieceBytes - 1) / api.PieceBytes
}

// begin is where a piece begins.
func begin(p api.Piece) int {
	return p.Index * api.PieceBytes
}

// below is what of n bytes from off on is below the size. No sum is made of off and n: it may be greater than any int.
func below(size, off, n int) (from, to int) {
	from = min(off, size)
	return from, from + min(n, size-from)
}

// seek is where in l the first piece stands that isn't below that index.
func seek(l []api.Piece, index int) int {
	return sort.Search(len(l), func(at int) bool { return l[at].Index >= index })
}

// touched is from where on, and below where, the pieces stand in l that have bytes from from on, below to.
func touched(l []api.Piece, from, to int) (first, behind int) {
	return seek(l, from/api.PieceBytes), seek(l, places(to))
}

// alike are the same pieces in new memory.
func alike(l []api.Piece) []api.Piece {
	list := make([]api.Piece, len(l))
	for i, p := range l {
		list[i] = api.Piece{Index: p.Index, Data: strings.Clone(p.Data)}
	}
	return list
}

// bytesAt are the bytes of the piece of that index: zeros, where there is none.
func bytesAt(l []api.Piece, index int) [api.PieceBytes]byte {
	var bytes [api.PieceBytes]byte
	if at := seek(l, index); at < len(l) && l[at].Index == index {
		copy(bytes[:], l[at].Data)
	}
	return bytes
}

// lay puts as much of data into bytes as has a place there, if data begins at at, which may be ahead of them.
func lay(bytes []byte, data string, at int) {
	if at < 0 {
		copy(bytes, data[-at:])
		return
	}
	copy(bytes[at:], data)
}

// wiped is a piece whose bytes from from on, below to, are zeros.
func wiped(p api.Piece, from, to int) api.Piece {
	var bytes [api.PieceBytes]byte
	copy(bytes[:], p.Data)
	clear(bytes[inside(p, from):inside(p, to)])
	return api.Piece{Index: p.Index, Data: string(bytes[:])}
}

// inside is where in a piece that place stands, or the end of the piece that is nearest to it.
func inside(p api.Piece, place int) int {
	return min(max(place-begin(p), 0), api.PieceBytes)
}
