package sparse_test

import (
	"math"
	"slices"
	"strings"
	"testing"

	"coppice/api"
	"coppice/sparse"
)

func piece(index int, data string) api.Piece { return api.Piece{Index: index, Data: data} }

func span(from, to int) api.Range { return api.Range{From: from, To: to} }

// holds asks a file for all that the calls that change nothing answer.
func holds(t *testing.T, promise string, f *plain, l []api.Piece, size int) {
	t.Helper()
	if size != f.size() || !slices.Equal(l, f.pieces()) {
		t.Fatalf("%s: the size is %d, and not %d; the pieces are\n%v, and not\n%v", promise, size, f.size(), l, f.pieces())
	}
	if err := sparse.Check(l, size); err != api.OK {
		t.Errorf("P13.1: Check of what was answered: %d", err)
	}
	if got, err := sparse.Ranges(l, size); err != api.OK || !slices.Equal(got, f.ranges()) {
		t.Errorf("P13.1: Ranges: %v, %d and not %v", got, err, f.ranges())
	}
	for off := f.base; off < size; off += mostData {
		reads(t, promise, f, off, mostData)
	}
}

// reads holds Read against the plain list.
func reads(t *testing.T, promise string, f *plain, off, n int) {
	t.Helper()
	want, wantErr := f.read(off, n)
	if got, err := sparse.Read(f.pieces(), f.size(), off, n); got != want || err != wantErr {
		t.Errorf("%s: Read of %d, %d where the size is %d: %q, %d and not %q, %d", promise, off, n, f.size(), got, err, want, wantErr)
	}
}

// writes holds Write against the plain list, which is written, too.
func writes(t *testing.T, promise string, f *plain, off int, data string) {
	t.Helper()
	l, size := f.pieces(), f.size()
	want := f.write(off, data)
	got, n, err := sparse.Write(l, size, off, data)
	answered(t, promise, f, got, n, err, want)
}

// truncates holds Truncate against the plain list, which is truncated, too.
func truncates(t *testing.T, promise string, f *plain, n int) {
	t.Helper()
	l, size := f.pieces(), f.size()
	want := f.truncate(n)
	got, n, err := sparse.Truncate(l, size, n)
	answered(t, promise, f, got, n, err, want)
}

// punches holds Punch against the plain list, which is punched, too.
func punches(t *testing.T, promise string, f *plain, off, n int) {
	t.Helper()
	l, size := f.pieces(), f.size()
	want := f.punch(off, n)
	got, err := sparse.Punch(l, size, off, n)
	if err != api.OK {
		size = 0 // as beside an error of the others
	}
	answered(t, promise, f, got, size, err, want)
}

// answered holds what a call answered against a file, or against the error that is due.
func answered(t *testing.T, promise string, f *plain, l []api.Piece, size int, err, want api.Errno) {
	t.Helper()
	if err != want {
		t.Errorf("%s: it answers %d, and not %d", promise, err, want)
		return
	}
	if err != api.OK {
		if len(l) != 0 || size != 0 {
			t.Errorf("P0.2: beside an error: %v, %d", l, size)
		}
		return
	}
	holds(t, promise, f, l, size)
}

func TestTheExamples(t *testing.T) {
	l, size, err := sparse.Write(nil, 0, 200, "x")
	x := strings.Repeat("\x00", 8) + "x" + strings.Repeat("\x00", 55)
	if err != api.OK || size != 201 || !slices.Equal(l, []api.Piece{{Index: 3, Data: x}}) {
		t.Fatalf("P13.1: Write of x at 200: %v, %d, %d", l, size, err)
	}
	if p, err := sparse.Punch(l, size, 192, 9); err != api.OK || len(p) != 0 {
		t.Errorf("P13.1: Punch of 192, 9: %v, %d", p, err)
	}
	if r, err := sparse.Ranges(l, size); err != api.OK || !slices.Equal(r, []api.Range{{From: 192, To: 201}}) {
		t.Errorf("P13.1: Ranges: %v, %d", r, err)
	}
}

// wrongBytes are bytes that aren't right.
func wrongBytes() []struct {
	why  string
	l    []api.Piece
	size int
} {
	full := strings.Repeat("x", 64)
	tail := func(n int) string { return full[:n] + strings.Repeat("\x00", 64-n) }
	last := 1<<56 - 1
	return []struct {
		why  string
		l    []api.Piece
		size int
	}{
		{"an index twice", []api.Piece{piece(0, full), piece(0, full)}, 300},
		{"a later index twice", []api.Piece{piece(0, full), piece(2, full), piece(2, full)}, 300},
		{"indexes that fall", []api.Piece{piece(1, full), piece(0, full)}, 300},
		{"indexes that fall by much", []api.Piece{piece(0, full), piece(3, full), piece(1, full)}, 300},
		{"an index below 0", []api.Piece{piece(-1, full)}, 300},
		{"an index below 0 ahead of others", []api.Piece{piece(-1, full), piece(0, full)}, 300},
		{"the least index", []api.Piece{piece(math.MinInt, full)}, 300},
		{"an index whose place no int holds", []api.Piece{piece(1<<58, full)}, 300},
		{"another one", []api.Piece{piece(1<<58+1, full)}, 300},
		{"the greatest index", []api.Piece{piece(math.MaxInt, full)}, 300},
		{"the greatest index, the greatest size", []api.Piece{piece(math.MaxInt, full)}, mostSize},
		{"a piece at the size", []api.Piece{piece(1, tail(0))}, 64},
		{"a piece at the size behind another one", []api.Piece{piece(0, full), piece(1, tail(0))}, 64},
		{"a piece beyond the size", []api.Piece{piece(2, tail(0))}, 65},
		{"a piece and no size", []api.Piece{piece(0, tail(0))}, 0},
		{"a piece beyond the greatest size", []api.Piece{piece(last+1, tail(0))}, mostSize},
		{"a piece of no bytes", []api.Piece{piece(0, "")}, 300},
		{"a piece of too few bytes", []api.Piece{piece(0, full[:63])}, 300},
		{"a last piece up to the size alone", []api.Piece{piece(0, full[:10])}, 10},
		{"a piece of too many bytes", []api.Piece{piece(0, full+"\x00")}, 300},
		{"a second piece of too few bytes", []api.Piece{piece(0, full), piece(1, full[:63])}, 300},
		{"a byte at the size", []api.Piece{piece(0, tail(11))}, 10},
		{"a byte behind the size", []api.Piece{piece(0, tail(10)[:63]+"x")}, 10},
		{"a byte between", []api.Piece{piece(0, tail(10)[:30]+"\x01"+tail(0)[31:])}, 10},
		{"the last byte, beyond the size", []api.Piece{piece(0, full)}, 63},
		{"a byte at the size of a later piece", []api.Piece{piece(0, full), piece(4, tail(45))}, 300},
		{"a byte above the size near the greatest one", []api.Piece{piece(last, full)}, mostSize - 1},
		{"a size below 0", nil, -1},
		{"the least size", nil, math.MinInt},
		{"a size below 0, and a piece", []api.Piece{piece(0, tail(0))}, -1},
		{"a size above the greatest one", nil, mostSize + 1},
		{"the greatest int", nil, math.MaxInt},
		{"a size above the greatest one, and a piece", []api.Piece{piece(0, full)}, mostSize + 64},
	}
}

func TestBytesThatAreNotRight(t *testing.T) {
	for _, c := range wrongBytes() {
		if err := sparse.Check(c.l, c.size); err != api.ErrForm {
			t.Errorf("P13.1: Check of %s: %d", c.why, err)
		}
		for _, off := range []int{-1, 0, 1, mostSize + 1, math.MaxInt} { // Check's error is named ahead of all others
			for _, n := range []int{-1, 0, 1, mostData + 1} {
				if s, err := sparse.Read(c.l, c.size, off, n); s != "" || err != api.ErrForm {
					t.Errorf("P13.1: Read of %s: %q, %d", c.why, s, err)
				}
				if l, err := sparse.Punch(c.l, c.size, off, n); len(l) != 0 || err != api.ErrForm {
					t.Errorf("P13.1: Punch of %s: %v, %d", c.why, l, err)
				}
			}
			for _, data := range []string{"", "x", strings.Repeat("x", mostData+1)} {
				if l, size, err := sparse.Write(c.l, c.size, off, data); len(l) != 0 || size != 0 || err != api.ErrForm {
					t.Errorf("P13.1: Write to %s: %v, %d, %d", c.why, l, size, err)
				}
			}
			if l, size, err := sparse.Truncate(c.l, c.size, off); len(l) != 0 || size != 0 || err != api.ErrForm {
				t.Errorf("P13.1: Truncate of %s: %v, %d, %d", c.why, l, size, err)
			}
		}
		if r, err := sparse.Ranges(c.l, c.size); len(r) != 0 || err != api.ErrForm {
			t.Errorf("P13.1: Ranges of %s: %v, %d", c.why, r, err)
		}
	}
}

func TestBytesThatAreRight(t *testing.T) {
	full := strings.Repeat("x", 64)
	zeros := strings.Repeat("\x00", 64)
	last := 1<<56 - 1
	for _, c := range []struct {
		l    []api.Piece
		size int
	}{
		{nil, 0}, {[]api.Piece{}, 0}, {nil, 1}, {nil, mostSize - 1}, {nil, mostSize},
		{[]api.Piece{piece(0, full)}, 64}, {[]api.Piece{piece(0, full)}, 65}, {[]api.Piece{piece(0, full)}, mostSize},
		{[]api.Piece{piece(0, full[:63]+"\x00")}, 63}, {[]api.Piece{piece(0, "x"+zeros[1:])}, 1},
		{[]api.Piece{piece(0, zeros)}, 1}, {[]api.Piece{piece(1, zeros)}, 65},
		{[]api.Piece{piece(0, full), piece(1, full), piece(9, full)}, 640}, {[]api.Piece{piece(3, full)}, 256},
		{[]api.Piece{piece(last, full)}, mostSize}, {[]api.Piece{piece(last, full[:63]+"\x00")}, mostSize - 1},
		{[]api.Piece{piece(last, "x"+zeros[1:])}, mostSize - 63},
		{[]api.Piece{piece(0, full), piece(last-1, full), piece(last, full)}, mostSize},
	} {
		if err := sparse.Check(c.l, c.size); err != api.OK {
			t.Errorf("P13.1: Check of %v, %d: %d", c.l, c.size, err)
		}
	}
}

// files are files of many sizes, with all choices among their pieces.
func files() []*plain {
	var list []*plain
	for _, size := range []int{0, 1, 63, 64, 65, 128, 129, 191, 192, 200} {
		places := (size + 63) / 64
		for choice := range 1 << places {
			var indexes []int
			for index := range places {
				if choice>>index&1 == 1 {
					indexes = append(indexes, index)
				}
			}
			list = append(list, filled(size, indexes...))
		}
	}
	return list
}

func TestReadAtEachEdge(t *testing.T) {
	for _, f := range files() {
		for _, off := range edges(f.size()) {
			for _, n := range edges(f.size()) {
				reads(t, "P13.1", f, off, n)
			}
		}
		if t.Failed() {
			return
		}
	}
}

func TestReadIsWhatIsThere(t *testing.T) {
	for _, f := range files() {
		for off := range f.size() + 2 {
			for n := 0; n <= f.size()+1; n += 1 + off%3 {
				reads(t, "P13.3", f, off, n)
			}
		}
		if t.Failed() {
			return
		}
	}
}

func TestPunchAtEachEdge(t *testing.T) {
	for _, f := range files() {
		for _, off := range edges(f.size()) {
			for _, n := range edges(f.size()) {
				punches(t, "P13.1", f.copy(), off, n)
			}
		}
		if t.Failed() {
			return
		}
	}
}

func TestPunchMakesJustItsBytesZeros(t *testing.T) {
	f := filled(200, 0, 1, 2, 3)
	for off := range 202 {
		for n := range 202 {
			punches(t, "P13.3", f.copy(), off, n)
		}
		if t.Failed() {
			return
		}
	}
}

func TestTruncateToEachSize(t *testing.T) {
	for _, f := range files() {
		for n := -1; n <= 270; n++ {
			c := f.copy()
			truncates(t, "P13.3", c, n)
			truncates(t, "P13.3", c, f.size()) // what was cut off isn't there any more
			truncates(t, "P13.3", c, 300)
		}
		if t.Failed() {
			return
		}
	}
}

func TestTruncateAtEachEdge(t *testing.T) {
	for _, f := range files() {
		for _, n := range edges(f.size()) {
			if n >= 0 && n < f.size() {
				continue // the plain lists are asked for these
			}
			want, wantSize, wantErr := f.pieces(), n, api.OK
			if n < 0 {
				want, wantSize, wantErr = nil, 0, api.ErrArg
			} else if n > mostSize {
				want, wantSize, wantErr = nil, 0, api.ErrFar
			}
			l, size, err := sparse.Truncate(f.pieces(), f.size(), n)
			if err != wantErr || size != wantSize || !slices.Equal(l, want) {
				t.Errorf("P13.1: Truncate to %d where the size is %d: %v, %d, %d", n, f.size(), l, size, err)
			}
			if err == api.OK && sparse.Check(l, size) != api.OK {
				t.Errorf("P13.1: what Truncate to %d answers isn't right", n)
			}
		}
		if t.Failed() {
			return
		}
	}
}

func TestWriteAtEachEdge(t *testing.T) {
	for _, f := range files() {
		for _, off := range edges(f.size()) {
			for _, n := range []int{0, 1, 63, 64, 65, 200, mostData, mostData + 1} {
				data := strings.Repeat("w", n)
				if off < 1<<20 || n > mostData || uint64(off)+uint64(n) > mostSize || n == 0 {
					writes(t, "P13.1", f.copy(), off, data)
				} else {
					writesFar(t, f, off, data)
				}
			}
		}
		if t.Failed() {
			return
		}
	}
}

// writesFar holds a Write far behind all pieces against what it should answer: the pieces that were there, and new ones.
func writesFar(t *testing.T, f *plain, off int, data string) {
	t.Helper()
	l, size, err := sparse.Write(f.pieces(), f.size(), off, data)
	g := nothing(off / pieceBytes * pieceBytes)
	if g.write(off, data) != api.OK {
		t.Fatal("the test itself is wrong")
	}
	want := append(f.pieces(), g.pieces()...)
	if err != api.OK || size != off+len(data) || !slices.Equal(l, want) || sparse.Check(l, size) != api.OK {
		t.Errorf("P13.1: Write of %d bytes at %d: %d pieces, size %d, %d", len(data), off, len(l), size, err)
	}
	if s, err := sparse.Read(l, size, off, len(data)); s != data || err != api.OK {
		t.Errorf("P13.2: written at %d, it is read as %q, %d", off, s, err)
	}
	if s, err := sparse.Read(l, size, off-100, 100); s != strings.Repeat("\x00", 100) || err != api.OK {
		t.Errorf("P13.3: the hole ahead of %d is read as %q, %d", off, s, err)
	}
}

func TestWriteOfNothingChangesNothing(t *testing.T) {
	for _, f := range files() {
		for _, off := range []int{0, 1, f.size(), f.size() + 1, mostSize} {
			l, size, err := sparse.Write(f.pieces(), f.size(), off, "")
			if err != api.OK {
				t.Errorf("P13.1: Write of nothing at %d: %d", off, err)
				continue
			}
			holds(t, "P13.1", f, l, size)
		}
		if _, _, err := sparse.Write(f.pieces(), f.size(), mostSize+1, ""); err != api.ErrFar {
			t.Errorf("P13.1: Write of nothing beyond the greatest size: %d", err)
		}
	}
}

func TestAPieceOfZerosIsThere(t *testing.T) {
	f := filled(200, 0)
	writes(t, "P13.1", f, 127, strings.Repeat("\x00", 2))
	if l, _, _ := sparse.Write(filled(200, 0).pieces(), 200, 127, "\x00\x00"); len(l) != 3 {
		t.Errorf("P13.1: all of a piece that has some of data's bytes is there, zeros too: %v", l)
	}
	g := filled(200, 0, 1, 2, 3)
	punches(t, "P13.1", g, 0, 63)
	punches(t, "P13.1", g, 63, 1) // both leave nothing but zeros, and yet the piece is there until one call has all of it
	if len(g.pieces()) != 4 {
		t.Error("the test itself is wrong")
	}
	punches(t, "P13.1", g, 0, 64)
	punches(t, "P13.1", g, 192, 8)
	if len(g.pieces()) != 2 {
		t.Error("the test itself is wrong")
	}
}

func TestRanges(t *testing.T) {
	for _, c := range []struct {
		size    int
		indexes []int
		want    []api.Range
	}{
		{0, nil, nil}, {500, nil, nil},
		{64, []int{0}, []api.Range{span(0, 64)}},
		{1, []int{0}, []api.Range{span(0, 1)}},
		{500, []int{0}, []api.Range{span(0, 64)}},
		{500, []int{7}, []api.Range{span(448, 500)}},
		{500, []int{0, 1, 2}, []api.Range{span(0, 192)}},
		{500, []int{0, 2}, []api.Range{span(0, 64), span(128, 192)}},
		{500, []int{1, 2, 4, 6, 7}, []api.Range{span(64, 192), span(256, 320), span(384, 500)}},
		{512, []int{6, 7}, []api.Range{span(384, 512)}},
		{449, []int{0, 6, 7}, []api.Range{span(0, 64), span(384, 449)}},
	} {
		f := filled(c.size, c.indexes...)
		if got, err := sparse.Ranges(f.pieces(), c.size); err != api.OK || !slices.Equal(got, c.want) {
			t.Errorf("P13.1: Ranges of %v, %d: %v, %d", c.indexes, c.size, got, err)
		}
	}
	full := strings.Repeat("x", 64)
	last := 1<<56 - 1
	got, err := sparse.Ranges([]api.Piece{piece(0, full), piece(last-2, full), piece(last, full)}, mostSize)
	if want := []api.Range{span(0, 64), span(mostSize-192, mostSize-128), span(mostSize-64, mostSize)}; err != api.OK || !slices.Equal(got, want) {
		t.Errorf("P13.1: Ranges up to the greatest size: %v, %d", got, err)
	}
}

func TestAnyStepsOneBehindTheOther(t *testing.T) {
	for seed, base := range []int{0, 0, 0, 64, 6400, 1 << 40, mostSize - 1024, mostSize - 1024, mostSize - 64} {
		next := numbers(uint64(77 + seed))
		below := func(n int) int { return int(next() % uint64(n)) }
		f := nothing(base)
		for range 3000 {
			room := min(len(f.bytes)+200, mostSize-base+3)
			switch below(8) {
			case 0:
				truncates(t, "P13.3", f, base+below(room))
			case 1:
				f.truncate(base + min(len(f.bytes), 700)) // so that the list stays short
			case 2, 3:
				punches(t, "P13.3", f, base+below(room), below(150))
			case 4:
				punches(t, "P13.3", f, base+below(room)/64*64, 64*below(4))
			case 5:
				writes(t, "P13.2", f, base+below(room), strings.Repeat("\x00", below(100)))
			default:
				writes(t, "P13.2", f, base+below(room), some(next, below(150)))
			}
			reads(t, "P13.2", f, max(0, base-100+below(room)), below(300))
			if t.Failed() {
				return
			}
		}
	}
}

func TestLongWrites(t *testing.T) {
	next := numbers(5)
	f := nothing(0)
	for _, off := range []int{0, 3, 4096, 10000, 9999, 64, 1} {
		writes(t, "P13.2", f, off, some(next, mostData))
		writes(t, "P13.2", f, off+100, some(next, mostData-1))
		writes(t, "P13.2", f, off, some(next, mostData+1))
	}
	for off := 0; off < f.size(); off += 97 {
		reads(t, "P13.2", f, off, mostData)
		reads(t, "P13.1", f, off, mostData+1)
	}
	punches(t, "P13.3", f, 1000, 8000)
	punches(t, "P13.3", f, 64, math.MaxInt)
}
