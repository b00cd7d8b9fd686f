package sparse_test

import (
	"slices"
	"strings"
	"sync"
	"testing"
	"unsafe"

	"coppice/api"
	"coppice/sparse"
)

// shaky is a text in memory that can be written into later on.
func shaky(s string) (string, func()) {
	bytes := []byte(s)
	return unsafe.String(unsafe.SliceData(bytes), len(bytes)), func() {
		for i := range bytes {
			bytes[i] = '#'
		}
	}
}

// ends tells where a text's bytes stand: the first one, and behind the last one.
func ends(s string) (uintptr, uintptr) {
	from := uintptr(unsafe.Pointer(unsafe.StringData(s)))
	return from, from + uintptr(len(s))
}

// share tells whether two texts have bytes in common.
func share(s, o string) bool {
	from, to := ends(s)
	oFrom, oTo := ends(o)
	return s != "" && o != "" && from < oTo && oFrom < to
}

// change is a call that answers pieces.
type change func(l []api.Piece, size int) ([]api.Piece, api.Errno)

// changes are such calls: each leaves pieces as they are, and some make others.
func changes() []change {
	write := func(off int, data string) change {
		return func(l []api.Piece, size int) ([]api.Piece, api.Errno) {
			list, _, err := sparse.Write(l, size, off, data)
			return list, err
		}
	}
	truncate := func(n int) change {
		return func(l []api.Piece, size int) ([]api.Piece, api.Errno) {
			list, _, err := sparse.Truncate(l, size, n)
			return list, err
		}
	}
	punch := func(off, n int) change {
		return func(l []api.Piece, size int) ([]api.Piece, api.Errno) {
			return sparse.Punch(l, size, off, n)
		}
	}
	return []change{
		write(0, ""), write(70, "in the midst"), write(100, strings.Repeat("long", 50)), write(5000, "behind"), write(0, strings.Repeat("all", 200)),
		truncate(100), truncate(128), truncate(500), truncate(5000), truncate(0),
		punch(0, 0), punch(70, 10), punch(64, 64), punch(0, 400), punch(320, 1000), punch(5000, 1),
	}
}

// sample is a file with holes, as a list with room behind its end, in which something stands.
func sample() (l []api.Piece, size int) {
	f := filled(500, 0, 1, 2, 5, 7)
	room := api.Piece{Index: 77, Data: "room"}
	l = append(f.pieces(), room, room, room)
	return l[:len(l)-3], 500
}

func TestWhatIsHandedInStays(t *testing.T) {
	for i, call := range changes() {
		l, size := sample()
		was := slices.Clone(l[:len(l)+3])
		got, err := call(l, size)
		if err != api.OK {
			t.Fatalf("the test itself is wrong: call %d answers %d", i, err)
		}
		for j := range cap(got) {
			got[:cap(got)][j] = api.Piece{Index: -1, Data: "#"}
		}
		sparse.Check(l, size)
		sparse.Read(l, size, 10, 300)
		sparse.Ranges(l, size)
		if !slices.Equal(l[:len(l)+3], was) {
			t.Errorf("P13.4: call %d, or who writes into its answer, changes what was handed in, or the room behind it", i)
		}
	}
}

func TestWhatIsHandedInIsNotKept(t *testing.T) {
	for i, call := range changes() {
		l, size := sample()
		want, _ := call(l, size)
		want = copied(want)
		var shakes []func()
		for j := range l {
			data, shake := shaky(l[j].Data)
			l[j].Data, shakes = data, append(shakes, shake)
		}
		got, _ := call(l, size)
		for _, shake := range shakes {
			shake()
		}
		for j := range l {
			l[j].Index = -5
		}
		if !slices.Equal(got, want) {
			t.Errorf("P13.4: what was handed in is written into, and what call %d answered is now %v", i, got)
		}
	}
	data, shake := shaky(strings.Repeat("d", 64))
	l, _, _ := sparse.Write(nil, 0, 64, data)
	shake()
	if l[0].Data != strings.Repeat("d", 64) {
		t.Errorf("P13.4: the data's bytes are written into, and the piece is %q", l[0].Data)
	}
}

// copied are the same pieces, with bytes of their own.
func copied(l []api.Piece) []api.Piece {
	list := slices.Clone(l)
	for i := range list {
		list[i].Data = strings.Clone(list[i].Data)
	}
	return list
}

func TestWhatIsAnsweredIsNewMemory(t *testing.T) {
	for i, call := range changes() {
		l, size := sample()
		got, _ := call(l, size)
		again, _ := call(l, size)
		for j, p := range got {
			for _, o := range slices.Concat(l, again, got[:j]) {
				if share(p.Data, o.Data) {
					t.Errorf("P13.4: a piece of call %d has memory from elsewhere", i)
				}
			}
		}
		want := slices.Clone(again)
		for j := range cap(got) {
			got[:cap(got)][j] = api.Piece{Index: -1, Data: "#"}
		}
		if !slices.Equal(again, want) {
			t.Errorf("P13.4: two answers of call %d share their list", i)
		}
	}
	l, size := sample()
	for _, place := range []int{0, 64, 10, 200} {
		s, _ := sparse.Read(l, size, place, 64)
		o, _ := sparse.Read(l, size, place, 64)
		if share(s, o) || slices.ContainsFunc(l, func(p api.Piece) bool { return share(p.Data, s) }) {
			t.Errorf("P13.4: what is read at %d has memory from elsewhere", place)
		}
	}
	r, _ := sparse.Ranges(l, size)
	o, _ := sparse.Ranges(l, size)
	want := slices.Clone(o)
	for j := range cap(r) {
		r[:cap(r)][j] = api.Range{From: -1}
	}
	if !slices.Equal(o, want) {
		t.Error("P13.4: two answers of Ranges share their list")
	}
}

func TestNoListIsLikeAnEmptyOne(t *testing.T) {
	room := []api.Piece{{Index: 9, Data: "room"}}
	for i, call := range changes() {
		for _, size := range []int{0, 500} {
			want, wantErr := call(nil, size)
			got, err := call([]api.Piece{}, size)
			other, otherErr := call(room[:0], size)
			if !slices.Equal(got, want) || !slices.Equal(other, want) || err != wantErr || otherErr != wantErr {
				t.Errorf("P0.4: call %d takes no list for another one than an empty one", i)
			}
		}
	}
	if room[0] != (api.Piece{Index: 9, Data: "room"}) {
		t.Errorf("P13.4: the room behind an empty list is written into: %v", room)
	}
	for _, size := range []int{0, 1, 500, mostSize} {
		if s, err := sparse.Read([]api.Piece{}, size, 0, 9); s != strings.Repeat("\x00", min(size, 9)) || err != api.OK {
			t.Errorf("P0.4: Read of an empty list: %q, %d", s, err)
		}
		if r, err := sparse.Ranges([]api.Piece{}, size); len(r) != 0 || err != api.OK {
			t.Errorf("P0.4: Ranges of an empty list: %v, %d", r, err)
		}
	}
}

func TestAnswersHangOnTheArgumentsAlone(t *testing.T) {
	l, size := sample()
	var want [][]api.Piece
	for _, call := range changes() {
		list, _ := call(l, size)
		want = append(want, list)
	}
	text, _ := sparse.Read(l, size, 3, 400)
	rows, _ := sparse.Ranges(l, size)
	var every sync.WaitGroup
	for range 8 {
		every.Go(func() {
			for range 50 {
				for i, call := range changes() {
					if got, err := call(l, size); err != api.OK || !slices.Equal(got, want[i]) {
						t.Errorf("P0.5: call %d answers something else: %v, %d", i, got, err)
					}
				}
				if s, _ := sparse.Read(l, size, 3, 400); s != text {
					t.Errorf("P0.5: Read answers something else: %q", s)
				}
				if r, _ := sparse.Ranges(l, size); !slices.Equal(r, rows) {
					t.Errorf("P0.5: Ranges answers something else: %v", r)
				}
			}
		})
	}
	every.Wait()
}
