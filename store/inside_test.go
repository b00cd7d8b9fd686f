package store

import (
	"errors"
	"strconv"
	"strings"
	"testing"

	"coppice/api"
	"coppice/disk"
)

// levels is how many levels a tree has.
func (s *Store) levels(t *testing.T, name string) int {
	t.Helper()
	levels := 0
	for place := s.now[name]; place != 0; levels++ {
		n, e := s.heap.Get(place)
		if e != api.OK {
			t.Fatal("a node can't be read", e)
		}
		place = 0
		if !n.Leaf {
			place = n.Kids[0].Place
		}
	}
	return levels
}

func TestPutAndDeleteAreRefusedOnlyWhereLayerEightLetsIt(t *testing.T) {
	deepest, refused := 0, 0
	for sectors := 8; sectors < 130; sectors += 3 {
		d, _ := disk.New(sectors)
		s, _ := Format(d)
		s.Make("t")
		s.Make("u")
		for i := range 600 {
			name, key := "t", strings.Repeat("k", 200)+strconv.Itoa(i*7919%1000)
			if i%5 == 0 {
				name, key = "u", strconv.Itoa(i)
			}
			levels, room, root := s.levels(t, name), s.Room(), s.now[name]
			call := func() api.Errno { return s.Put(name, key, strings.Repeat("v", i%160)) }
			if i%4 == 3 {
				key = strings.Repeat("k", 200) + strconv.Itoa((i/2)*7919%1000)
				call = func() api.Errno { return s.Delete(name, key) }
			}
			e := call()
			deepest = max(deepest, levels)
			if e == api.ErrNoSpace {
				refused++
				if room >= 64 || room >= 4*(levels+1) || s.Room() != room || s.now[name] != root {
					t.Fatalf("P10.1: ErrNoSpace with %d free, %d levels; then %d free", room, levels, s.Room())
				}
				continue
			}
			if e != api.OK {
				t.Fatal("P10.1: Put or Delete", e)
			}
			if i%50 == 0 {
				s.Commit()
			}
		}
	}
	if deepest < 4 || refused < 500 {
		t.Error("the test itself is wrong: levels, calls that were refused:", deepest, refused)
	}
}

func TestWhatIsHeldInTheHeap(t *testing.T) {
	d, _ := disk.New(200)
	s, _ := Format(d)
	for i := range 5 {
		s.Make(strconv.Itoa(i))
		s.Put(strconv.Itoa(i), "a", "1")
	}
	s.Commit()
	s.Copy("1", "x")
	s.Put("2", "b", "2")
	s.Remove("3")
	m, e := Mount(d)
	if e != api.OK {
		t.Fatal("P10.1: Mount", e)
	}
	if s.heap.Gen() != s.gen+1 || m.heap.Gen() != m.gen+1 {
		t.Error("P10.2: what is put is of the generation that the next commit makes", s.heap.Gen(), m.heap.Gen())
	}
	want := map[int]int{s.list: 1}
	for _, roots := range []map[string]int{s.last, s.now} {
		for _, root := range roots {
			want[root]++
		}
	}
	for place := range 200 {
		if s.heap.Count(place) != want[place] {
			t.Errorf("P10.2: a root is held for what there is now, and for what was committed: place %d: %d, want %d", place, s.heap.Count(place), want[place])
		}
	}
}

func TestWhatFailsInside(t *testing.T) {
	if failed("t", api.OK) != nil {
		t.Error("what went well is an error")
	}
	err := failed("t", api.ErrKey)
	if !errors.Is(err, api.ErrKey) || errors.Is(err, api.ErrDown) || api.Code(err) != api.ErrKey || !strings.Contains(err.Error(), strconv.Quote("t")) {
		t.Error("what went wrong isn't told:", err)
	}
}
