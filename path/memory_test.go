package path_test

import (
	"slices"
	"strings"
	"sync"
	"testing"
	"unsafe"

	"coppice/api"
	"coppice/path"
)

// shaky is a text in memory that can be written into later on.
func shaky(s string) (string, func()) {
	bytes := []byte(s)
	return unsafe.String(unsafe.SliceData(bytes), len(bytes)), func() {
		for i := range bytes {
			bytes[i] = '#'
		}
	}
}

// fromText are the calls that answer names of a text.
func fromText() []func(s string) ([]string, api.Errno) {
	return []func(s string) ([]string, api.Errno){path.Split, path.Loose, func(s string) ([]string, api.Errno) {
		names, _, err := path.Lead(s)
		return names, err
	}}
}

func TestWhatIsHandedInIsNotKept(t *testing.T) {
	for i, call := range fromText() {
		p, shake := shaky("/some/names/of/a/path")
		names, err := call(p)
		if p != "/some/names/of/a/path" {
			t.Fatal("P0.3: what was handed in has changed")
		}
		shake()
		if !slices.Equal(names, []string{"some", "names", "of", "a", "path"}) || err != api.OK {
			t.Errorf("P0.3: the path's bytes are written into, and the names that call %d answered are %q", i, names)
		}
	}
	one, shake := shaky("one")
	p, _ := path.Join(one)
	q, _ := path.Join("a", one, "b")
	shake()
	if p != "/one" || q != "/a/one/b" {
		t.Errorf("P0.3: the name's bytes are written into, and the paths are %q, %q", p, q)
	}
}

func TestNamesThatAreHandedInAreNotChanged(t *testing.T) {
	for _, names := range [][]string{{"a", "b", "c", "behind"}, {"a", "", "c", "behind"}} {
		was := slices.Clone(names)
		path.Join(names[:3]...)
		path.Join(names[:0]...)
		if !slices.Equal(names, was) {
			t.Errorf("P0.3: Join changes its names: %q", names)
		}
	}
	names := []string{"a", "b"}
	p, _ := path.Join(names...)
	names[0] = "c"
	if p != "/a/b" {
		t.Errorf("P0.3: the list is written into, and the path is %q", p)
	}
}

// ends tells where a text's bytes stand: the first one, and behind the last one.
func ends(s string) (uintptr, uintptr) {
	from := uintptr(unsafe.Pointer(unsafe.StringData(s)))
	return from, from + uintptr(len(s))
}

// share tells whether two texts have bytes in common.
func share(s, o string) bool {
	from, to := ends(s)
	oFrom, oTo := ends(o)
	return s != "" && o != "" && from < oTo && oFrom < to
}

func TestWhatIsAnsweredIsNewMemory(t *testing.T) {
	p := "/some/longer names/of/a path"
	for i, call := range fromText() {
		names, _ := call(p)
		again, _ := call(p)
		for j := range names {
			if share(names[j], p) || share(names[j], again[j]) {
				t.Errorf("P0.3: call %d answers memory that it has from elsewhere", i)
			}
		}
		for j := range cap(names) {
			names[:cap(names)][j] = "#"
		}
		if third, _ := call(p); !slices.Equal(again, third) || slices.Contains(again, "#") {
			t.Errorf("P0.3: two answers of call %d share their list", i)
		}
	}
	name := strings.Repeat("a", 200)
	one, _ := path.Join(name)
	two, _ := path.Join(name)
	if share(one, name) || share(one, two) {
		t.Error("P0.3: Join answers memory that it has from elsewhere")
	}
	first, _ := path.Orphan(12345678)
	second, _ := path.Orphan(12345678)
	if share(first, second) {
		t.Error("P0.3: two answers of Orphan share their memory")
	}
}

func TestAnswersHangOnTheArgumentsAlone(t *testing.T) {
	texts := short("/.a\x00\xff", 5)
	next := anyNames(16)
	for range 300 {
		texts = append(texts, slashed(next()))
	}
	var every sync.WaitGroup
	for range 8 {
		every.Go(func() {
			for _, s := range texts {
				all(t, s)
				if t.Failed() {
					return
				}
			}
			for _, ino := range inos() {
				want, wantErr := plainOrphan(ino)
				if got, err := path.Orphan(ino); got != want || err != wantErr {
					t.Errorf("P0.5: Orphan of %d: %q, %d", ino, got, err)
				}
			}
		})
	}
	every.Wait()
}
