package inode_test

import (
	"strings"
	"sync"
	"testing"
	"unsafe"

	"coppice/api"
	"coppice/inode"
)

// shaky is a text in memory that can be written into later on.
func shaky(s string) (string, func()) {
	bytes := []byte(s)
	return unsafe.String(unsafe.SliceData(bytes), len(bytes)), func() {
		for i := range bytes {
			bytes[i] = '#'
		}
	}
}

func TestWhatIsHandedInIsNotKept(t *testing.T) {
	for _, target := range []string{"a", "../x", strings.Repeat("a", 100)} {
		n := link(420, -5, 3, target)
		want, _ := plainEncode(n)
		text, shakeTarget := shaky(target)
		n.Target = text
		made, _ := inode.Encode(n)
		shakeTarget()
		if made != want {
			t.Errorf("P0.3: the target's bytes are written into, and the text is %q; %q is asked", made, want)
		}
		bytes, shakeText := shaky(want)
		decoded, _ := inode.Decode(bytes)
		if bytes != want {
			t.Fatal("P0.3: what was handed in has changed")
		}
		shakeText()
		if decoded.Target != target {
			t.Errorf("P0.3: the text's bytes are written into, and the target is %q", decoded.Target)
		}
	}
}

// ends tells where a text's bytes stand: the first one, and behind the last one.
func ends(s string) (uintptr, uintptr) {
	from := uintptr(unsafe.Pointer(unsafe.StringData(s)))
	return from, from + uintptr(len(s))
}

// share tells whether two texts have bytes in common.
func share(s, o string) bool {
	from, to := ends(s)
	oFrom, oTo := ends(o)
	return s != "" && o != "" && from < oTo && oFrom < to
}

func TestWhatIsAnsweredIsNewMemory(t *testing.T) {
	n := link(420, -5, 3, strings.Repeat("a", 100))
	s, _ := inode.Encode(n)
	o, _ := inode.Encode(n)
	if share(s, o) || share(s, n.Target) {
		t.Error("P0.3: Encode answers memory that it has from elsewhere")
	}
	m, _ := inode.Decode(s)
	p, _ := inode.Decode(s)
	if share(m.Target, p.Target) || share(m.Target, s) {
		t.Error("P0.3: Decode answers memory that it has from elsewhere")
	}
	a, _ := inode.Number(7)
	b, _ := inode.Number(7)
	if share(a, b) {
		t.Error("P0.3: two answers of Number share their memory")
	}
}

func TestAnswersHangOnTheArgumentsAlone(t *testing.T) {
	list := rightInodes()
	var all sync.WaitGroup
	for range 8 {
		all.Go(func() {
			for i, n := range list {
				want, _ := plainEncode(n)
				s, err := inode.Encode(n)
				got, gotErr := inode.Decode(want)
				number, _ := inode.Number(i + 2)
				count, _ := inode.NumberOf(number)
				if s != want || err != api.OK || got != n || gotErr != api.OK || count != i+2 || inode.Check(n) != api.OK {
					t.Errorf("P0.5: of %v: %q, %d, %v, %d, %d", n, s, err, got, gotErr, count)
					return
				}
			}
		})
	}
	all.Wait()
}
