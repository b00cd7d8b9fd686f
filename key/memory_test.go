package key_test

import (
	"strings"
	"sync"
	"testing"
	"unsafe"

	"coppice/api"
	"coppice/key"
)

// shaky is a text in memory that can be written into later on.
func shaky(s string) (string, func()) {
	bytes := []byte(s)
	return unsafe.String(unsafe.SliceData(bytes), len(bytes)), func() {
		for i := range bytes {
			bytes[i] = '#'
		}
	}
}

func TestWhatIsHandedInIsNotKept(t *testing.T) {
	for _, k := range rightKeys([]string{"a", "name", strings.Repeat("a", 255)}) {
		want, _ := plainMake(k)
		name, shakeName := shaky(k.Name)
		k.Name = name
		made, _ := key.Make(k)
		shakeName()
		if made != want {
			t.Errorf("P0.3: the name's bytes are written into, and the text is %q; %q is asked", made, want)
		}
		text, shakeText := shaky(want)
		parsed, _ := key.Parse(text)
		if text != want {
			t.Fatal("P0.3: what was handed in has changed")
		}
		shakeText()
		if again, err := key.Make(parsed); again != want || err != api.OK {
			t.Errorf("P0.3: the text's bytes are written into, and the key is %v", parsed)
		}
	}
}

// ends tells where a text's bytes stand: the first one, and behind the last one.
func ends(s string) (uintptr, uintptr) {
	from := uintptr(unsafe.Pointer(unsafe.StringData(s)))
	return from, from + uintptr(len(s))
}

// share tells whether two texts have bytes in common.
func share(s, o string) bool {
	from, to := ends(s)
	oFrom, oTo := ends(o)
	return s != "" && o != "" && from < oTo && oFrom < to
}

func TestWhatIsAnsweredIsNewMemory(t *testing.T) {
	for _, kind := range []byte("dx") {
		k := api.Key{Kind: kind, Ino: 5, Name: strings.Repeat("a", 200)}
		s, _ := key.Make(k)
		o, _ := key.Make(k)
		if share(s, o) || share(s, k.Name) {
			t.Error("P0.3: Make answers memory that it has from elsewhere")
		}
		p, _ := key.Parse(s)
		q, _ := key.Parse(s)
		if share(p.Name, q.Name) || share(p.Name, s) {
			t.Error("P0.3: Parse answers memory that it has from elsewhere")
		}
	}
	from, to := key.Under('d', 5)
	again, more := key.Under('d', 5)
	if share(from, again) || share(to, more) || share(from, to) {
		t.Error("P0.3: two answers of Under share their memory")
	}
}

func TestAnswersHangOnTheArgumentsAlone(t *testing.T) {
	keys := rightKeys(someNames())
	var all sync.WaitGroup
	for range 8 {
		all.Go(func() {
			for _, k := range keys {
				want, _ := plainMake(k)
				from, to := plainUnder(k.Kind, k.Ino)
				s, err := key.Make(k)
				got, gotErr := key.Parse(want)
				gotFrom, gotTo := key.Under(k.Kind, k.Ino)
				if s != want || err != api.OK || got != k || gotErr != api.OK || gotFrom != from || gotTo != to {
					t.Errorf("P0.5: of %v: %q, %d, %v, %d, %q, %q", k, s, err, got, gotErr, gotFrom, gotTo)
					return
				}
			}
		})
	}
	all.Wait()
}
