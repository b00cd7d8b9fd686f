package key_test

import (
	"cmp"
	"math"
	"strings"
	"testing"

	"coppice/api"
	"coppice/key"
)

const seven = "\x00\x00\x00\x00\x00\x00\x00"

// makes holds Make against what it should answer.
func makes(t *testing.T, k api.Key, want string, wantErr api.Errno) {
	t.Helper()
	if s, err := key.Make(k); s != want || err != wantErr {
		t.Errorf("P11.1: Make of %q, Ino %d, Name %q, Index %d: %q, %d; %q, %d is asked", k.Kind, k.Ino, k.Name, k.Index, s, err, want, wantErr)
	}
}

// parses holds Parse against what it should answer.
func parses(t *testing.T, s string, want api.Key, wantErr api.Errno) {
	t.Helper()
	if k, err := key.Parse(s); k != want || err != wantErr {
		t.Errorf("P11.1: Parse of %q: %v, %d; %v, %d is asked", s, k, err, want, wantErr)
	}
}

// stops ends a test of very many cases at the first ones that fail.
func stops(t *testing.T) {
	t.Helper()
	if t.Failed() {
		t.FailNow()
	}
}

func TestExamples(t *testing.T) {
	for _, one := range []struct {
		k api.Key
		s string
	}{
		{api.Key{Kind: api.KeyName, Ino: 1, Name: "a"}, "d" + seven + "\x01a"},
		{api.Key{Kind: api.KeyNext}, "n"},
		{api.Key{Kind: api.KeyInode, Ino: 1}, "i" + seven + "\x01"},
		{api.Key{Kind: api.KeyInode, Ino: 1 << 40}, "i\x00\x00\x01\x00\x00\x00\x00\x00"},
		{api.Key{Kind: api.KeyAttr, Ino: 258, Name: "\x00/"}, "x\x00\x00\x00\x00\x00\x00\x01\x02\x00/"},
		{api.Key{Kind: api.KeyPiece, Ino: 2, Index: 0}, "p" + seven + "\x02" + seven + "\x00"},
		{api.Key{Kind: api.KeyPiece, Ino: 2, Index: 1<<56 - 1}, "p" + seven + "\x02\x00\xff\xff\xff\xff\xff\xff\xff"},
	} {
		makes(t, one.k, one.s, api.OK)
		parses(t, one.s, one.k, api.OK)
	}
}

func TestMakeAtTheBounds(t *testing.T) {
	longest := strings.Repeat("\xff", 255)
	for _, ino := range []int{1, 1 << 40} {
		at := eight(uint64(ino))
		makes(t, api.Key{Kind: 'i', Ino: ino}, "i"+at, api.OK)
		for _, name := range []string{"a", "\x00", longest} {
			makes(t, api.Key{Kind: 'd', Ino: ino, Name: name}, "d"+at+name, api.OK)
			makes(t, api.Key{Kind: 'x', Ino: ino, Name: name}, "x"+at+name, api.OK)
		}
		makes(t, api.Key{Kind: 'p', Ino: ino}, "p"+at+eight(0), api.OK)
		makes(t, api.Key{Kind: 'p', Ino: ino, Index: 1<<56 - 1}, "p"+at+eight(1<<56-1), api.OK)
	}
	for _, ino := range []int{math.MinInt, -1, 0, 1<<40 + 1, math.MaxInt} {
		for _, kind := range []byte("idpx") {
			makes(t, api.Key{Kind: kind, Ino: ino}, "", api.ErrKey)
			makes(t, api.Key{Kind: kind, Ino: ino, Name: "a"}, "", api.ErrKey)
		}
	}
	for _, kind := range []byte("dx") {
		makes(t, api.Key{Kind: kind, Ino: 1}, "", api.ErrKey)
		makes(t, api.Key{Kind: kind, Ino: 1, Name: longest + "a"}, "", api.ErrKey)
		makes(t, api.Key{Kind: kind, Ino: 1, Name: strings.Repeat(longest, 1000)}, "", api.ErrKey)
	}
	for _, index := range []int{math.MinInt, -1, 1 << 56, math.MaxInt} {
		makes(t, api.Key{Kind: 'p', Ino: 1, Index: index}, "", api.ErrKey)
	}
}

func TestMakeOfFieldsThatTheKindDoesNotName(t *testing.T) {
	for _, n := range []int{-1, 1, math.MinInt, math.MaxInt} {
		makes(t, api.Key{Kind: 'n', Ino: n}, "", api.ErrKey)
		for _, kind := range []byte("nidx") {
			k := api.Key{Kind: kind, Index: n}
			if kind != 'n' {
				k.Ino = 1
			}
			if kind == 'd' || kind == 'x' {
				k.Name = "a"
			}
			makes(t, k, "", api.ErrKey)
		}
	}
	makes(t, api.Key{Kind: 'n', Name: "a"}, "", api.ErrKey)
	makes(t, api.Key{Kind: 'i', Ino: 1, Name: "a"}, "", api.ErrKey)
	makes(t, api.Key{Kind: 'p', Ino: 1, Name: "a"}, "", api.ErrKey)
	makes(t, api.Key{Kind: 'p', Ino: 1, Name: "a", Index: 1}, "", api.ErrKey)
}

func TestMakeOfAllKindsAndFields(t *testing.T) {
	names := []string{"", "a", "\x00", strings.Repeat("a", 255), strings.Repeat("a", 256)}
	for kind := range 256 {
		for _, ino := range inos() {
			for _, name := range names {
				for _, index := range indexes() {
					k := api.Key{Kind: byte(kind), Ino: ino, Name: name, Index: index}
					want, wantErr := plainMake(k)
					makes(t, k, want, wantErr)
				}
			}
		}
		stops(t)
	}
	for _, k := range rightKeys(rightNames()) {
		want, err := plainMake(k)
		if err != api.OK {
			t.Fatal("the test itself is wrong")
		}
		makes(t, k, want, api.OK)
		stops(t)
	}
}

func TestParseOfAllFirstBytesAndLengths(t *testing.T) {
	next := numbers(11)
	lengths := []int{250, 262, 263, 264, 265, 266, 300, 1000, 100000}
	for n := range 30 {
		lengths = append(lengths, n)
	}
	numbersAhead := []string{seven + "\x00", seven + "\x01", "\x00\x00\x01\x00\x00\x00\x00\x00", "\x00\x00\x01\x00\x00\x00\x00\x01", "\x00\x00\x02\x00\x00\x00\x00\x00", "\x80" + seven, "\x80" + seven[1:] + "\x01", "\x01" + seven, "\xff\xff\xff\xff\xff\xff\xff\xff"}
	taken := 0
	for first := range 256 {
		for _, size := range lengths {
			for _, ahead := range numbersAhead {
				rest := make([]byte, max(size-9, 0))
				for i := range rest {
					rest[i] = byte(next())
				}
				s := (string([]byte{byte(first)}) + ahead + string(rest))[:size]
				want, wantErr := plainParse(s)
				parses(t, s, want, wantErr)
				if wantErr == api.OK {
					taken++
				}
			}
		}
		stops(t)
	}
	if taken < 100 {
		t.Error("the test itself is wrong: too few texts are keys'")
	}
}

func TestParseOfNumbersThatAreNoKeys(t *testing.T) {
	wrong := api.Key{}
	for _, ino := range []uint64{0, 1<<40 + 1, 1 << 41, 1 << 56, 1<<56 + 1, 1 << 63, 1<<63 + 1, 1<<64 - 1} {
		parses(t, "i"+eight(ino), wrong, api.ErrKey)
		parses(t, "d"+eight(ino)+"a", wrong, api.ErrKey)
		parses(t, "x"+eight(ino)+"a", wrong, api.ErrKey)
		parses(t, "p"+eight(ino)+eight(0), wrong, api.ErrKey)
	}
	for _, index := range []uint64{1 << 56, 1<<56 + 1, 1 << 57, 1 << 62, 1 << 63, 1<<63 + 1, 1<<64 - 1} {
		parses(t, "p"+eight(1)+eight(index), wrong, api.ErrKey)
	}
	parses(t, "p"+eight(1<<40)+eight(1<<56-1), api.Key{Kind: 'p', Ino: 1 << 40, Index: 1<<56 - 1}, api.OK)
}

func TestParseOfWrongLengths(t *testing.T) {
	wrong := api.Key{}
	for _, s := range []string{"", "i", "d", "p", "x", "nn", "n\x00", "n" + eight(0), "n" + eight(1), "N", "a", "\x00", eight(1), "i" + eight(1) + "\x00", "i" + eight(1) + "a", "d" + eight(1), "x" + eight(1), "p" + eight(1), "p" + eight(1) + seven, "p" + eight(1) + eight(1) + "\x00", "d" + eight(1) + strings.Repeat("a", 256), "x" + eight(1) + strings.Repeat("a", 256)} {
		parses(t, s, wrong, api.ErrKey)
	}
	for size := range 9 {
		for _, kind := range []string{"i", "d", "p", "x"} {
			parses(t, (kind + eight(1))[:size], wrong, api.ErrKey)
		}
	}
}

func TestThereAndBack(t *testing.T) {
	for _, k := range rightKeys(rightNames()) {
		s, err := key.Make(k)
		if got, gotErr := key.Parse(s); err != api.OK || gotErr != api.OK || got != k {
			t.Errorf("P11.2: %v has the text %q, %d, which is of %v, %d", k, s, err, got, gotErr)
		}
	}
}

// bent is a text with some of its bytes other ones, some more, some fewer.
func bent(s string, next func() uint64) string {
	b := []byte(s)
	for range next() % 3 {
		at := int(next() % uint64(len(b)+1))
		switch {
		case next()%3 == 0:
			b = append(b[:at:at], append([]byte{byte(next())}, b[at:]...)...)
		case at < len(b) && next()%2 == 0:
			b = append(b[:at:at], b[at+1:]...)
		case at < len(b):
			b[at] = byte(next())
		}
	}
	return string(b)
}

func TestWhatIsParsedHasJustThisText(t *testing.T) {
	next := numbers(12)
	taken, refused := 0, 0
	for _, k := range rightKeys(someNames()) {
		s, _ := plainMake(k)
		for range 20 {
			text := bent(s, next)
			want, wantErr := plainParse(text)
			parses(t, text, want, wantErr)
			got, err := key.Parse(text)
			if err != api.OK {
				refused++
				continue
			}
			taken++
			if again, err := key.Make(got); again != text || err != api.OK {
				t.Errorf("P11.2: %q is parsed, but its key has the text %q, %d", text, again, err)
			}
		}
	}
	if taken < 1000 || refused < 1000 {
		t.Error("the test itself is wrong: ", taken, refused)
	}
}

func TestTextsStandInTheKeysOrder(t *testing.T) {
	keys := rightKeys(someNames())
	texts := make([]string, len(keys))
	for i, k := range keys {
		texts[i], _ = key.Make(k)
	}
	for i, k := range keys {
		for j, l := range keys {
			if got, want := cmp.Compare(texts[i], texts[j]), plainOrder(k, l); got != want {
				t.Fatalf("P11.3: the texts of %v and %v stand by %d; %d is asked", k, l, got, want)
			}
		}
	}
}

func TestTextsStandInTheNamesOrder(t *testing.T) {
	names := rightNames()
	for _, kind := range []byte("dx") {
		for _, name := range names {
			for _, other := range names {
				k, l := api.Key{Kind: kind, Ino: 1, Name: name}, api.Key{Kind: kind, Ino: 1, Name: other}
				s, _ := key.Make(k)
				o, _ := key.Make(l)
				if got, want := cmp.Compare(s, o), plainOrder(k, l); got != want {
					t.Fatalf("P11.3: the texts of %v and %v stand by %d; %d is asked", k, l, got, want)
				}
			}
		}
	}
}

func TestUnder(t *testing.T) {
	for kind := range 256 {
		for _, ino := range inos() {
			from, to := key.Under(byte(kind), ino)
			if wantFrom, wantTo := plainUnder(byte(kind), ino); from != wantFrom || to != wantTo {
				t.Errorf("P11.1: Under of %d, %d: %q, %q; %q, %q is asked", kind, ino, from, to, wantFrom, wantTo)
			}
		}
	}
	if from, to := key.Under(api.KeyAttr, 255); from != "x"+seven+"\xff" || to != "x\x00\x00\x00\x00\x00\x00\x01\x00" {
		t.Errorf("P11.1: Under of x, 255: %q, %q", from, to)
	}
	if from, to := key.Under(api.KeyPiece, 1<<40); from != "p"+eight(1<<40) || to != "p"+eight(1<<40+1) {
		t.Errorf("P11.1: Under of p, the greatest: %q, %q", from, to)
	}
}

func TestJustTheKeysOfANumberStandUnderIt(t *testing.T) {
	within := 0
	for _, k := range rightKeys(someNames()) {
		s, _ := key.Make(k)
		for _, ino := range append(inos(), k.Ino-1, k.Ino, k.Ino+1) {
			for _, kind := range []byte("idpx") {
				from, to := key.Under(kind, ino)
				want := k.Kind == kind && k.Ino == ino
				if got := from <= s && s < to; got != want {
					t.Fatalf("P11.4: %v stands under %q, %d: %t", k, kind, ino, got)
				}
				if want {
					within++
				}
			}
		}
	}
	if within < 1000 {
		t.Error("the test itself is wrong: ", within)
	}
}
