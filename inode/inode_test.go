package inode_test

import (
	"math"
	"strings"
	"testing"

	"coppice/api"
	"coppice/disk"
	"coppice/heap"
	"coppice/inode"
	"coppice/tree"
)

const (
	seven = "\x00\x00\x00\x00\x00\x00\x00"
	zeros = seven + "\x00"
)

// encodes holds Check and Encode against what they should answer.
func encodes(t *testing.T, n api.Inode, want string, wantErr api.Errno) {
	t.Helper()
	if err := inode.Check(n); err != wantErr {
		t.Errorf("P14.1: Check of %v: %d; %d is asked", n, err, wantErr)
	}
	if s, err := inode.Encode(n); s != want || err != wantErr {
		t.Errorf("P14.1: Encode of %v: %q, %d; %q, %d is asked", n, s, err, want, wantErr)
	}
}

// decodes holds Decode against what it should answer.
func decodes(t *testing.T, s string, want api.Inode, wantErr api.Errno) {
	t.Helper()
	if n, err := inode.Decode(s); n != want || err != wantErr {
		t.Errorf("P14.1: Decode of %q: %v, %d; %v, %d is asked", s, n, err, want, wantErr)
	}
}

// refuses holds Decode against texts that are no inode's bytes.
func refuses(t *testing.T, texts ...string) {
	t.Helper()
	for _, s := range texts {
		decodes(t, s, api.Inode{}, api.ErrForm)
	}
}

// counts holds NumberOf against what it should answer.
func counts(t *testing.T, s string, want int, wantErr api.Errno) {
	t.Helper()
	if n, err := inode.NumberOf(s); n != want || err != wantErr {
		t.Errorf("P14.1: NumberOf %q: %d, %d; %d, %d is asked", s, n, err, want, wantErr)
	}
}

// stops ends a test of very many cases at the first ones that fail.
func stops(t *testing.T) {
	t.Helper()
	if t.Failed() {
		t.FailNow()
	}
}

func file(mode, time, links, size int) api.Inode {
	return api.Inode{Kind: api.File, Mode: mode, Time: time, Links: links, Size: size}
}

func dir(mode, time int) api.Inode {
	return api.Inode{Kind: api.Dir, Mode: mode, Time: time, Links: 1}
}

func link(mode, time, links int, target string) api.Inode {
	return api.Inode{Kind: api.Link, Mode: mode, Time: time, Links: links, Target: target}
}

func TestExamples(t *testing.T) {
	for _, one := range []struct {
		n api.Inode
		s string
	}{
		{dir(0, 0), "\x02\x00" + zeros + "\x01"},
		{dir(4095, -1), "\x02\xff\x1f\xff\xff\xff\xff\xff\xff\xff\xff\x01"},
		{file(0, 0, 1, 0), "\x01\x00" + zeros + "\x01\x00"},
		{file(420, 258, 300, 200), "\x01\xa4\x03\x00\x00\x00\x00\x00\x00\x01\x02\xac\x02\xc8\x01"},
		{file(127, math.MinInt, 1<<40, 1<<62), "\x01\x7f\x80" + seven + "\x80\x80\x80\x80\x80\x20\x80\x80\x80\x80\x80\x80\x80\x80\x40"},
		{link(128, math.MaxInt, 2, "../x"), "\x03\x80\x01\x7f\xff\xff\xff\xff\xff\xff\xff\x02\x04../x"},
		{link(0, 0, 1, strings.Repeat("a", 100)), "\x03\x00" + zeros + "\x01\x64" + strings.Repeat("a", 100)},
	} {
		encodes(t, one.n, one.s, api.OK)
		decodes(t, one.s, one.n, api.OK)
	}
	if s, err := inode.Number(2); s != seven+"\x02" || err != api.OK {
		t.Errorf("P14.1: the first next number: %q, %d", s, err)
	}
	counts(t, seven+"\x02", 2, api.OK)
}

func TestInodesOfEachKindAndOfNone(t *testing.T) {
	for _, kind := range []int{math.MinInt, -1, 0, 4, 255, 256, 257, 258, 259, math.MaxInt} {
		for _, n := range []api.Inode{{}, dir(0, 0), file(0, 0, 1, 0), file(420, 0, 2, 9), link(0, 0, 1, "x")} {
			n.Kind = kind
			encodes(t, n, "", api.ErrArg)
		}
	}
	for _, n := range []api.Inode{
		{Kind: api.File}, {Kind: api.Dir}, {Kind: api.Link, Target: "x"},
		{Kind: api.Dir, Links: 2}, {Kind: api.Dir, Links: 1 << 40}, {Kind: api.Dir, Links: 1, Size: 1}, {Kind: api.Dir, Links: 1, Target: "x"},
		{Kind: api.File, Links: 1, Target: "x"}, {Kind: api.File, Links: 1, Target: "\x00"},
		{Kind: api.Link, Links: 1}, {Kind: api.Link, Links: 1, Size: 1, Target: "x"}, {Kind: api.Link, Links: 1, Size: 1},
	} {
		encodes(t, n, "", api.ErrArg)
	}
}

func TestInodesAtTheBounds(t *testing.T) {
	for _, n := range []api.Inode{dir(0, 0), file(0, 0, 1, 0), link(0, 0, 1, "x")} {
		for value, right := range map[int]bool{math.MinInt: false, -1: false, 0: true, 4095: true, 4096: false, math.MaxInt: false} {
			m := n
			m.Mode = value
			atBound(t, "mode", m, right)
		}
		for value, right := range map[int]bool{math.MinInt: false, -1: false, 0: false, 1: true, 2: true, 1 << 40: true, 1<<40 + 1: false, math.MaxInt: false} {
			m := n
			m.Links = value
			if n.Kind == api.Dir && value != 1 {
				right = false
			}
			atBound(t, "links", m, right)
		}
		for value, right := range map[int]bool{math.MinInt: false, -1: false, 0: true, 1: true, 1 << 62: true, 1<<62 + 1: false, math.MaxInt: false} {
			m := n
			m.Size = value
			if n.Kind != api.File && value != 0 {
				right = false
			}
			atBound(t, "size", m, right)
		}
		for _, value := range []int{math.MinInt, math.MinInt + 1, -5, -1, 0, 1, math.MaxInt - 1, math.MaxInt} {
			m := n
			m.Time = value
			atBound(t, "time", m, true)
		}
		for value, right := range map[string]bool{"": false, "x": true, "/": true, "a\x00b": false, strings.Repeat("a", 100): true, strings.Repeat("a", 101): false} {
			m := n
			m.Target = value
			if n.Kind != api.Link {
				right = value == ""
			}
			atBound(t, "target", m, right)
		}
	}
}

// atBound tells whether Check takes an inode that is right, and refuses one that isn't.
func atBound(t *testing.T, what string, n api.Inode, right bool) {
	t.Helper()
	want := api.OK
	if !right {
		want = api.ErrArg
	}
	if err := inode.Check(n); err != want {
		t.Errorf("P14.1: the %s of %v: %d; %d is asked", what, n, err, want)
	}
	s, _ := plainEncode(n)
	encodes(t, n, s, want)
}

func TestInodesOfAllFields(t *testing.T) {
	taken := 0
	inodes(kinds(), func(n api.Inode) bool {
		want, wantErr := plainEncode(n)
		encodes(t, n, want, wantErr)
		if wantErr == api.OK {
			taken++
		}
		return !t.Failed()
	})
	if taken < 1000 {
		t.Error("the test itself is wrong: too few inodes are right")
	}
}

func TestDecodeOfCutTextsAndOfMore(t *testing.T) {
	for i, n := range rightInodes() {
		s, _ := plainEncode(n)
		decodes(t, s, n, api.OK)
		for size := range len(s) {
			if size < 30 || i%50 == 0 {
				refuses(t, s[:size])
			}
		}
		refuses(t, s+"\x00", s+"\x01", s+"\xff", s+s, "\x00"+s, s+strings.Repeat("\x00", 1000))
		stops(t)
	}
	refuses(t, "")
}

// variants are short numbers, those of some values, and others: cut, longer than they need be, longer than numbers may be.
func variants(values ...uint64) []string {
	list := []string{"", "\x80", "\xff\xff", "\x80\x00", "\x81\x00", "\x81\x80\x00", "\xff\xff\xff\xff\xff\xff\xff\xff\xff\x02", "\x80\x80\x80\x80\x80\x80\x80\x80\x80\x80\x01", "\x81\x80\x80\x80\x80\x80\x80\x80\x80\x00"}
	for _, n := range append(values, 0, 1, 1<<32, 1<<63-1, 1<<63, 1<<63+1, 1<<64-1) {
		list = append(list, short(n))
	}
	return list
}

func TestDecodeOfAllParts(t *testing.T) {
	taken := 0
	tails := variants(2, mostSize-1, mostSize, mostSize+1)
	for _, target := range targets() {
		tails = append(tails, short(uint64(len(target)))+target, short(uint64(len(target)+1))+target, "\x81\x00"+target)
	}
	for _, kind := range []string{"", "\x00", "\x01", "\x02", "\x03", "\x04", "\x81\x00", "\x82", "\xff"} {
		for _, mode := range variants(420, mostMode, mostMode+1, 1<<63+420) {
			for _, time := range []string{zeros, "\xff\xff\xff\xff\xff\xff\xff\xff", seven, "\x80" + seven} {
				for _, links := range variants(2, mostLinks, mostLinks+1, 1<<63+2) {
					for _, tail := range tails {
						s := kind + mode + time + links + tail
						want, wantErr := plainDecode(s)
						decodes(t, s, want, wantErr)
						if wantErr == api.OK {
							taken++
						}
					}
					stops(t)
				}
			}
		}
	}
	if taken < 100 {
		t.Error("the test itself is wrong: too few texts are inodes' bytes")
	}
}

func TestDecodeOfNumbersThatAreLongerThanTheyNeedBe(t *testing.T) {
	decodes(t, "\x01\x05"+zeros+"\x01\x07", file(5, 0, 1, 7), api.OK)
	refuses(t, "\x01\x85\x00"+zeros+"\x01\x07", "\x01\x05"+zeros+"\x81\x00\x07", "\x01\x05"+zeros+"\x01\x87\x00", "\x01\x05"+zeros+"\x01\x87\x80\x00", "\x81\x00\x05"+zeros+"\x01\x07")
	decodes(t, "\x03\x05"+zeros+"\x01\x01a", link(5, 0, 1, "a"), api.OK)
	refuses(t, "\x03\x05"+zeros+"\x01\x81\x00a", "\x03\x85\x00"+zeros+"\x01\x01a", "\x03\x05"+zeros+"\x81\x00\x01a")
}

func TestDecodeOfNoKindAndOfValuesBeyondTheBounds(t *testing.T) {
	for kind := range 256 {
		if kind < 1 || kind > 3 {
			b := string([]byte{byte(kind)})
			refuses(t, b, b+"\x00"+zeros+"\x01", b+"\x00"+zeros+"\x01\x00", b+"\x00"+zeros+"\x01\x01a")
		}
	}
	for _, mode := range []uint64{4096, 1 << 32, 1 << 63, 1<<63 + 1, 1<<64 - 1} {
		refuses(t, "\x01"+short(mode)+zeros+"\x01\x00", "\x02"+short(mode)+zeros+"\x01", "\x03"+short(mode)+zeros+"\x01\x01a")
	}
	for _, links := range []uint64{0, 1<<40 + 1, 1 << 63, 1<<63 + 1, 1<<64 - 1} {
		refuses(t, "\x01\x00"+zeros+short(links)+"\x00", "\x02\x00"+zeros+short(links), "\x03\x00"+zeros+short(links)+"\x01a")
	}
	refuses(t, "\x02\x00"+zeros+"\x02", "\x02\x00"+zeros+short(1<<40))
	for _, size := range []uint64{1<<62 + 1, 1 << 63, 1<<63 + 1, 1<<64 - 1} {
		refuses(t, "\x01\x00"+zeros+"\x01"+short(size))
	}
	for _, target := range []string{"", "\x00", "a\x00", strings.Repeat("a", 101), strings.Repeat("a", 1000)} {
		refuses(t, "\x03\x00"+zeros+"\x01"+short(uint64(len(target)))+target)
	}
	for _, size := range []uint64{2, 101, 1 << 63, 1<<64 - 1} {
		refuses(t, "\x03\x00"+zeros+"\x01"+short(size)+"a")
	}
}

func TestThereAndBack(t *testing.T) {
	for _, n := range rightInodes() {
		s, err := inode.Encode(n)
		if got, gotErr := inode.Decode(s); err != api.OK || gotErr != api.OK || got != n {
			t.Errorf("P14.2: %v has the bytes %q, %d, which are those of %v, %d", n, s, err, got, gotErr)
			stops(t)
		}
	}
}

// bent is a text with some of its bytes other ones, some more, some fewer.
func bent(s string, next func() uint64) string {
	b := []byte(s)
	for range next() % 3 {
		at := int(next() % uint64(len(b)+1))
		switch {
		case next()%3 == 0:
			b = append(b[:at:at], append([]byte{byte(next())}, b[at:]...)...)
		case at < len(b) && next()%2 == 0:
			b = append(b[:at:at], b[at+1:]...)
		case at < len(b):
			b[at] = byte(next())
		}
	}
	return string(b)
}

func TestWhatIsDecodedHasJustTheseBytes(t *testing.T) {
	next := numbers(14)
	taken, refused := 0, 0
	for _, n := range rightInodes() {
		s, _ := plainEncode(n)
		for range 20 {
			text := bent(s, next)
			want, wantErr := plainDecode(text)
			decodes(t, text, want, wantErr)
			got, err := inode.Decode(text)
			if err != api.OK {
				refused++
				continue
			}
			taken++
			if again, err := inode.Encode(got); again != text || err != api.OK {
				t.Errorf("P14.2: %q is decoded, but its inode has the bytes %q, %d", text, again, err)
			}
		}
		stops(t)
	}
	if taken < 1000 || refused < 1000 {
		t.Error("the test itself is wrong: ", taken, refused)
	}
}

func TestNumbers(t *testing.T) {
	for _, n := range []int{math.MinInt, -mostNext, -2, -1, 0, 1, mostNext + 1, mostNext + 2, 1 << 41, 1 << 56, math.MaxInt} {
		if s, err := inode.Number(n); s != "" || err != api.ErrArg {
			t.Errorf("P14.1: Number of %d: %q, %d", n, s, err)
		}
		counts(t, eight(uint64(n)), 0, api.ErrForm)
	}
	for _, n := range []int{2, 3, 255, 256, 258, 1 << 32, 1<<40 - 1, 1 << 40, 1<<40 + 1} {
		if s, err := inode.Number(n); s != eight(uint64(n)) || err != api.OK {
			t.Errorf("P14.1: Number of %d: %q, %d", n, s, err)
		}
		counts(t, eight(uint64(n)), n, api.OK)
	}
	for shift := range 64 {
		for d := -2; d <= 2; d++ {
			s := eight(uint64(1<<shift + d))
			want, wantErr := plainNumberOf(s)
			counts(t, s, want, wantErr)
			if got, err := inode.Number(want); wantErr == api.OK && (got != s || err != api.OK) {
				t.Errorf("P14.2: %q is the number %d, which has %q, %d", s, want, got, err)
			}
		}
	}
}

func TestNumbersOfOtherLengths(t *testing.T) {
	for _, s := range []string{"", "\x02", "\x00\x02", seven, seven[1:] + "\x02", zeros + "\x02", seven + "\x02\x00", seven + "\x02\x02", seven + "\x02" + seven + "\x02", "2", "00000002", strings.Repeat("\x00", 1000) + "\x02"} {
		counts(t, s, 0, api.ErrForm)
	}
	next := numbers(15)
	for size := range 40 {
		for range 20 {
			b := make([]byte, size)
			for i := range b {
				if i > 1 && next()%2 == 0 {
					b[i] = byte(next())
				}
			}
			want, wantErr := plainNumberOf(string(b))
			counts(t, string(b), want, wantErr)
		}
	}
}

func TestTheLongestBytesAreAValue(t *testing.T) {
	longest := ""
	for _, n := range rightInodes() {
		if s, _ := inode.Encode(n); len(s) > len(longest) {
			longest = s
		}
	}
	if len(longest) != 118 { // one, two of the mode, eight, six of the links, one and a hundred of the target
		t.Error("P14.3: the longest bytes are", len(longest))
	}
	if len(longest) > mostValue || len(longest) > api.MaxValue {
		t.Error("P14.3: the longest bytes are more than a value's: ", len(longest))
	}
	d, _ := disk.New(8)
	h, _ := heap.New(d, 1)
	root, err := tree.Put(h, 0, "i", longest)
	if got, there, gotErr := tree.Get(h, root, "i"); err != api.OK || gotErr != api.OK || !there || got != longest {
		t.Error("P14.3: no tree takes the longest bytes: ", err, gotErr, there)
	}
}
