package pack_test

import (
	"math"
	"slices"
	"strings"
	"sync"
	"testing"
	"unsafe"

	"coppice/api"
	"coppice/pack"
)

// The calls as the chapter lists them.
var (
	_ func(n uint64) string                     = pack.Fixed
	_ func(n uint64) string                     = pack.Short
	_ func(s string) string                     = pack.Text
	_ func(s string) *pack.Reader               = pack.Read
	_ func(r *pack.Reader) uint64               = (*pack.Reader).Fixed
	_ func(r *pack.Reader) uint64               = (*pack.Reader).Short
	_ func(r *pack.Reader, most int) string     = (*pack.Reader).Text
	_ func(r *pack.Reader) byte                 = (*pack.Reader).Byte
	_ func(r *pack.Reader) int                  = (*pack.Reader).Left
	_ func(r *pack.Reader) (first api.Errno)    = (*pack.Reader).Err
	_ func(r *pack.Reader) (orIsLeft api.Errno) = (*pack.Reader).End
)

const nineFF = "\xff\xff\xff\xff\xff\xff\xff\xff\xff"
const nine80 = "\x80\x80\x80\x80\x80\x80\x80\x80\x80"

// numbers answers ever the same row of numbers, so that a test that fails fails again.
func numbers(seed uint64) func() uint64 {
	return func() uint64 {
		seed ^= seed << 13
		seed ^= seed >> 7
		seed ^= seed << 17
		return seed
	}
}

// edges are the numbers at which bytes and bits begin, and some of all lengths.
func edges() []uint64 {
	list := []uint64{0, math.MaxUint64, math.MaxInt64, 258}
	next := numbers(7)
	for bit := range 64 {
		n := uint64(1) << bit
		list = append(list, n-1, n, n+1, next()>>bit)
	}
	return list
}

// plainFixed is a fixed number as the chapter's words say it.
func plainFixed(n uint64) string {
	var s string
	for range 8 {
		s = string([]byte{byte(n % 256)}) + s
		n /= 256
	}
	return s
}

// plainShort is a short number as the chapter's words say it.
func plainShort(n uint64) string {
	var groups []byte
	for rest, first := n, true; first || rest > 0; rest, first = rest/128, false {
		groups = append(groups, byte(rest%128))
	}
	for i := range len(groups) - 1 {
		groups[i] += 128
	}
	return string(groups)
}

// plainReader is a reader as the chapter's words say it.
type plainReader struct {
	s   string
	at  int
	err api.Errno
}

// stop keeps the error, and goes back to where the call began.
func (r *plainReader) stop(at int, err api.Errno) {
	r.at, r.err = at, err
}

func (r *plainReader) Left() int {
	if r.err != api.OK {
		return 0
	}
	return len(r.s) - r.at
}

func (r *plainReader) Byte() byte {
	if r.err != api.OK {
		return 0
	}
	if r.Left() == 0 {
		r.stop(r.at, api.ErrShort)
		return 0
	}
	r.at++
	return r.s[r.at-1]
}

func (r *plainReader) Fixed() uint64 {
	begin, n := r.at, uint64(0)
	for range 8 {
		n = n*256 + uint64(r.Byte())
	}
	if r.err != api.OK {
		r.at = begin
		return 0
	}
	return n
}

func (r *plainReader) Short() uint64 {
	begin, n, weight := r.at, uint64(0), uint64(1)
	for count := 1; ; count++ {
		b := r.Byte()
		switch {
		case r.err != api.OK:
			r.at = begin
			return 0
		case count == 10 && b > 1:
			r.stop(begin, api.ErrForm)
			return 0
		case b == 0 && count > 1:
			r.stop(begin, api.ErrForm)
			return 0
		case b < 128:
			return n + uint64(b)*weight
		}
		n += uint64(b-128) * weight
		weight *= 128
	}
}

func (r *plainReader) Text(most int) string {
	if r.err != api.OK {
		return ""
	}
	begin := r.at
	n := r.Short()
	switch {
	case r.err != api.OK:
		return ""
	case most < 0 || n > uint64(most):
		r.stop(begin, api.ErrLong)
		return ""
	case n > uint64(r.Left()):
		r.stop(begin, api.ErrShort)
		return ""
	}
	r.at += int(n)
	return r.s[r.at-int(n) : r.at]
}

func (r *plainReader) End() api.Errno {
	if r.err == api.OK && r.Left() > 0 {
		return api.ErrLong
	}
	return r.err
}

// seems tells what a reader shows without being read from.
func seems(t *testing.T, what string, r *pack.Reader, left int, err, end api.Errno) {
	t.Helper()
	if r.Left() != left || r.Err() != err || r.End() != end || r.Err() != err {
		t.Errorf("%s: Left %d, Err %d, End %d; %d, %d, %d is asked", what, r.Left(), r.Err(), r.End(), left, err, end)
	}
}

// silent tells whether behind an error all calls answer zeros, and change nothing.
func silent(t *testing.T, what string, r *pack.Reader, err api.Errno) {
	t.Helper()
	for range 2 {
		seems(t, what, r, 0, err, err)
		if b, f, s, x := r.Byte(), r.Fixed(), r.Short(), r.Text(99); b != 0 || f != 0 || s != 0 || x != "" {
			t.Errorf("%s: behind the error: %d %d %d %q", what, b, f, s, x)
		}
		if x := r.Text(-1); x != "" {
			t.Errorf("%s: behind the error: %q", what, x)
		}
	}
	seems(t, what, r, 0, err, err)
}

func TestExamples(t *testing.T) {
	for n, want := range map[uint64]string{0: "\x00", 127: "\x7f", 128: "\x80\x01", math.MaxUint64: nineFF + "\x01"} {
		if s := pack.Short(n); s != want {
			t.Errorf("P2.1: Short(%d) is %q", n, s)
		}
	}
	if s := pack.Text("ab"); s != "\x02ab" {
		t.Errorf("P2.1: Text(ab) is %q", s)
	}
	if s := pack.Text(""); s != "\x00" {
		t.Errorf("P2.1: Text of nothing is %q", s)
	}
	if s := pack.Fixed(0x0102030405060708); s != "\x01\x02\x03\x04\x05\x06\x07\x08" {
		t.Errorf("P2.1: Fixed is %q", s)
	}
	r := pack.Read("\x80\x00")
	if n := r.Short(); n != 0 {
		t.Errorf("P2.3: 80 00 is read as %d", n)
	}
	silent(t, "P2.3: 80 00", r, api.ErrForm)
}

func TestNumbersAreWrittenAsTheWordsSay(t *testing.T) {
	for _, n := range edges() {
		if s := pack.Fixed(n); s != plainFixed(n) {
			t.Errorf("P2.1: Fixed(%d) is %q", n, s)
		}
		if s := pack.Short(n); s != plainShort(n) {
			t.Errorf("P2.1: Short(%d) is %q", n, s)
		}
	}
	for groups := 1; groups <= 9; groups++ {
		n := uint64(1) << (7 * groups)
		if a, b := len(pack.Short(n-1)), len(pack.Short(n)); a != groups || b != groups+1 {
			t.Errorf("P2.1: around %d a short number has %d and %d bytes", n, a, b)
		}
	}
}

func TestNumbersComeBack(t *testing.T) {
	for _, n := range edges() {
		r := pack.Read(pack.Fixed(n))
		if m := r.Fixed(); m != n {
			t.Errorf("P2.2: Fixed(%d) is read as %d", n, m)
		}
		seems(t, "P2.2: a fixed number", r, 0, api.OK, api.OK)
		r = pack.Read(pack.Short(n))
		if m := r.Short(); m != n {
			t.Errorf("P2.2: Short(%d) is read as %d", n, m)
		}
		seems(t, "P2.2: a short number", r, 0, api.OK, api.OK)
	}
}

func TestTextsComeBack(t *testing.T) {
	for _, n := range []int{0, 1, 2, 126, 127, 128, 129, 16383, 16384, 70000} {
		want := strings.Repeat("\x00\xff\x80a", n)[:n]
		s := pack.Text(want)
		if s != plainShort(uint64(n))+want {
			t.Errorf("P2.1: a text of %d bytes is written otherwise", n)
		}
		for _, most := range []int{n, n + 1, math.MaxInt} {
			r := pack.Read(s)
			if got := r.Text(most); got != want {
				t.Errorf("P2.2: a text of %d bytes, at most %d, is read as one of %d", n, most, len(got))
			}
			seems(t, "P2.2: a text", r, 0, api.OK, api.OK)
		}
		r := pack.Read(s)
		if got := r.Text(n - 1); got != "" {
			t.Errorf("P2.1: a text of %d bytes, at most %d, is answered", n, n-1)
		}
		silent(t, "P2.1: a text above most", r, api.ErrLong)
	}
}

func TestOneBehindTheOther(t *testing.T) {
	next := numbers(11)
	for round := range 200 {
		var all strings.Builder
		var asks []func(r *pack.Reader) bool
		for range 1 + next()%20 {
			n := next() >> (next() % 64)
			text := strings.Repeat("x\x80", int(n%90))
			switch next() % 4 {
			case 0:
				all.WriteString(pack.Fixed(n))
				asks = append(asks, func(r *pack.Reader) bool { return r.Fixed() == n })
			case 1:
				all.WriteString(pack.Short(n))
				asks = append(asks, func(r *pack.Reader) bool { return r.Short() == n })
			case 2:
				all.WriteString(pack.Text(text))
				asks = append(asks, func(r *pack.Reader) bool { return r.Text(len(text)) == text })
			default:
				all.WriteByte(byte(n))
				asks = append(asks, func(r *pack.Reader) bool { return r.Byte() == byte(n) })
			}
		}
		r := pack.Read(all.String())
		for i, ask := range asks {
			if r.End() != api.ErrLong || r.Err() != api.OK {
				t.Fatalf("P2.1: round %d: ahead of call %d: End %d, Err %d", round, i, r.End(), r.Err())
			}
			if !ask(r) {
				t.Fatalf("P2.2: round %d: call %d answers something else", round, i)
			}
		}
		seems(t, "P2.2: all of it", r, 0, api.OK, api.OK)
	}
}

func TestBytesAndNumbersThatAreCutOff(t *testing.T) {
	calls := []struct {
		name string
		s    string
		call func(r *pack.Reader) bool // whether it answers a zero
	}{
		{"a byte", "", func(r *pack.Reader) bool { return r.Byte() == 0 }},
		{"a fixed number", "\x01\x02\x03\x04\x05\x06\x07", func(r *pack.Reader) bool { return r.Fixed() == 0 }},
		{"a short number", nineFF, func(r *pack.Reader) bool { return r.Short() == 0 }},
		{"a short number of 80s", nine80, func(r *pack.Reader) bool { return r.Short() == 0 }},
		{"a text's length", nineFF, func(r *pack.Reader) bool { return r.Text(math.MaxInt) == "" }},
		{"a text", "\x05abcd", func(r *pack.Reader) bool { return r.Text(5) == "" }},
		{"a long text", "\x81\x01" + strings.Repeat("a", 128), func(r *pack.Reader) bool { return r.Text(200) == "" }},
	}
	for _, one := range calls {
		for cut := range len(one.s) + 1 {
			r := pack.Read("z" + one.s[:cut])
			if r.Byte() != 'z' || !one.call(r) {
				t.Errorf("P2.1: %s, %d bytes of it: not zero", one.name, cut)
			}
			silent(t, "P2.1: "+one.name+" cut off", r, api.ErrShort)
		}
	}
}

func TestShortNumbersInAnotherForm(t *testing.T) {
	wrong := []string{"\x80\x00", "\x81\x00", "\xff\x00", "\x80\x80\x00", "\xff\xff\x00", nine80 + "\x00", nineFF + "\x00", nine80[1:] + "\x00"}
	for b := 2; b < 256; b++ {
		wrong = append(wrong, nineFF+string([]byte{byte(b)}), nine80+string([]byte{byte(b)}))
	}
	for _, s := range wrong {
		for _, tail := range []string{"", "\x00", "\x01\x02\x03"} {
			r := pack.Read(s + tail)
			if n := r.Short(); n != 0 {
				t.Errorf("P2.3: %q is read as %d", s, n)
			}
			silent(t, "P2.3: a short number", r, api.ErrForm)
			r = pack.Read(s + tail)
			if x := r.Text(-1); x != "" {
				t.Errorf("P2.3: a text of length %q is read as %q", s, x)
			}
			silent(t, "P2.1: a length's own error comes ahead of most", r, api.ErrForm)
		}
	}
	for s, want := range map[string]uint64{nine80 + "\x01": 1 << 63, nineFF + "\x01": math.MaxUint64, "\x00\x00": 0, "\x00\x80": 0, nine80[1:] + "\x01": 1 << 56} {
		r := pack.Read(s)
		if n := r.Short(); n != want || r.Err() != api.OK {
			t.Errorf("P2.1: %q is read as %d, error %d", s, n, r.Err())
		}
	}
}

func TestLengthsAndMost(t *testing.T) {
	tests := []struct {
		s    string
		most int
		want api.Errno
	}{
		{"\x00", -1, api.ErrLong},
		{"\x00", math.MinInt, api.ErrLong},
		{"\x02ab", -1, api.ErrLong},
		{"\x02ab", math.MinInt, api.ErrLong},
		{"", -1, api.ErrShort},
		{"\x80", -1, api.ErrShort},
		{"\x02ab", 1, api.ErrLong},
		{"\x02ab", 0, api.ErrLong},
		{"\x05ab", 4, api.ErrLong}, // ErrShort applies too, and is named behind it
		{"\x05ab", 5, api.ErrShort},
		{"\x01", 1, api.ErrShort},
		{nineFF + "\x01", math.MaxInt, api.ErrLong},
		{nineFF + "\x01", -1, api.ErrLong},
		{pack.Short(math.MaxInt) + "a", math.MaxInt, api.ErrShort},
		{pack.Short(1<<63) + "a", math.MaxInt, api.ErrLong},
		{pack.Short(math.MaxInt) + "a", math.MaxInt - 1, api.ErrLong},
		{pack.Short(1<<32) + "a", 1 << 20, api.ErrLong},
	}
	for _, one := range tests {
		r := pack.Read(one.s)
		if x := r.Text(one.most); x != "" {
			t.Errorf("P2.1: Text(%d) of %q is %q", one.most, one.s, x)
		}
		silent(t, "P2.1: a text that isn't read", r, one.want)
	}
	r := pack.Read("\x00\x00")
	if x := r.Text(0); x != "" {
		t.Errorf("P2.1: Text(0) is %q", x)
	}
	seems(t, "P2.1: an empty text", r, 1, api.OK, api.ErrLong)
}

func TestEndIsNotKept(t *testing.T) {
	r := pack.Read("\x07\x01a\x00\x00\x00\x00\x00\x00\x00\x09")
	left := []int{11, 10, 8, 0}
	calls := []func() bool{
		func() bool { return r.Short() == 7 },
		func() bool { return r.Text(1) == "a" },
		func() bool { return r.Fixed() == 9 },
	}
	for i, call := range calls {
		for range 3 {
			seems(t, "P2.1: bytes are left", r, left[i], api.OK, api.ErrLong)
		}
		if !call() {
			t.Errorf("P2.1: behind End call %d answers something else", i)
		}
	}
	seems(t, "P2.1: nothing is left", r, 0, api.OK, api.OK)
	r.Byte()
	silent(t, "P2.1: behind the end", r, api.ErrShort)
}

func TestTheFirstErrorStays(t *testing.T) {
	first := map[api.Errno]func(r *pack.Reader){
		api.ErrShort: func(r *pack.Reader) { r.Text(99) },
		api.ErrLong:  func(r *pack.Reader) { r.Text(1) },
		api.ErrForm:  func(r *pack.Reader) { r.Byte(); r.Short() },
	}
	for want, call := range first {
		r := pack.Read("\x09\x80\x00")
		call(r)
		silent(t, "P2.1: the first error", r, want)
	}
}

func TestFixedNumbersStandInOrder(t *testing.T) {
	list := edges()
	next := numbers(3)
	for range 300 {
		list = append(list, next())
	}
	for _, a := range list {
		for _, b := range list {
			if (a < b) != (pack.Fixed(a) < pack.Fixed(b)) {
				t.Fatalf("P2.4: %d and %d stand otherwise than their bytes", a, b)
			}
		}
	}
	slices.Sort(list)
	if !slices.IsSortedFunc(list, func(a, b uint64) int { return strings.Compare(pack.Fixed(a), pack.Fixed(b)) }) {
		t.Error("P2.4: the sorted numbers' bytes aren't sorted")
	}
}

// oneForm tells whether what is read of s, if anything is, has just the bytes that were taken.
func oneForm(t *testing.T, s string) {
	t.Helper()
	r := pack.Read(s)
	n := r.Short()
	if r.Err() == api.OK && pack.Short(n) != s[:len(s)-r.Left()] {
		t.Fatalf("P2.3: %q is read as %d, which has other bytes", s, n)
	}
	r = pack.Read(s)
	x := r.Text(len(s))
	if r.Err() == api.OK && pack.Text(x) != s[:len(s)-r.Left()] {
		t.Fatalf("P2.3: %q is read as %q, which has other bytes", s, x)
	}
	r = pack.Read(s)
	n = r.Fixed()
	if r.Err() == api.OK && pack.Fixed(n) != s[:len(s)-r.Left()] {
		t.Fatalf("P2.3: %q is read as %d, which has other bytes", s, n)
	}
}

func TestOneForm(t *testing.T) {
	for n := range 1 << 16 {
		oneForm(t, string([]byte{byte(n), byte(n >> 8)}))
		oneForm(t, string([]byte{byte(n), byte(n>>8) | 0x80, byte(n >> 5)}))
	}
	next := numbers(5)
	for range 50000 {
		oneForm(t, anyBytes(next, 14))
	}
}

// anyBytes is a text of fewer than most bytes, many of which are those at which something changes.
func anyBytes(next func() uint64, most int) string {
	b := make([]byte, next()%uint64(most))
	kinds := next() % 3
	for i := range b {
		switch n := next() >> 8; {
		case kinds == 0:
			b[i] = byte(n)
		case kinds == 1:
			b[i] = "\x00\x01\x02\x7f\x80\x81\xff\xff"[n%8]
		default:
			b[i] = "\x80\xff\xff\xfe\x80\x80\x00\x01\x81\x80\xff"[n%11]
		}
	}
	return string(b)
}

func TestReadersAreWhatTheWordsSay(t *testing.T) {
	next := numbers(13)
	mosts := []int{-1, 0, 1, 2, 3, 12, 127, 128, math.MaxInt, math.MinInt}
	for range 60000 {
		s := anyBytes(next, 30)
		r, p := pack.Read(s), &plainReader{s: s}
		for range 1 + next()%8 {
			var same bool
			most := mosts[next()%uint64(len(mosts))]
			call := next() % 5
			switch call {
			case 0:
				same = r.Byte() == p.Byte()
			case 1:
				same = r.Fixed() == p.Fixed()
			case 2:
				same = r.Short() == p.Short()
			default:
				same = r.Text(most) == p.Text(most)
			}
			if !same || r.Left() != p.Left() || r.Err() != p.err || r.End() != p.End() {
				t.Fatalf("P2.1: %q: call %d (most %d) answers otherwise: Left %d, Err %d, End %d", s, call, most, r.Left(), r.Err(), r.End())
			}
		}
	}
}

func TestNilReaders(t *testing.T) {
	var r *pack.Reader
	silent(t, "P2.1: a nil reader", r, api.ErrNil)
	for _, most := range []int{math.MinInt, -1, 0, 1, math.MaxInt} {
		if x := r.Text(most); x != "" {
			t.Errorf("P2.1: Text(%d) of a nil reader is %q", most, x)
		}
	}
}

func TestReadersOfNothing(t *testing.T) {
	r := pack.Read("")
	if r == nil {
		t.Fatal("P2.1: Read of nothing answers no reader")
	}
	seems(t, "P2.1: nothing to read", r, 0, api.OK, api.OK)
}

func TestReadersDoNotTouchEachOther(t *testing.T) {
	s := pack.Text("ab") + pack.Short(300)
	one, two := pack.Read(s), pack.Read(s)
	one.Text(1)
	if two.Text(2) != "ab" || two.Short() != 300 || two.End() != api.OK {
		t.Error("P0.5: a reader hangs on another one")
	}
	silent(t, "P0.5: the first reader", one, api.ErrLong)
	var group sync.WaitGroup
	for range 8 {
		group.Go(func() {
			for range 100 {
				r := pack.Read(s)
				if r.Text(2) != "ab" || r.Short() != 300 || r.End() != api.OK {
					t.Error("P0.5: a reader hangs on goroutines")
				}
			}
		})
	}
	group.Wait()
}

func TestTextsAreNewMemory(t *testing.T) {
	s := pack.Text("abc") + "tail"
	x := pack.Read(s).Text(3)
	begin, at := uintptr(unsafe.Pointer(unsafe.StringData(s))), uintptr(unsafe.Pointer(unsafe.StringData(x)))
	if at >= begin && at < begin+uintptr(len(s)) {
		t.Error("P0.3: a text that was read shares memory with what was handed in")
	}
}
