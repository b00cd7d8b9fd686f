package crc_test

import (
	"bytes"
	"hash/crc32"
	"slices"
	"strings"
	"sync"
	"testing"

	"coppice/crc"
)

// The calls as the chapter lists them.
var (
	_ func(parts ...[]byte) uint32    = crc.Sum
	_ func(c uint32, b []byte) uint32 = crc.More
	_ func(s string) uint32           = crc.Text
)

// plain is the sum as the chapter's words say it, a bit at a time.
func plain(b []byte) uint32 {
	state := uint32(0xFFFFFFFF)
	for _, one := range b {
		state ^= uint32(one)
		for range 8 {
			out := state & 1
			state >>= 1
			if out == 1 {
				state ^= 0x82F63B78
			}
		}
	}
	return state ^ 0xFFFFFFFF
}

// numbers answers ever the same row of numbers, so that a test that fails fails again.
func numbers(seed uint64) func() uint64 {
	return func() uint64 {
		seed ^= seed << 13
		seed ^= seed >> 7
		seed ^= seed << 17
		return seed
	}
}

// some is n bytes of all kinds.
func some(n int, seed uint64) []byte {
	next := numbers(seed)
	b := make([]byte, n)
	for i := range b {
		b[i] = byte(next() >> 24)
	}
	return b
}

// turn answers b with the bits of mask turned from bit from on, of each byte the lowest one first.
func turn(b []byte, from int, mask uint32) []byte {
	c := bytes.Clone(b)
	for i := range 32 {
		if mask>>i&1 == 1 {
			c[(from+i)/8] ^= 1 << ((from + i) % 8)
		}
	}
	return c
}

func check(t *testing.T, what string, b []byte) {
	t.Helper()
	want := plain(b)
	if got := crc.Sum(b); got != want {
		t.Errorf("P1.1: Sum of %s: %08X, want %08X", what, got, want)
	}
	if got := crc.Text(string(b)); got != want {
		t.Errorf("P1.1: Text of %s: %08X, want %08X", what, got, want)
	}
	if got := crc.More(0, b); got != want {
		t.Errorf("P1.1: More of 0 and %s: %08X, want %08X", what, got, want)
	}
}

func TestExamples(t *testing.T) {
	for _, e := range []struct {
		text string
		want uint32
	}{
		{"123456789", 0xE3069283},
		{"", 0},
		{"\x00", 0x527D5351},
		{"a", 0xC1D04330},
		{strings.Repeat("\x00", 32), 0x8A9136AA},
		{strings.Repeat("\xFF", 32), 0x62A8AB43},
	} {
		if got := crc.Text(e.text); got != e.want {
			t.Errorf("P1.1: Text(%q): %08X, want %08X", e.text, got, e.want)
		}
		if got := crc.Sum([]byte(e.text)); got != e.want {
			t.Errorf("P1.1: Sum(%q): %08X, want %08X", e.text, got, e.want)
		}
		if got := crc.More(0, []byte(e.text)); got != e.want {
			t.Errorf("P1.1: More(0, %q): %08X, want %08X", e.text, got, e.want)
		}
	}
}

func TestNothing(t *testing.T) {
	for what, got := range map[string]uint32{
		"no part":         crc.Sum(),
		"a nil list":      crc.Sum([][]byte(nil)...),
		"an empty list":   crc.Sum([][]byte{}...),
		"a bare nil":      crc.Sum(nil...),
		"one nil part":    crc.Sum([]byte(nil)),
		"one empty part":  crc.Sum([]byte{}),
		"empty parts":     crc.Sum(nil, []byte{}, nil, []byte{}),
		"an empty text":   crc.Text(""),
		"nil behind none": crc.More(0, nil),
	} {
		if got != 0 {
			t.Errorf("P1.1: %s: %08X, want 0", what, got)
		}
	}
	for _, c := range []uint32{0, 1, 0x80000000, 0xE3069283, 0xFFFFFFFF} {
		if crc.More(c, nil) != c || crc.More(c, []byte{}) != c {
			t.Errorf("P1.1: More(%08X) with nothing behind: %08X", c, crc.More(c, nil))
		}
	}
}

func TestEmptyParts(t *testing.T) {
	b := []byte("123456789")
	for at := range len(b) + 1 {
		parts := [][]byte{nil, b[:at], {}, nil, b[at:], {}, nil}
		if got := crc.Sum(parts...); got != 0xE3069283 {
			t.Errorf("P1.2: empty parts about a cut at %d: %08X", at, got)
		}
	}
}

func TestEachByte(t *testing.T) {
	for one := range 256 {
		check(t, "one byte", []byte{byte(one)})
		for two := range 256 {
			check(t, "two bytes", []byte{byte(one), byte(two)})
		}
	}
}

func TestManyLengths(t *testing.T) {
	castagnoli := crc32.MakeTable(crc32.Castagnoli)
	for n := range 300 {
		for seed := range uint64(4) {
			b := some(n, 1+seed+uint64(n))
			check(t, "some bytes", b)
			if got, want := crc.Sum(b), crc32.Checksum(b, castagnoli); got != want {
				t.Errorf("P1.1: %d bytes: %08X, the library says %08X", n, got, want)
			}
		}
	}
	check(t, "many bytes", some(1<<16+7, 5))
}

func TestTextIsBytes(t *testing.T) {
	for _, s := range []string{"Grün", "\xFF\xFE", "a\x00b", "\xC3", "\uFFFD", "\xE2\x82", "日本語", "\xED\xA0\x80"} {
		if got, want := crc.Text(s), plain([]byte(s)); got != want {
			t.Errorf("P1.1: Text(%q): %08X, want %08X", s, got, want)
		}
	}
}

func TestMoreBehindAnySum(t *testing.T) {
	// Every number is the sum of some four bytes, so More has an answer to give at each.
	castagnoli := crc32.MakeTable(crc32.Castagnoli)
	next := numbers(11)
	for range 2000 {
		c, b := uint32(next()>>16), some(int(next()%40), next()|1)
		if got, want := crc.More(c, b), crc32.Update(c, castagnoli, b); got != want {
			t.Fatalf("P1.1: More(%08X, %x): %08X, want %08X", c, b, got, want)
		}
	}
}

func TestCutAnywhere(t *testing.T) {
	b := some(40, 3)
	want := plain(b)
	for i := range len(b) + 1 {
		if crc.Sum(b[:i], b[i:]) != want {
			t.Errorf("P1.2: Sum cut at %d", i)
		}
		if crc.More(crc.Sum(b[:i]), b[i:]) != want || crc.More(crc.Text(string(b[:i])), b[i:]) != want {
			t.Errorf("P1.2: More cut at %d", i)
		}
		for j := i; j <= len(b); j++ {
			if crc.Sum(b[:i], b[i:j], b[j:]) != want {
				t.Errorf("P1.2: Sum cut at %d and %d", i, j)
			}
			if crc.More(crc.More(crc.Sum(b[:i]), b[i:j]), b[j:]) != want {
				t.Errorf("P1.2: More cut at %d and %d", i, j)
			}
		}
	}
}

func TestManyParts(t *testing.T) {
	b := some(5000, 9)
	want := plain(b)
	single := slices.Collect(slices.Chunk(b, 1))
	if got := crc.Sum(single...); got != want {
		t.Errorf("P1.2: a part a byte: %08X, want %08X", got, want)
	}
	next := numbers(13)
	for range 100 {
		var parts [][]byte
		sum := uint32(0)
		for rest := b; len(rest) > 0; {
			n := min(int(next()%300), len(rest))
			parts = append(parts, rest[:n])
			sum = crc.More(sum, rest[:n])
			rest = rest[n:]
		}
		if got := crc.Sum(parts...); got != want || sum != want {
			t.Fatalf("P1.2: %d parts: Sum %08X, More %08X, want %08X", len(parts), got, sum, want)
		}
	}
}

func TestOrderOfParts(t *testing.T) {
	if crc.Sum([]byte("56789"), []byte("1234")) != plain([]byte("567891234")) {
		t.Error("P1.1: the parts stand one behind the other as they are handed in")
	}
	same := []byte("twice")
	if crc.Sum(same, same) != plain([]byte("twicetwice")) {
		t.Error("P1.1: one part twice")
	}
	b := []byte("overlapping")
	if crc.Sum(b[:8], b[4:]) != plain([]byte("overlapplapping")) {
		t.Error("P1.1: parts that share bytes")
	}
}

func TestTurnedNarrow(t *testing.T) {
	for _, b := range [][]byte{some(6, 21), make([]byte, 6), bytes.Repeat([]byte{0xFF}, 6)} {
		want := crc.Sum(b)
		for from := range 8 * len(b) {
			for mask := uint32(1); mask < 1<<10; mask += 2 {
				if from+10 > 8*len(b) && mask>>(8*len(b)-from) != 0 {
					break
				}
				if c := turn(b, from, mask); crc.Sum(c) == want || crc.Text(string(c)) == want {
					t.Fatalf("P1.3: bits %b turned from %d on: the same sum", mask, from)
				}
			}
		}
	}
}

func TestTurnedWide(t *testing.T) {
	next := numbers(31)
	for n := 4; n < 80; n++ {
		b := some(n, uint64(n))
		want := crc.Sum(b)
		for from := range 8*n - 31 {
			masks := []uint32{1, 1 << 31, 1<<31 | 1, 0xFFFFFFFF, 0x82F63B78, 0x05EC76F1, 0x55555555, 0xAAAAAAAA}
			for range 20 {
				masks = append(masks, uint32(next()>>20)|1<<31|1)
			}
			for _, mask := range masks {
				if crc.Sum(turn(b, from, mask)) == want {
					t.Fatalf("P1.3: %d bytes: bits %b turned from %d on: the same sum", n, mask, from)
				}
			}
		}
	}
}

func TestTurnedShort(t *testing.T) {
	// Fewer than 32 bits: all other bytes of the length are within reach.
	for one := range 256 {
		for two := range one {
			if crc.Sum([]byte{byte(one)}) == crc.Sum([]byte{byte(two)}) {
				t.Fatalf("P1.3: bytes %d and %d have the same sum", one, two)
			}
		}
	}
	seen := map[uint32]int{}
	for pair := range 1 << 16 {
		sum := crc.Sum([]byte{byte(pair), byte(pair >> 8)})
		if other, ok := seen[sum]; ok {
			t.Fatalf("P1.3: pairs %04X and %04X have the same sum", pair, other)
		}
		seen[sum] = pair
	}
}

func TestTurnedAll(t *testing.T) {
	// By P1.4 what bits that are turned do to the sum is what each does alone, put on each other:
	// where 32 in a row are independent, none of their 2^32 - 1 choices leaves the sum as it is.
	for _, n := range []int{4, 5, 9, 64, 200} {
		b := some(n, uint64(n)+40)
		want := crc.Sum(b)
		for from := range 8*n - 31 {
			var rows [32]uint32
			for i := range rows {
				rows[i] = crc.Sum(turn(b, from, 1<<i)) ^ want
			}
			if r := rank(rows); r != 32 {
				t.Fatalf("P1.3: %d bytes, from bit %d on: rank %d of 32", n, from, r)
			}
		}
	}
}

// rank is how many rows are independent when they are put on each other exclusively.
func rank(rows [32]uint32) int {
	var kept [32]uint32
	n := 0
	for _, row := range rows {
		for bit := 31; bit >= 0 && row != 0; bit-- {
			if row>>bit&1 == 0 {
				continue
			}
			if kept[bit] == 0 {
				kept[bit] = row
				n++
				break
			}
			row ^= kept[bit]
		}
	}
	return n
}

func TestThreeTexts(t *testing.T) {
	for n := range 200 {
		for seed := range uint64(5) {
			three(t, some(n, seed*3+1), some(n, seed*5+100), some(n, seed*7+1000))
		}
		a, b := some(n, 77), make([]byte, n)
		three(t, a, b, b)
		three(t, a, a, b)
		three(t, a, a, a)
		three(t, b, a, bytes.Repeat([]byte{0xFF}, n))
	}
}

func three(t *testing.T, a, b, c []byte) {
	t.Helper()
	all := make([]byte, len(a))
	for i := range all {
		all[i] = a[i] ^ b[i] ^ c[i]
	}
	if got, want := crc.Sum(all), crc.Sum(a)^crc.Sum(b)^crc.Sum(c); got != want {
		t.Errorf("P1.4: Sum, length %d: %08X, want %08X", len(a), got, want)
	}
	if got, want := crc.Text(string(all)), crc.Text(string(a))^crc.Text(string(b))^crc.Text(string(c)); got != want {
		t.Errorf("P1.4: Text, length %d: %08X, want %08X", len(a), got, want)
	}
}

func TestHandedInStays(t *testing.T) {
	whole := some(64, 51)
	kept := bytes.Clone(whole)
	list := [][]byte{whole[:10], whole[10:10], whole[20:30], nil, whole[40:50], whole[50:60]}
	lens := []int{10, 0, 10, 0, 10, 10}
	crc.Sum(list[:4]...)
	crc.More(7, whole[:13])
	crc.More(7, whole[:0])
	crc.Text(string(whole[:13]))
	if !bytes.Equal(whole, kept) {
		t.Error("P0.3: bytes handed in, or the room behind them, were changed")
	}
	at := []int{0, 10, 20, -1, 40, 50}
	for i, part := range list {
		if len(part) != lens[i] || (part == nil) != (at[i] < 0) {
			t.Errorf("P0.3: part %d of the list was changed", i)
		}
		if len(part) > 0 && &part[0] != &whole[at[i]] {
			t.Errorf("P0.3: part %d of the list stands for other bytes", i)
		}
	}
}

func TestNothingIsKept(t *testing.T) {
	b := []byte("123456789")
	first := crc.Sum(b)
	for i := range b {
		b[i] = 'x'
	}
	if crc.Sum(b) != plain(b) || crc.Sum() != 0 || crc.Text("123456789") != first {
		t.Error("P0.3, P0.5: an answer hangs on what was handed in before")
	}
	for range 3 {
		crc.More(5, b)
		crc.Sum(b, b)
		if crc.Text("123456789") != 0xE3069283 {
			t.Error("P0.5: an answer hangs on other calls")
		}
	}
}

func TestSideBySide(t *testing.T) {
	b := some(3000, 61)
	want := plain(b)
	var wait sync.WaitGroup
	var got [16]uint32
	for i := range got {
		wait.Go(func() { got[i] = crc.Sum(b[:i*100], b[i*100:]) })
	}
	wait.Wait()
	for i, sum := range got {
		if sum != want {
			t.Errorf("P0.5: the sum of goroutine %d: %08X, want %08X", i, sum, want)
		}
	}
}
