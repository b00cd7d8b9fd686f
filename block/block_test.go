package block_test

import (
	"hash/crc32"
	"math"
	"slices"
	"strings"
	"sync"
	"testing"
	"unsafe"

	"coppice/api"
	"coppice/block"
)

// The calls as the chapter lists them.
var (
	_ func(b api.Block) (string, api.Errno)      = block.Wrap
	_ func(sector string) (api.Block, api.Errno) = block.Open
)

// What the chapter says of bounds and places, in numbers: a test that took api's words would move with them.
const (
	mostKind    = 255
	mostGen     = 1 << 60
	mostPayload = 1007
	payloadAt   = 13
	sumAt       = 1020
)

var zeros = strings.Repeat("\x00", 1024)

// numbers answers ever the same row of numbers, so that a test that fails fails again.
func numbers(seed uint64) func(below int) int {
	return func(below int) int {
		seed ^= seed << 13
		seed ^= seed >> 7
		seed ^= seed << 17
		return int(seed >> 20 % uint64(below))
	}
}

// some is n bytes of all kinds.
func some(n int, next func(int) int) string {
	b := make([]byte, n)
	for i := range b {
		b[i] = byte(next(256))
	}
	return string(b)
}

// sealed is 1020 bytes with the sum that fits behind them, by the library's sum.
func sealed(text []byte) string {
	sum := crc32.Checksum(text, crc32.MakeTable(crc32.Castagnoli))
	b := slices.Clone(text)
	for range 4 {
		b = append(b, byte(sum))
		sum >>= 8
	}
	return string(b)
}

// plain is a block's sector as the chapter's words say it.
func plain(b api.Block) string {
	text := make([]byte, sumAt)
	text[0], text[1], text[2] = 0x43, 0x50, byte(b.Kind)
	text[3], text[4] = byte(len(b.Payload)/256), byte(len(b.Payload)%256)
	gen := b.Gen
	for i := 12; i >= 5; i-- {
		text[i] = byte(gen % 256)
		gen /= 256
	}
	for i := range len(b.Payload) {
		text[payloadAt+i] = b.Payload[i]
	}
	return sealed(text)
}

// isBlocks tells by the chapter's words whether a sector whose sum fits is a block's.
func isBlocks(s string) bool {
	size := int(s[3])*256 + int(s[4])
	if s[0] != 0x43 || s[1] != 0x50 || size > mostPayload {
		return false
	}
	gen := uint64(0)
	for i := 5; i < payloadAt; i++ {
		gen = gen*256 + uint64(s[i])
	}
	if gen > mostGen {
		return false
	}
	for i := payloadAt + size; i < sumAt; i++ {
		if s[i] != 0 {
			return false
		}
	}
	return true
}

// wrapped is a sector that Wrap answers without an error.
func wrapped(t *testing.T, b api.Block) string {
	t.Helper()
	s, e := block.Wrap(b)
	if e != api.OK || len(s) != 1024 {
		t.Fatalf("P4.1: Wrap of kind %d, generation %d, %d bytes: error %d, %d bytes", b.Kind, b.Gen, len(b.Payload), e, len(s))
	}
	return s
}

// wrongWrap asks whether Wrap answers that error, and nothing beside it.
func wrongWrap(t *testing.T, b api.Block, want api.Errno) {
	t.Helper()
	s, e := block.Wrap(b)
	if e != want {
		t.Errorf("P4.1: Wrap of kind %d, generation %d, %d bytes: error %d, want %d", b.Kind, b.Gen, len(b.Payload), e, want)
	}
	if s != "" {
		t.Errorf("P0.2: Wrap of kind %d, generation %d, %d bytes: %d bytes beside the error", b.Kind, b.Gen, len(b.Payload), len(s))
	}
}

// wrongOpen asks whether Open answers that error, and nothing beside it.
func wrongOpen(t *testing.T, what, s string, want api.Errno) {
	t.Helper()
	b, e := block.Open(s)
	if e != want {
		t.Errorf("%s: error %d, want %d", what, e, want)
	}
	if b != (api.Block{}) {
		t.Errorf("P0.2: %s: a block beside the error", what)
	}
}

// opens asks whether a sector opens as that block.
func opens(t *testing.T, what, s string, want api.Block) {
	t.Helper()
	if b, e := block.Open(s); e != api.OK || b != want {
		t.Errorf("%s: error %d, kind %d, generation %d, %d bytes; want kind %d, generation %d, %d bytes",
			what, e, b.Kind, b.Gen, len(b.Payload), want.Kind, want.Gen, len(want.Payload))
	}
}

// changed is the sector of a block with other bytes at a place, and the sum that fits.
func changed(b api.Block, at int, bytes ...byte) string {
	text := []byte(plain(b))[:sumAt]
	copy(text[at:], bytes)
	return sealed(text)
}

// turned is s with the bits of mask turned from bit from on, of each byte the lowest one first.
func turned(s string, from int, mask uint32) string {
	c := []byte(s)
	for i := range 32 {
		if mask>>i&1 == 1 {
			c[(from+i)/8] ^= 1 << ((from + i) % 8)
		}
	}
	return string(c)
}

// few are blocks of several forms.
func few() []api.Block {
	next := numbers(3)
	return []api.Block{
		{},
		{Kind: 1},
		{Kind: 3, Gen: 258, Payload: "hello"},
		{Kind: mostKind, Gen: mostGen, Payload: strings.Repeat("\xFF", mostPayload)},
		{Kind: 67, Gen: 80, Payload: zeros[:500]},
		{Kind: 9, Gen: 1 << 33, Payload: some(mostPayload, next)},
		{Kind: 200, Gen: 77, Payload: some(300, next)},
	}
}

// bounds are all blocks about the bounds of what a block may have.
func bounds() []api.Block {
	next := numbers(5)
	full := some(mostPayload, next)
	var all []api.Block
	for _, kind := range []int{0, 1, 127, 128, 254, mostKind} {
		for _, gen := range []int{0, 1, 255, 256, 1<<32 - 1, 1 << 32, mostGen - 1, mostGen} {
			for _, n := range []int{0, 1, 255, 256, 257, mostPayload - 1, mostPayload} {
				all = append(all, api.Block{Kind: kind, Gen: gen, Payload: full[:n]})
			}
		}
	}
	return all
}

func TestExample(t *testing.T) {
	s := wrapped(t, api.Block{Kind: 1})
	if want := "\x43\x50\x01\x00\x00" + zeros[:1015]; s[:sumAt] != want {
		t.Errorf("P4.1: kind 1, generation 0, no payload: begins %x", s[:20])
	}
	if s != plain(api.Block{Kind: 1}) {
		t.Errorf("P4.1: its sum: %x", s[sumAt:])
	}
	opens(t, "P4.1: Open of the example", s, api.Block{Kind: 1})
}

func TestEachPlaceOfTheSector(t *testing.T) {
	s := wrapped(t, api.Block{Kind: 0xAB, Gen: 0x0102030405060708, Payload: strings.Repeat("z", 0x0203)})
	if want := "CP\xAB\x02\x03\x01\x02\x03\x04\x05\x06\x07\x08z"; s[:14] != want {
		t.Errorf("P4.1: begins %x, want %x", s[:14], want)
	}
	if want := strings.Repeat("z", 0x0203) + zeros[:mostPayload-0x0203]; s[payloadAt:sumAt] != want {
		t.Error("P4.1: the payload, or the zeros behind it")
	}
	sum := crc32.Checksum([]byte(s[:sumAt]), crc32.MakeTable(crc32.Castagnoli))
	if s[1020] != byte(sum) || s[1021] != byte(sum>>8) || s[1022] != byte(sum>>16) || s[1023] != byte(sum>>24) {
		t.Errorf("P4.1: the sum %08X, the lowest byte first: %x", sum, s[sumAt:])
	}
}

func TestAtTheBounds(t *testing.T) {
	for _, b := range bounds() {
		s := wrapped(t, b)
		if s != plain(b) {
			t.Fatalf("P4.1: Wrap of kind %d, generation %d, %d bytes: begins %x, ends %x", b.Kind, b.Gen, len(b.Payload), s[:20], s[sumAt:])
		}
		opens(t, "P4.2: Open of Wrap", s, b)
		opens(t, "P4.1: Open", plain(b), b)
	}
}

func TestEachKindAndEachLength(t *testing.T) {
	full := some(mostPayload, numbers(7))
	for n := range mostPayload + 1 {
		b := api.Block{Kind: n % 256, Gen: n * n, Payload: full[:n]}
		if s := wrapped(t, b); s != plain(b) {
			t.Errorf("P4.1: Wrap of %d bytes", n)
		}
		opens(t, "P4.1: Open", plain(b), b)
	}
}

func TestEachBitOfTheGeneration(t *testing.T) {
	for bit := range 61 {
		for _, gen := range []int{1 << bit, 1<<bit - 1, mostGen - 1<<bit} {
			b := api.Block{Kind: 5, Gen: gen, Payload: "gen"}
			if s := wrapped(t, b); s != plain(b) {
				t.Errorf("P4.1: Wrap of generation %x", gen)
			}
			opens(t, "P4.1: Open", plain(b), b)
		}
	}
}

func TestWrapBeyondTheBounds(t *testing.T) {
	kinds := []int{-1, -255, -256, math.MinInt, 256, 257, 511, 512, 1 << 32, math.MaxInt}
	gens := []int{-1, -mostGen, math.MinInt, mostGen + 1, 1 << 61, 1 << 62, math.MaxInt}
	longs := []string{}
	for _, n := range []int{1008, 1009, 1011, 1020, 1024, 65535, 65536, 65536 + 5, 1 << 20} {
		longs = append(longs, strings.Repeat("x", n))
	}
	for _, kind := range kinds {
		wrongWrap(t, api.Block{Kind: kind}, api.ErrArg)
		wrongWrap(t, api.Block{Kind: kind, Gen: mostGen, Payload: longs[0][:mostPayload]}, api.ErrArg)
		for _, gen := range gens {
			wrongWrap(t, api.Block{Kind: kind, Gen: gen}, api.ErrArg)
			for _, long := range longs {
				wrongWrap(t, api.Block{Kind: kind, Gen: gen, Payload: long}, api.ErrArg)
			}
		}
		for _, long := range longs {
			wrongWrap(t, api.Block{Kind: kind, Payload: long}, api.ErrArg)
		}
	}
	for _, gen := range gens {
		wrongWrap(t, api.Block{Gen: gen}, api.ErrArg)
		wrongWrap(t, api.Block{Kind: mostKind, Gen: gen, Payload: longs[0][:mostPayload]}, api.ErrArg)
		for _, long := range longs {
			wrongWrap(t, api.Block{Gen: gen, Payload: long}, api.ErrArg)
		}
	}
	for _, long := range longs {
		wrongWrap(t, api.Block{Payload: long}, api.ErrBig)
		wrongWrap(t, api.Block{Kind: mostKind, Gen: mostGen, Payload: long}, api.ErrBig)
		wrongWrap(t, api.Block{Payload: strings.Repeat("\x00", len(long))}, api.ErrBig)
	}
}

func TestOpenOfOtherLengths(t *testing.T) {
	for _, b := range few() {
		s := plain(b)
		for n := range 1024 {
			wrongOpen(t, "P4.1: a sector that is cut off", s[:n], api.ErrSize)
			wrongOpen(t, "P4.1: a sector's end", s[1024-n:], api.ErrSize)
		}
		for _, behind := range []string{"\x00", "x", s[sumAt:], s, strings.Repeat(s, 3), strings.Repeat("\x00", 1<<16)} {
			wrongOpen(t, "P4.1: a sector with bytes behind it", s+behind, api.ErrSize)
			wrongOpen(t, "P4.1: a sector with bytes ahead of it", behind+s, api.ErrSize)
		}
	}
	wrongOpen(t, "P4.1: zeros, too few", zeros[1:], api.ErrSize)
	wrongOpen(t, "P4.1: zeros, too many", zeros+"\x00", api.ErrSize)
	wrongOpen(t, "P4.1: other bytes and a sum that doesn't fit, too few", strings.Repeat("x", 1023), api.ErrSize)
	wrongOpen(t, "P4.1: other bytes and a sum that doesn't fit, too many", strings.Repeat("x", 1025), api.ErrSize)
}

func TestOpenOfASumThatDoesNotFit(t *testing.T) {
	for _, b := range few() {
		s := plain(b)
		for at := sumAt; at < 1024; at++ {
			for other := 1; other < 256; other++ {
				c := []byte(s)
				c[at] ^= byte(other)
				wrongOpen(t, "P4.1: another byte in the sum", string(c), api.ErrSum)
			}
		}
		high := []byte(s)
		slices.Reverse(high[sumAt:])
		wrongOpen(t, "P4.1: a sum whose highest byte is first", string(high), api.ErrSum)
		wrongOpen(t, "P4.1: a sum of zeros", s[:sumAt]+"\x00\x00\x00\x00", api.ErrSum)
		wrongOpen(t, "P4.1: a sum of the payload only", s[:sumAt]+sealed([]byte(s[payloadAt:sumAt]))[mostPayload:], api.ErrSum)
	}
	next := numbers(11)
	for range 2000 {
		wrongOpen(t, "P4.1: any bytes", some(1024, next), api.ErrSum)
	}
}

func TestASumThatDoesNotFitComesFirst(t *testing.T) {
	b := api.Block{Kind: 2, Gen: 3, Payload: "four"}
	for _, s := range []string{
		changed(b, 0, 'D'),
		changed(b, 3, 0xFF),
		changed(b, 5, 0xFF),
		changed(b, 17, 1),
		changed(b, 0, 'X', 'X', 2, 0xFF, 0xFF, 0xFF),
	} {
		wrongOpen(t, "P4.1: no block's, the sum fits", s, api.ErrForm)
		for bit := sumAt * 8; bit < 1024*8; bit++ {
			wrongOpen(t, "P4.1: no block's, the sum doesn't fit", turned(s, bit, 1), api.ErrSum)
		}
	}
}

func TestOpenOfOtherFirstBytes(t *testing.T) {
	for _, b := range few() {
		for first := range 256 {
			if first != 0x43 {
				wrongOpen(t, "P4.1: another first byte", changed(b, 0, byte(first)), api.ErrForm)
			}
			if first != 0x50 {
				wrongOpen(t, "P4.1: another second byte", changed(b, 1, byte(first)), api.ErrForm)
			}
			wrongOpen(t, "P4.1: both bytes others", changed(b, 0, byte(first), 0x43), api.ErrForm)
		}
	}
}

func TestOpenOfTooGreatALength(t *testing.T) {
	for _, b := range few() {
		for n := mostPayload + 1; n < 1<<16; n += 1 + n/64 {
			wrongOpen(t, "P4.1: too great a length", changed(b, 3, byte(n>>8), byte(n)), api.ErrForm)
		}
		for _, n := range []int{1008, 1009, 1011, 1012, 1020, 1024, 65534, 65535} {
			wrongOpen(t, "P4.1: too great a length", changed(b, 3, byte(n>>8), byte(n)), api.ErrForm)
		}
	}
	opens(t, "P4.1: the greatest length", changed(api.Block{}, 3, 0x03, 0xEF), api.Block{Payload: zeros[:mostPayload]})
}

func TestOpenOfTooGreatAGeneration(t *testing.T) {
	for _, b := range few() {
		for _, gen := range []uint64{mostGen + 1, mostGen + 256, mostGen + 1<<32, 1<<61 - 1, 1 << 61, 1 << 62, 1<<63 - 1, 1 << 63, 1<<63 + 1, 1<<63 + mostGen, math.MaxUint64} {
			c := b
			c.Gen = 0
			text := []byte(plain(c))[:sumAt]
			for i := range 8 {
				text[5+i] = byte(gen >> (56 - 8*i))
			}
			wrongOpen(t, "P4.1: too great a generation", sealed(text), api.ErrForm)
		}
	}
	opens(t, "P4.1: the greatest generation", changed(api.Block{}, 5, 0x10), api.Block{Gen: mostGen})
}

func TestOpenOfBytesBehindThePayload(t *testing.T) {
	for _, n := range []int{0, 1, 5, 255, 256, 500, mostPayload - 2, mostPayload - 1} {
		b := api.Block{Kind: 7, Gen: 8, Payload: strings.Repeat("p", n)}
		for at := payloadAt + n; at < sumAt; at++ {
			for _, one := range []byte{1, 0x20, 0x80, 0xFF} {
				wrongOpen(t, "P4.1: a byte that isn't zero behind the payload", changed(b, at, one), api.ErrForm)
			}
		}
		wrongOpen(t, "P4.1: bytes that aren't zero behind the payload", changed(b, payloadAt+n, []byte(strings.Repeat("q", mostPayload-n))...), api.ErrForm)
	}
	for at := payloadAt; at < payloadAt+20; at++ {
		b := api.Block{Payload: zeros[:20]}
		c := []byte(b.Payload)
		c[at-payloadAt] = 1
		opens(t, "P4.1: a byte within the payload", changed(b, at, 1), api.Block{Payload: string(c)})
	}
}

func TestOpenOfEachKind(t *testing.T) {
	for kind := range 256 {
		opens(t, "P4.1: any kind", changed(api.Block{Gen: 4, Payload: "k"}, 2, byte(kind)), api.Block{Kind: kind, Gen: 4, Payload: "k"})
	}
}

func TestThereAndBackFromBlocks(t *testing.T) {
	next := numbers(13)
	for range 3000 {
		gen := (next(1<<30)<<30 | next(1<<30)) >> next(61)
		b := api.Block{Kind: next(256), Gen: gen, Payload: some(next(mostPayload+1), next)}
		opens(t, "P4.2: Open of Wrap", wrapped(t, b), b)
	}
	for _, payload := range []string{"\x00", "a\x00", "\x00a", "CP", "\xFF\xFE", "日本語", "\xED\xA0\x80", plain(api.Block{})[:mostPayload]} {
		b := api.Block{Kind: 1, Gen: 1, Payload: payload}
		opens(t, "P4.2: Open of Wrap", wrapped(t, b), b)
	}
}

func TestThereAndBackFromSectors(t *testing.T) {
	next := numbers(17)
	count := [2]int{}
	for range 20000 {
		n := next(mostPayload + 1)
		text := []byte(plain(api.Block{Kind: next(256), Gen: next(1000), Payload: some(n, next)}))[:sumAt]
		for range next(3) {
			at := []int{next(2), 2, 3 + next(2), 5 + next(8), payloadAt + next(mostPayload), min(payloadAt+n, sumAt-1)}[next(6)]
			text[at] = byte(next(256) >> next(8))
		}
		s := sealed(text)
		b, e := block.Open(s)
		switch {
		case !isBlocks(s):
			count[0]++
			if e != api.ErrForm || b != (api.Block{}) {
				t.Fatalf("P4.1: no block's sector: error %d; it begins %x", e, s[:20])
			}
		case e != api.OK:
			t.Fatalf("P4.1: a block's sector: error %d; it begins %x", e, s[:20])
		default:
			count[1]++
			if again, e := block.Wrap(b); e != api.OK || again != s {
				t.Fatalf("P4.2: Wrap of Open: error %d; it begins %x, the sector %x", e, again[:min(20, len(again))], s[:20])
			}
		}
	}
	if min(count[0], count[1]) < 3000 {
		t.Error("too few of one kind of sectors were tried:", count)
	}
}

func TestTurnedNearEachBit(t *testing.T) {
	next := numbers(19)
	for _, b := range few()[1:4] {
		s := wrapped(t, b)
		for from := range 8 * 1024 {
			wrongOpen(t, "P4.3: one bit", turned(s, from, 1), api.ErrSum)
			if from+32 > 8*1024 {
				continue
			}
			for _, mask := range []uint32{0xFFFFFFFF, 1<<31 | 1, uint32(next(1<<30))<<1 | 1<<31 | 1} {
				wrongOpen(t, "P4.3: bits within 32", turned(s, from, mask), api.ErrSum)
			}
		}
	}
}

func TestTurnedAtTheBorders(t *testing.T) {
	// The sector's beginning, its fields, the border of the payload, that of the sum, and the sector's end.
	masks := []uint32{0x82F63B78, 0x05EC76F1, 0x55555555, 0xAAAAAAAA, 0xFFFF0000, 0x0000FFFF}
	for low := uint32(1); low < 1<<7; low += 2 {
		masks = append(masks, low, low<<25, low|1<<31)
	}
	for _, b := range few() {
		s := wrapped(t, b)
		for _, border := range []int{0, 2, 3, 5, payloadAt, payloadAt + len(b.Payload), sumAt, 1024} {
			for from := max(0, 8*border-32); from <= min(8*border, 8*1024-32); from++ {
				for _, mask := range masks {
					wrongOpen(t, "P4.3: bits at a border", turned(s, from, mask), api.ErrSum)
				}
			}
		}
	}
}

func TestTurnedToAnotherBlock(t *testing.T) {
	// Two blocks whose bytes ahead of the sum differ within 32 bits: neither's sum fits the other one.
	b := api.Block{Kind: 1, Gen: 1, Payload: "payload"}
	for _, c := range []api.Block{
		{Kind: 2, Gen: 1, Payload: "payload"},
		{Kind: 1, Gen: 2, Payload: "payload"},
		{Kind: 1, Gen: 1, Payload: "paylord"},
		{Kind: 1, Gen: 1, Payload: "pelloud"},
		{Kind: 1, Gen: 1, Payload: "payload\x00"},
	} {
		s, other := wrapped(t, b), wrapped(t, c)
		wrongOpen(t, "P4.3: another block's bytes", other[:sumAt]+s[sumAt:], api.ErrSum)
		wrongOpen(t, "P4.3: another block's sum", s[:sumAt]+other[sumAt:], api.ErrSum)
	}
}

// TestTurnedAll: what bits that are turned do to a sum is what each does alone, put on each other (P1.4). Where 32 in a row, within the text, within the sum or on both sides of their border, are independent, none of their 2^32 - 1 choices leaves a sum that fits.
func TestTurnedAll(t *testing.T) {
	table := crc32.MakeTable(crc32.Castagnoli)
	s := wrapped(t, few()[5])
	alone := make([]uint32, 8*1024)
	for bit := range alone {
		c := turned(s, bit, 1)
		there := uint32(c[1020]) | uint32(c[1021])<<8 | uint32(c[1022])<<16 | uint32(c[1023])<<24
		alone[bit] = crc32.Checksum([]byte(c[:sumAt]), table) ^ there
	}
	for from := range len(alone) - 31 {
		if r := rank(alone[from : from+32]); r != 32 {
			t.Fatalf("P4.3: from bit %d on: rank %d of 32", from, r)
		}
	}
}

// rank is how many rows are independent when they are put on each other exclusively.
func rank(rows []uint32) int {
	var kept [32]uint32
	n := 0
	for _, row := range rows {
		for bit := 31; bit >= 0 && row != 0; bit-- {
			if row>>bit&1 == 0 {
				continue
			}
			if kept[bit] == 0 {
				kept[bit] = row
				n++
				break
			}
			row ^= kept[bit]
		}
	}
	return n
}

func TestZeros(t *testing.T) {
	wrongOpen(t, "P4.4: a sector of zeros", zeros, api.ErrSum)
	wrongOpen(t, "P4.1: zeros with the sum that fits", sealed(make([]byte, sumAt)), api.ErrForm)
	opens(t, "P4.1: the block of zeros", wrapped(t, api.Block{}), api.Block{})
	if wrapped(t, api.Block{}) == zeros {
		t.Error("P4.4: a block's sector is zeros")
	}
}

func TestUnlikeBlocksHaveUnlikeSectors(t *testing.T) {
	all := append(few(), bounds()...)
	for n := range 40 {
		all = append(all, api.Block{Payload: zeros[:n]}, api.Block{Payload: "a" + zeros[:n]}, api.Block{Payload: zeros[:n] + "a"}, api.Block{Gen: n << 8}, api.Block{Gen: n, Payload: "a"}, api.Block{Kind: n, Payload: "a"})
	}
	seen := map[string]api.Block{}
	for _, b := range all {
		s := wrapped(t, b)
		if other, ok := seen[s]; ok && other != b {
			t.Errorf("P4.2: one sector of kind %d, generation %d, %d bytes and of kind %d, generation %d, %d bytes",
				b.Kind, b.Gen, len(b.Payload), other.Kind, other.Gen, len(other.Payload))
		}
		seen[s] = b
	}
}

// inside tells whether part lies in the memory of whole.
func inside(part, whole string) bool {
	begin, at := uintptr(unsafe.Pointer(unsafe.StringData(whole))), uintptr(unsafe.Pointer(unsafe.StringData(part)))
	return at >= begin && at < begin+uintptr(len(whole))
}

func TestAnswersAreNewMemory(t *testing.T) {
	b := few()[5]
	s := wrapped(t, b)
	c, _ := block.Open(s)
	d, _ := block.Open(s)
	if inside(c.Payload, s) || inside(d.Payload, c.Payload) {
		t.Error("P0.3: a payload shares memory with its sector, or with another answer")
	}
	if again := wrapped(t, b); inside(again, s) || inside(s, b.Payload) {
		t.Error("P0.3: a sector shares memory with another answer, or with its payload")
	}
	room := []byte("ahead" + b.Payload + "behind")
	in := b
	in.Payload = unsafe.String(&room[5], len(b.Payload))
	out := wrapped(t, in)
	if string(room) != "ahead"+b.Payload+"behind" {
		t.Error("P0.3: what was handed in was changed")
	}
	clear(room)
	if out != s {
		t.Error("P0.3: what was handed in is kept")
	}
}

func TestOneCallDoesNotHangOnAnother(t *testing.T) {
	all := bounds()
	var group sync.WaitGroup
	for range 4 {
		group.Go(func() {
			for _, b := range all {
				s, e := block.Wrap(b)
				block.Wrap(api.Block{Kind: -1})
				block.Open(zeros)
				c, f := block.Open(s)
				if e != api.OK || f != api.OK || c != b || s != plain(b) {
					t.Errorf("P0.5: side by side: errors %d and %d", e, f)
				}
			}
		})
	}
	group.Wait()
}
