package super_test

import (
	"hash/crc32"
	"math"
	"strings"
	"testing"

	"coppice/api"
	"coppice/super"
)

// The calls as the chapter lists them.
var (
	_ func(s api.Super) (string, api.Errno)         = super.Wrap
	_ func(sector string) (api.Super, api.Errno)    = super.Open
	_ func(gen int) int                             = super.Slot
	_ func(zero, one string) (api.Super, api.Errno) = super.Choose
)

// What the chapter says of bounds and places, in numbers: a test that took api's words would move with them.
const (
	mostGen     = 1 << 60
	mostSectors = 4096
	mostPayload = 1007
	sumAt       = 1020
)

var zeros = strings.Repeat("\x00", 1024)

// numbers answers ever the same row of numbers, so that a test that fails fails again.
func numbers(seed uint64) func(below int) int {
	return func(below int) int {
		seed ^= seed << 13
		seed ^= seed >> 7
		seed ^= seed << 17
		return int(seed >> 4 % uint64(below))
	}
}

// fixed is a number in eight bytes, the highest first.
func fixed(n uint64) string {
	var b [8]byte
	for i := 7; i >= 0; i-- {
		b[i] = byte(n % 256)
		n /= 256
	}
	return string(b[:])
}

// sealed is a block's sector whose sum fits, whatever else stands in it.
func sealed(kind byte, gen uint64, payload string) string {
	text := "CP" + string([]byte{kind, byte(len(payload) / 256), byte(len(payload) % 256)}) + fixed(gen) + payload
	text += zeros[:sumAt-len(text)]
	sum := crc32.Checksum([]byte(text), crc32.MakeTable(crc32.Castagnoli))
	return text + string([]byte{byte(sum), byte(sum >> 8), byte(sum >> 16), byte(sum >> 24)})
}

// payload is three fixed numbers.
func payload(root, sectors, gen int) string {
	return fixed(uint64(root)) + fixed(uint64(sectors)) + fixed(uint64(gen))
}

// plain is a super's sector as the chapter's words say it.
func plain(s api.Super) string {
	return sealed(9, uint64(s.Gen), payload(s.Root, s.Sectors, s.Gen))
}

// mayBe tells by the chapter's words whether a super may be so.
func mayBe(s api.Super) bool {
	if s.Gen < 0 || s.Gen > mostGen || s.Sectors < 8 || s.Sectors > mostSectors {
		return false
	}
	return s.Root == 0 || s.Root >= 2 && s.Root <= s.Sectors-1
}

// about is supers about all bounds, within them and beyond.
func about() []api.Super {
	var list []api.Super
	for _, gen := range []int{math.MinInt, -mostGen, -2, -1, 0, 1, 2, 255, 256, 1<<32 - 1, 1 << 32, mostGen - 1, mostGen, mostGen + 1, 1 << 61, math.MaxInt} {
		for _, sectors := range []int{math.MinInt, -4096, -8, -1, 0, 1, 6, 7, 8, 9, 255, 256, 4095, 4096, 4097, 1 << 32, math.MaxInt} {
			for _, root := range []int{math.MinInt, -4096, -2, -1, 0, 1, 2, 3, 7, 8, sectors - 2, sectors - 1, sectors, sectors + 1, 4095, 4096, 4097, 1 << 32, math.MaxInt} {
				list = append(list, api.Super{Gen: gen, Root: root, Sectors: sectors})
			}
		}
	}
	return list
}

// chance is a super that may be.
func chance(next func(int) int) api.Super {
	s := api.Super{Gen: next(1 << next(61)), Sectors: 8 + next(mostSectors-7)}
	if next(5) > 0 {
		s.Root = 2 + next(s.Sectors-2)
	}
	return s
}

// wrapped is the sector that Wrap answers without an error.
func wrapped(t *testing.T, s api.Super) string {
	t.Helper()
	sector, e := super.Wrap(s)
	if e != api.OK || len(sector) != 1024 {
		t.Fatalf("P9.1: Wrap of %+v: error %d, %d bytes", s, e, len(sector))
	}
	return sector
}

// opens asks whether a sector opens as that super.
func opens(t *testing.T, what, sector string, want api.Super) {
	t.Helper()
	if s, e := super.Open(sector); e != api.OK || s != want {
		t.Errorf("%s: Open: %+v, error %d, want %+v", what, s, e, want)
	}
}

// wrongOpen asks whether Open answers that error, and nothing beside it.
func wrongOpen(t *testing.T, what, sector string, want api.Errno) {
	t.Helper()
	s, e := super.Open(sector)
	if e != want {
		t.Errorf("P9.1: %s: Open: error %d, want %d", what, e, want)
	}
	if s != (api.Super{}) {
		t.Errorf("P0.2: %s: Open: %+v beside the error", what, s)
	}
}

func TestWrapAboutTheBounds(t *testing.T) {
	may := 0
	for _, s := range about() {
		sector, e := super.Wrap(s)
		switch {
		case !mayBe(s):
			if sector != "" || e != api.ErrSuper {
				t.Errorf("P9.1: Wrap of %+v: %d bytes, error %d, want ErrSuper", s, len(sector), e)
			}
		case sector != plain(s) || e != api.OK:
			t.Errorf("P9.1: Wrap of %+v: error %d, or another sector", s, e)
		default:
			may++
			opens(t, "P9.2: Wrap's sector", sector, s)
		}
	}
	if may < 300 {
		t.Error("the test itself is wrong: supers that may be:", may)
	}
}

func TestEachPlaceOfTheSector(t *testing.T) {
	sector := wrapped(t, api.Super{Gen: 0x0102030405060708, Root: 0x0A0B, Sectors: 0x0C0D})
	want := "CP\x09\x00\x18\x01\x02\x03\x04\x05\x06\x07\x08" +
		"\x00\x00\x00\x00\x00\x00\x0A\x0B" + "\x00\x00\x00\x00\x00\x00\x0C\x0D" + "\x01\x02\x03\x04\x05\x06\x07\x08"
	if sector[:len(want)] != want || sector[len(want):sumAt] != zeros[:sumAt-len(want)] {
		t.Errorf("P9.1: begins %x, want %x, and zeros", sector[:len(want)+2], want)
	}
}

func TestEachBitOfTheNumbers(t *testing.T) {
	for bit := range 60 {
		for _, s := range []api.Super{{Gen: 1 << bit, Sectors: 8}, {Gen: mostGen - 1<<bit, Root: 2 + 1<<(bit%12), Sectors: 4096}} {
			if s.Root >= s.Sectors {
				s.Root = 0
			}
			if sector := wrapped(t, s); sector != plain(s) {
				t.Errorf("P9.1: Wrap of %+v", s)
			}
			opens(t, "P9.1: its sector", plain(s), s)
		}
	}
	for sectors := 8; sectors <= mostSectors; sectors++ {
		s := api.Super{Gen: sectors, Root: sectors - 1, Sectors: sectors}
		opens(t, "P9.2: each number of sectors", wrapped(t, s), s)
	}
}

func TestOpenOfWhatIsNoBlock(t *testing.T) {
	good := plain(api.Super{Gen: 5, Root: 3, Sectors: 16})
	for size := range 1024 {
		wrongOpen(t, "a sector that is cut off", good[:size], api.ErrSize)
		wrongOpen(t, "a sector's end", good[1024-size:], api.ErrSize)
	}
	wrongOpen(t, "a byte too many", good+"\x00", api.ErrSize)
	wrongOpen(t, "two sectors", good+good, api.ErrSize)
	wrongOpen(t, "zeros", zeros, api.ErrSum)
	wrongOpen(t, "a sum that doesn't fit, of another kind", "CP\x08"+good[3:], api.ErrSum)
	for at := range 1024 {
		spoilt := []byte(good)
		spoilt[at] ^= 1 << (at % 8)
		wrongOpen(t, "a bit that was turned", string(spoilt), api.ErrSum)
	}
	wrongOpen(t, "a generation that no block has", sealed(9, mostGen+1, payload(3, 16, mostGen+1)), api.ErrForm)
	wrongOpen(t, "a generation of all bits", sealed(9, math.MaxUint64, payload(3, 16, -1)), api.ErrForm)
	next := numbers(21)
	for range 3000 {
		bytes := make([]byte, []int{0, 1, 1023, 1024, 1025, next(3000)}[next(6)])
		for i := range bytes {
			bytes[i] = byte(next(256))
		}
		want := api.ErrSize
		if len(bytes) == 1024 {
			want = api.ErrSum
		}
		wrongOpen(t, "any bytes", string(bytes), want)
	}
}

func TestOpenOfBlocksThatAreNoSupers(t *testing.T) {
	for kind := range 256 {
		sector := sealed(byte(kind), 5, payload(3, 16, 5))
		if kind == 9 {
			opens(t, "P9.1: kind 9", sector, api.Super{Gen: 5, Root: 3, Sectors: 16})
		} else {
			wrongOpen(t, "a block of another kind", sector, api.ErrSuper)
		}
	}
	full := payload(3, 16, 5) + zeros
	for size := range mostPayload + 1 {
		if size != 24 {
			wrongOpen(t, "a payload of another length", sealed(9, 5, full[:size]), api.ErrSuper)
		}
	}
	wrongOpen(t, "a payload and another number", sealed(9, 5, payload(3, 16, 5)+fixed(5)), api.ErrSuper)
	wrongOpen(t, "a payload of short numbers", sealed(9, 5, "\x03\x10\x05"), api.ErrSuper)
	for _, gen := range []int{math.MinInt, -5, -1, 0, 1, 4, 6, 5 + 1<<8, 5 + 1<<32, mostGen, mostGen + 5, math.MaxInt} {
		wrongOpen(t, "another generation in the payload", sealed(9, 5, payload(3, 16, gen)), api.ErrSuper)
		if gen >= 0 && gen <= mostGen {
			wrongOpen(t, "another generation in the block", sealed(9, uint64(gen), payload(3, 16, 5)), api.ErrSuper)
		}
	}
	for _, s := range about() {
		if s.Gen < 0 || s.Gen > mostGen {
			continue
		}
		if mayBe(s) {
			opens(t, "P9.1: about the bounds", plain(s), s)
		} else {
			wrongOpen(t, "what a super may not have", plain(s), api.ErrSuper)
		}
	}
}

func TestSlot(t *testing.T) {
	for _, gen := range []int{0, 2, 4, 6, 1 << 32, mostGen, math.MaxInt - 1, -2, -4, -mostGen, math.MinInt} {
		if slot := super.Slot(gen); slot != 0 {
			t.Errorf("P9.1: Slot of %d: %d, want 0", gen, slot)
		}
		if slot := super.Slot(gen + 1); slot != 1 {
			t.Errorf("P9.1: Slot of %d: %d, want 1", gen+1, slot)
		}
	}
}

func TestThereAndBack(t *testing.T) {
	next := numbers(7)
	for range 20000 {
		s := chance(next)
		sector := wrapped(t, s)
		if sector != plain(s) {
			t.Fatalf("P9.1: Wrap of %+v", s)
		}
		opens(t, "P9.2: there and back", sector, s)
	}
}

func TestWhatOpensHasOneSector(t *testing.T) {
	next := numbers(9)
	opened := 0
	for range 30000 {
		s := chance(next)
		text := []byte(payload(s.Root, s.Sectors, s.Gen) + zeros)[:24+next(3)*next(2)]
		gen := uint64(s.Gen)
		switch next(4) {
		case 0:
			text[next(24)] ^= 1 << next(8)
		case 1:
			text[8*next(2)+6+next(2)] = byte(next(256))
		case 2:
			gen ^= uint64(next(2)) << next(60)
		}
		sector := sealed(9, gen, string(text))
		got, e := super.Open(sector)
		if e != api.OK {
			continue
		}
		opened++
		if back := wrapped(t, got); back != sector {
			t.Fatalf("P9.2: %+v opens, and has another sector", got)
		}
	}
	if opened < 5000 {
		t.Error("the test itself is wrong: opened:", opened)
	}
}
