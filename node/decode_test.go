package node_test

import (
	"math"
	"slices"
	"strings"
	"testing"

	"coppice/api"
	"coppice/node"
)

func TestDecodeOfBytesThatAreCutOffOrGoOn(t *testing.T) {
	refused(t, "no bytes", "")
	for what, n := range right() {
		s := plainBytes(n)
		for cut := range len(s) {
			refused(t, what+", cut off", s[:cut])
		}
		for b := range 256 {
			refused(t, what+", with a byte more", s+string([]byte{byte(b)}))
		}
		refused(t, what+", twice", s+s)
		refused(t, what+", with zeros behind", s+strings.Repeat("\x00", mostPayload))
	}
}

func TestDecodeOfOtherFirstBytes(t *testing.T) {
	items, one := plainBytes(leaf("a", "b")), plainBytes(kids(api.Kid{Key: "a", Place: 5}))
	for b := range 256 {
		first := string([]byte{byte(b)})
		if b != 1 {
			refused(t, "a leaf's bytes behind another byte", first+items[1:])
		}
		if b != 2 {
			refused(t, "a kid's bytes behind another byte", first+one[1:])
		}
		if b != 1 && b != 2 {
			refused(t, "one byte", first)
			refused(t, "an entry that both may have", first+"\x01\x01a\x05vvvvv")
		}
	}
}

func TestDecodeOfNumbersThatAreWrittenLonger(t *testing.T) {
	for what, s := range map[string]string{
		"a leaf's count":             "\x01\x81\x00\x01a\x01b",
		"a leaf's count, longer":     "\x01\x81\x80\x80\x00\x01a\x01b",
		"a leaf's count in ten":      "\x01\x81\x80\x80\x80\x80\x80\x80\x80\x80\x00\x01a\x01b",
		"a leaf's count in eleven":   "\x01\x81\x80\x80\x80\x80\x80\x80\x80\x80\x80\x00\x01a\x01b",
		"an item's key":              "\x01\x01\x81\x00a\x01b",
		"an item's key, longer":      "\x01\x01\x81\x80\x00a\x01b",
		"an item's value":            "\x01\x01\x01a\x81\x00b",
		"an item's empty value":      "\x01\x01\x01a\x80\x00",
		"the second item's key":      "\x01\x02\x01a\x01b\x81\x00c\x00",
		"a node's count":             "\x02\x81\x00\x01a\x05",
		"a kid's key":                "\x02\x01\x81\x00a\x05",
		"a kid's empty key":          "\x02\x01\x80\x00\x05",
		"a kid's place":              "\x02\x01\x01a\x85\x00",
		"a kid's place, longer":      "\x02\x01\x01a\x85\x80\x00",
		"a kid's place in ten":       "\x02\x01\x01a\x85\x80\x80\x80\x80\x80\x80\x80\x80\x00",
		"a place that wraps round":   "\x02\x01\x01a\x85\x80\x80\x80\x80\x80\x80\x80\x80\x02",
		"a place with a bit too far": "\x02\x01\x01a\x85\x80\x80\x80\x80\x80\x80\x80\x80\x80\x01",
	} {
		refused(t, what, s)
	}
}

func TestDecodeOfCountsThatDoNotFit(t *testing.T) {
	counts := []uint64{0, 1, 2, 3, 4, 5, 127, 128, 129, 255, 256, 257, 1 << 14, 1<<32 + 2, 1 << 62, 1 << 63, math.MaxUint64 - 1, math.MaxUint64}
	items := plainBytes(leaf("a", "1", "b", ""))[2:]
	two := plainBytes(kids(api.Kid{Key: "a", Place: 5}, api.Kid{Key: "b", Place: 300}))[2:]
	for _, count := range counts {
		if count != 2 {
			refused(t, "a count of two items", "\x01"+plainShort(count)+items)
			refused(t, "a count of two kids", "\x02"+plainShort(count)+two)
		}
		refused(t, "a count of nothing", "\x01"+plainShort(count))
		refused(t, "a count of nothing", "\x02"+plainShort(count))
		refused(t, "a count of zeros", "\x01"+plainShort(count)+strings.Repeat("\x00", 600))
		refused(t, "a count of zeros", "\x02"+plainShort(count)+strings.Repeat("\x00", 600))
	}
	back(t, "the count that fits", leaf("a", "1", "b", ""), "\x01\x02"+items)
	for _, count := range []int{127, 128, 140} {
		for wrong := count - 3; wrong <= count+3; wrong++ {
			s := "\x01" + plainShort(uint64(wrong)) + plainBytes(many(true, count))[1+len(plainShort(uint64(count))):]
			if wrong != count {
				refused(t, "a count beside the right one", s)
			} else {
				back(t, "the right count", many(true, count), s)
			}
		}
	}
}

func TestDecodeOfNodesThatAreNotRight(t *testing.T) {
	for what, n := range wrong() {
		s := plainBytes(n)
		if _, e := plainDecode(s); e == api.OK { // a list too many has no bytes
			continue
		}
		refused(t, what, s)
	}
	places := []uint64{0, 1, 4096, 4097, 1 << 16, 1<<16 + 5, 1<<32 + 5, 1 << 62, 1<<63 - 1, 1 << 63, 1<<63 + 5, math.MaxUint64 - 1, math.MaxUint64}
	for _, place := range places {
		refused(t, "a place out of its bounds", "\x02\x01\x01a"+plainShort(place))
		refused(t, "a place behind", "\x02\x02\x01a\x05\x01b"+plainShort(place))
	}
	for _, size := range []uint64{2, 161, 273, 274, 1 << 16, 1<<32 + 1, 1 << 63, math.MaxUint64} {
		refused(t, "a key's length", "\x01\x01"+plainShort(size)+"a\x00")
		refused(t, "a key's length", "\x01\x01"+plainShort(size)+strings.Repeat("a", 280)+"\x00")
		refused(t, "a value's length", "\x01\x01\x01a"+plainShort(size)+"v")
		refused(t, "a value's length", "\x01\x01\x01a"+plainShort(size)+strings.Repeat("v", 161))
		refused(t, "a kid's key's length", "\x02\x01"+plainShort(size)+"a\x05")
	}
}

func TestDecodeOfMuch(t *testing.T) {
	for _, size := range []int{1007, 1008, 1024, 1 << 16, 1 << 22} {
		for _, b := range []string{"\x00", "\x01", "\x02", "\x7f", "\x80", "\xff"} {
			refused(t, "much of one byte", strings.Repeat(b, size))
			refused(t, "much of one byte in a leaf", "\x01"+plainShort(math.MaxUint64)+strings.Repeat(b, size))
			refused(t, "much of one byte in kids", "\x02"+plainShort(math.MaxUint64)+strings.Repeat(b, size))
		}
	}
}

// decoded asks for Decode of any bytes, against the chapter's words.
func decoded(t *testing.T, s string) {
	t.Helper()
	n, e := node.Decode(s)
	want, wantErr := plainDecode(s)
	if e != wantErr || !same(n, want) {
		t.Fatalf("P6.1: Decode(%q): %v, error %d, want %v, error %d", s, n, e, want, wantErr)
	}
	if e == api.OK {
		back(t, "any bytes", n, s)
	}
}

func TestDecodeOfAllShortTexts(t *testing.T) {
	const letters = "\x00\x01\x02\x05ab\x80"
	var texts func(begin string, left int)
	texts = func(begin string, left int) {
		decoded(t, begin)
		if left > 0 {
			for i := range len(letters) {
				texts(begin+letters[i:i+1], left-1)
			}
		}
	}
	texts("\x01", 6)
	texts("\x02", 6)
	texts("", 4)
}

func TestDecodeOfTurnedBytes(t *testing.T) {
	next := numbers(17)
	for range 30000 {
		s := []byte(plainBytes(anyNode(next)))
		for range 1 + next(3) {
			at := next(len(s))
			switch next(4) {
			case 0:
				s[at] ^= byte(1 << next(8))
			case 1:
				s[at] += byte(next(3)) - 1
			case 2:
				s = slices.Insert(s, at, byte(next(4)))
			default:
				s = slices.Delete(s, at, min(len(s)-1, at+1))
			}
		}
		decoded(t, string(s))
	}
}
