// Package crc is layer 1: see shared/doc/01-crc.md.
package crc

// halves holds, for each half byte, what its four shifts put on the bits above it.
// Sixteen words are enough that way, where whole bytes would need 256.
var halves = [16]uint32{
	0x00000000, 0x105EC76F, 0x20BD8EDE, 0x30E349B1,
	0x417B1DBC, 0x5125DAD3, 0x61C69362, 0x7198540D,
	0x82F63B78, 0x92A8FC17, 0xA24BB5A6, 0xB21572C9,
	0xC38D26C4, 0xD3D3E1AB, 0xE330A81A, 0xF36E6F75,
}

// Sum is the sum of parts, one behind the other.
func Sum(parts ...[]byte) uint32 {
	sum := uint32(0)
	for _, part := range parts {
		sum = More(sum, part)
	}
	return sum
}

// More is the sum with bytes behind it.
func More(c uint32, b []byte) uint32 {
	// A sum has all bits turned: turned back, it is where the work stopped.
	state := ^c
	for _, one := range b {
		state = step(state, one)
	}
	return ^state
}

// Text is the sum of a text's bytes.
func Text(s string) uint32 {
	state := ^uint32(0)
	// By index: ranging over a text gives runes, not bytes.
	for i := range len(s) {
		state = step(state, s[i])
	}
	return ^state
}

// step takes one byte in, its lower half first, as its lowest bits go out first.
func step(state uint32, one byte) uint32 {
	state ^= uint32(one)
	state = state>>4 ^ halves[state&15]
	return state>>4 ^ halves[state&15]
}
