// Package crc is layer 1: CRC-32 checksums, four bits at a time, and byte
// strings that carry their own. See shared/doc/01-crc.md.
package crc

// sumLen is how many bytes a checksum takes behind sealed bytes.
const sumLen = 4

// nibbles is written out, not worked out, since More reads it twice a byte;
// the tests hold it against the step.
var nibbles = [16]uint32{
	0x00000000, 0x1db71064, 0x3b6e20c8, 0x26d930ac,
	0x76dc4190, 0x6b6b51f4, 0x4db26158, 0x5005713c,
	0xedb88320, 0xf00f9344, 0xd6d6a3e8, 0xcb61b38c,
	0x9b64c2b0, 0x86d3d2d4, 0xa00ae278, 0xbdbdf21c,
}

// Sum is the checksum of b.
func Sum(b []byte) uint32 { return More(0, b) }

// More is the checksum of bytes whose own is sum, followed by b.
func More(sum uint32, b []byte) uint32 {
	x := ^sum
	for _, c := range b {
		x = eightSteps(x ^ uint32(c))
	}
	return ^x
}

// eightSteps takes a half of the steps at once: the step spreads over
// exclusive or, so the low four bits, whose result the table has, can be
// stepped apart from the others, which merely move down.
func eightSteps(x uint32) uint32 {
	halves := 2
half:
	x = x>>4 ^ nibbles[x&15]
	halves--
	if halves > 0 {
		goto half
	}
	return x
}

// Seal is b followed by the bytes of its checksum.
func Seal(b []byte) []byte {
	tail := sumBytes(Sum(b))
	// The room is made first: appending to b itself could write behind the
	// caller's slice.
	sealed := make([]byte, 0, len(b)+sumLen)
	sealed = append(sealed, b...)
	return append(sealed, tail[:]...)
}

// Open is what was sealed; false: b is not what Seal answers for any bytes.
func Open(b []byte) ([]byte, bool) {
	n := len(b) - sumLen
	if n < 0 || [sumLen]byte(b[n:]) != sumBytes(Sum(b[:n])) {
		return nil, false
	}
	return append([]byte(nil), b[:n]...), true
}

// sumBytes puts the least significant byte first, as the step takes the least
// significant bit first: so bits that lie together in sealed bytes also lie
// together for the checksum, up to its end.
func sumBytes(sum uint32) [sumLen]byte {
	var b [sumLen]byte
	for i := range sumLen {
		b[i] = byte(sum >> (8 * i))
	}
	return b
}

// Nibbles is the table: each number below sixteen after four steps.
func Nibbles() [16]uint32 { return nibbles }
