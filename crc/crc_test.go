package crc

import (
	"bytes"
	"hash/crc32"
	"testing"
)

// step is the chapter's word, bit by bit, so that the table is not held
// against itself.
func step(x uint32) uint32 {
	out := x & 1
	x >>= 1
	if out == 1 {
		x ^= 0xedb88320
	}
	return x
}

func slowMore(sum uint32, b []byte) uint32 {
	x := ^sum
	for _, c := range b {
		x ^= uint32(c)
		for range 8 {
			x = step(x)
		}
	}
	return ^x
}

// made answers n bytes that look unordered and are the same at each run.
func made(n int, seed uint32) []byte {
	b := make([]byte, n)
	x := seed*2654435761 + 1
	for i := range b {
		x = x*1664525 + 1013904223
		b[i] = byte(x >> 24)
	}
	return b
}

func invert(b []byte, bit int) { b[bit/8] ^= 1 << (bit % 8) }

// P1.1

func TestNibblesAreFourSteps(t *testing.T) {
	table := Nibbles()
	for n := range table {
		want := uint32(n)
		for range 4 {
			want = step(want)
		}
		if table[n] != want {
			t.Errorf("Nibbles()[%d] = %08x, want %08x", n, table[n], want)
		}
	}
}

func TestNibblesBelongToTheCaller(t *testing.T) {
	before := Sum([]byte("suture"))
	table := Nibbles()
	for n := range table {
		table[n] = ^table[n]
	}
	if again := Nibbles(); again[0] != 0 || again[8] != 0xedb88320 {
		t.Errorf("the table changed: %08x", again)
	}
	if after := Sum([]byte("suture")); after != before {
		t.Errorf("Sum = %08x after the caller's change, %08x before", after, before)
	}
}

// P1.2

func TestSumOfKnownBytes(t *testing.T) {
	for _, c := range []struct {
		text string
		want uint32
	}{
		{"", 0},
		{"123456789", 0xcbf43926},
		{"a", 0xe8b7be43},
		{"abc", 0x352441c2},
		{"The quick brown fox jumps over the lazy dog", 0x414fa339},
		{"\x00", 0xd202ef8d},
		{"\x00\x00\x00\x00", 0x2144df1c},
		{"\xff\xff\xff\xff", 0xffffffff},
	} {
		if got := Sum([]byte(c.text)); got != c.want {
			t.Errorf("Sum(%q) = %08x, want %08x", c.text, got, c.want)
		}
	}
	if Sum(nil) != 0 {
		t.Errorf("Sum(nil) = %08x, want 0", Sum(nil))
	}
}

func TestMoreIsEightStepsForEachByte(t *testing.T) {
	for _, sum := range []uint32{0, 1, 15, 16, 0xff, 0x80000000, 0xcbf43926, 0xedb88320, 0xffffffff} {
		for c := range 256 {
			b := []byte{byte(c)}
			if got, want := More(sum, b), slowMore(sum, b); got != want {
				t.Fatalf("More(%08x, %v) = %08x, want %08x", sum, b, got, want)
			}
		}
		for n := range 70 {
			b := made(n, sum)
			if got, want := More(sum, b), slowMore(sum, b); got != want {
				t.Fatalf("More(%08x, %v) = %08x, want %08x", sum, b, got, want)
			}
		}
	}
}

func TestSumAgreesWithTheLibrary(t *testing.T) {
	for _, n := range []int{0, 1, 3, 4, 5, 64, 4095, 4096, 1 << 16} {
		b := made(n, 7)
		if got, want := Sum(b), crc32.ChecksumIEEE(b); got != want {
			t.Errorf("Sum of %d bytes = %08x, want %08x", n, got, want)
		}
	}
}

func TestMoreOfNothingIsTheSum(t *testing.T) {
	for _, sum := range []uint32{0, 1, 0xcbf43926, 0xffffffff} {
		if More(sum, nil) != sum || More(sum, []byte{}) != sum {
			t.Errorf("More(%08x, nothing) = %08x, %08x", sum, More(sum, nil), More(sum, []byte{}))
		}
	}
}

// P1.3

func TestSealPutsTheLeastSignificantByteFirst(t *testing.T) {
	want := []byte("123456789\x26\x39\xf4\xcb")
	if got := Seal([]byte("123456789")); !bytes.Equal(got, want) {
		t.Errorf("Seal = %v, want %v", got, want)
	}
	for _, empty := range [][]byte{nil, {}} {
		if got := Seal(empty); !bytes.Equal(got, []byte{0, 0, 0, 0}) {
			t.Errorf("Seal of no bytes = %v, want four zeros", got)
		}
	}
	for n := range 40 {
		b := made(n, 3)
		s, sum := Seal(b), slowMore(0, b)
		tail := []byte{byte(sum), byte(sum >> 8), byte(sum >> 16), byte(sum >> 24)}
		if !bytes.Equal(s, append(bytes.Clone(b), tail...)) {
			t.Errorf("Seal(%v) = %v, want it with %v behind", b, s, tail)
		}
	}
}

func TestOpenTakesTheSumOff(t *testing.T) {
	for _, c := range []struct{ sealed, want string }{
		{"123456789\x26\x39\xf4\xcb", "123456789"},
		{"\x00\x00\x00\x00", ""},
		{"a\x43\xbe\xb7\xe8", "a"},
	} {
		if got, ok := Open([]byte(c.sealed)); !ok || string(got) != c.want {
			t.Errorf("Open(%q) = %q, %v, want %q", c.sealed, got, ok, c.want)
		}
	}
}

func TestOpenRefuses(t *testing.T) {
	for _, wrong := range []string{
		"", "\x00", "\x00\x00", "\x00\x00\x00", "abc", // fewer than four bytes
		"\x00\x00\x00\x01", "\x01\x00\x00\x00", "\xff\xff\xff\xff", // another sum of nothing
		"123456789\xcb\xf4\x39\x26",     // most significant byte first
		"123456789",                     // no sum
		"123456789\x26\x39\xf4",         // cut off
		"123456789\x26\x39\xf4\xcb\x00", // something behind
		"12345678\x26\x39\xf4\xcb",      // a byte lost
		"213456789\x26\x39\xf4\xcb",     // two bytes changed places
		"\x00\x00\x00\x00\x00",          // a byte with the sum of none
	} {
		if got, ok := Open([]byte(wrong)); ok || len(got) != 0 {
			t.Errorf("Open(%q) = %v, %v, want nothing and false", wrong, got, ok)
		}
	}
	if got, ok := Open(nil); ok || len(got) != 0 {
		t.Errorf("Open(nil) = %v, %v, want nothing and false", got, ok)
	}
}

func TestOpenLooksAtEachByteOfTheSum(t *testing.T) {
	s := Seal([]byte("suture"))
	for i := len(s) - 4; i < len(s); i++ {
		for d := 1; d < 256; d++ {
			wrong := bytes.Clone(s)
			wrong[i] ^= byte(d)
			if got, ok := Open(wrong); ok || len(got) != 0 {
				t.Fatalf("Open(%v) = %v, %v, want nothing and false", wrong, got, ok)
			}
		}
	}
}

// R3: arguments stay as they are, and answers share nothing with them.

func TestSealLeavesItsArgumentAlone(t *testing.T) {
	whole := []byte("suture....")
	b := whole[:6]
	s := Seal(b)
	if string(whole) != "suture...." {
		t.Errorf("Seal wrote behind its argument: %q", whole)
	}
	s[0] = 'x'
	if string(b) != "suture" {
		t.Errorf("the answer of Seal shares memory with its argument: %q", b)
	}
	b[1] = 'y'
	if s[1] != 'u' {
		t.Errorf("the argument of Seal shares memory with its answer: %q", s)
	}
}

func TestOpenLeavesItsArgumentAlone(t *testing.T) {
	s := Seal([]byte("suture"))
	kept := bytes.Clone(s)
	b, ok := Open(s)
	if !ok {
		t.Fatal("Open refuses what Seal made")
	}
	b[0] = 'x'
	b = append(b, "more"...)
	if !bytes.Equal(s, kept) {
		t.Errorf("the answer of Open (%q) shares memory with its argument: %q", b, s)
	}
}

func TestSumLeavesItsArgumentAlone(t *testing.T) {
	b := []byte("suture")
	first := Sum(b)
	if second := Sum(b); string(b) != "suture" || first != second {
		t.Errorf("Sum = %08x, then %08x, of %q", first, second, b)
	}
}

// P1.4

func TestMoreContinuesASum(t *testing.T) {
	for n := range 40 {
		b := made(n, 11)
		for cut := range n + 1 {
			if got, want := More(Sum(b[:cut]), b[cut:]), Sum(b); got != want {
				t.Fatalf("%d bytes, continued after %d: %08x, want %08x", n, cut, got, want)
			}
		}
	}
}

func TestMoreContinuesASumManyTimes(t *testing.T) {
	b := made(100, 12)
	sum := uint32(0)
	for i := range b {
		sum = More(sum, b[i:i+1])
		if want := Sum(b[:i+1]); sum != want {
			t.Fatalf("after %d single bytes: %08x, want %08x", i+1, sum, want)
		}
	}
}

func TestOpenUndoesSeal(t *testing.T) {
	for _, n := range []int{0, 1, 2, 3, 4, 5, 7, 8, 63, 64, 4096, 1 << 16} {
		b := made(n, 5)
		got, ok := Open(Seal(b))
		if !ok || !bytes.Equal(got, b) {
			t.Errorf("Open(Seal(%d bytes)) = %d bytes, %v", n, len(got), ok)
		}
		twice, ok := Open(Seal(Seal(b)))
		if !ok || !bytes.Equal(twice, Seal(b)) {
			t.Errorf("Open(Seal(Seal(%d bytes))) = %d bytes, %v", n, len(twice), ok)
		}
	}
}

// patterns are bits to be inverted, within 32: all short ones, and long ones
// whose first and last bit are 32 apart.
func patterns() []uint32 {
	var l []uint32
	for p := uint32(1); p < 1<<9; p++ {
		l = append(l, p, p<<23|1, p<<23)
	}
	l = append(l, 0xffffffff, 0xedb88320, 0xdb710641, 0x04c11db7, 0x80000001, 0xaaaaaaaa, 0x55555555)
	x := uint32(1)
	for range 500 {
		x = x*1664525 + 1013904223
		l = append(l, x|0x80000001, x|1)
	}
	return l
}

func TestOpenSeesBitsTurnedWithin32(t *testing.T) {
	ps := patterns()
	for _, n := range []int{0, 1, 2, 4, 9, 20} {
		s := Seal(made(n, 9))
		bits := 8 * len(s)
		for at := range bits {
			for _, p := range ps {
				wrong := bytes.Clone(s)
				for i := range 32 {
					if p>>i&1 == 1 && at+i < bits {
						invert(wrong, at+i)
					}
				}
				if bytes.Equal(wrong, s) { // all of the pattern lies behind the end
					continue
				}
				if got, ok := Open(wrong); ok || len(got) != 0 {
					t.Fatalf("Open takes %v, made of %v by %08x at bit %d", wrong, s, p, at)
				}
			}
		}
	}
}

// TestOpenSeesLessThan33Only shows why the promise names 32: the pattern one
// bit longer that is the checksum's own polynomial is not seen.
func TestOpenSeesLessThan33Only(t *testing.T) {
	s := Seal(made(9, 9))
	wrong := bytes.Clone(s)
	invert(wrong, 3)
	for i := range 32 {
		if uint32(0xedb88320)>>i&1 == 1 {
			invert(wrong, 4+i)
		}
	}
	if _, ok := Open(wrong); !ok {
		t.Error("a turned polynomial is seen: the checksum is another one")
	}
}

// P1: no argument makes a call panic, and what Open takes is what Seal made.

func FuzzOpen(f *testing.F) {
	for _, s := range []string{"", "abc", "\x00\x00\x00\x00", "123456789\x26\x39\xf4\xcb"} {
		f.Add([]byte(s), uint32(len(s)))
	}
	f.Fuzz(func(t *testing.T, b []byte, sum uint32) {
		if got, want := More(sum, b), slowMore(sum, b); got != want {
			t.Errorf("More(%08x, %v) = %08x, want %08x", sum, b, got, want)
		}
		x, ok := Open(b)
		if ok != bytes.Equal(Seal(x), b) {
			t.Errorf("Open(%v) = %v, %v, but Seal of it is %v", b, x, ok, Seal(x))
		}
		if !ok && len(x) != 0 {
			t.Errorf("Open(%v) = %v beside false", b, x)
		}
		if y, is := Open(Seal(b)); !is || !bytes.Equal(y, b) {
			t.Errorf("Open(Seal(%v)) = %v, %v", b, y, is)
		}
	})
}
