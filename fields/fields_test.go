package fields

import (
	"bytes"
	"slices"
	"testing"

	"suture/api"
)

const most = 1<<56 - 1 // the greatest number that has an encoding

// join is byte strings one behind the other.
func join(parts ...[]byte) []byte { return slices.Concat(parts...) }

// made answers n bytes that look unordered and are the same at each run.
func made(n int) []byte {
	b := make([]byte, n)
	x := uint32(n) + 1
	for i := range b {
		x = x*1664525 + 1013904223
		b[i] = byte(x >> 24)
	}
	return b
}

// repeated is n times the same number.
func repeated(n, count int) []int { return slices.Repeat([]int{n}, count) }

func same(f, g api.Fields) bool { return slices.Equal(f.N, g.N) && bytes.Equal(f.Data, g.Data) }

func empty(f api.Fields) bool { return len(f.N) == 0 && len(f.Data) == 0 }

// examples are fields with their encodings, written out by hand.
var examples = []struct {
	name   string
	fields api.Fields
	packed []byte
}{
	{"nothing", api.Fields{}, []byte{0, 0, 0}},
	{"300", api.Fields{N: []int{300}}, []byte{1, 2, 1, 44, 0, 0}},
	{"0", api.Fields{N: []int{0}}, []byte{1, 0, 0, 0}},
	{"1", api.Fields{N: []int{1}}, []byte{1, 1, 1, 0, 0}},
	{"255", api.Fields{N: []int{255}}, []byte{1, 1, 255, 0, 0}},
	{"256", api.Fields{N: []int{256}}, []byte{1, 2, 1, 0, 0, 0}},
	{"a number with zeros inside", api.Fields{N: []int{0x10000}}, []byte{1, 3, 1, 0, 0, 0, 0}},
	{"the greatest", api.Fields{N: []int{most}}, []byte{1, 7, 255, 255, 255, 255, 255, 255, 255, 0, 0}},
	{"the least of seven bytes", api.Fields{N: []int{1 << 48}}, []byte{1, 7, 1, 0, 0, 0, 0, 0, 0, 0, 0}},
	{"all bytes of a number differ", api.Fields{N: []int{0x01020304050607}}, []byte{1, 7, 1, 2, 3, 4, 5, 6, 7, 0, 0}},
	{"three numbers", api.Fields{N: []int{0, 300, 7}}, []byte{3, 0, 2, 1, 44, 1, 7, 0, 0}},
	{"bytes", api.Fields{Data: []byte("ab")}, []byte{0, 0, 2, 'a', 'b'}},
	{"a zero byte", api.Fields{Data: []byte{0}}, []byte{0, 0, 1, 0}},
	{"numbers and bytes", api.Fields{N: []int{2, 1}, Data: []byte{9, 0, 9}}, []byte{2, 1, 2, 1, 1, 0, 3, 9, 0, 9}},
	{"255 numbers", api.Fields{N: make([]int, 255)}, join([]byte{255}, make([]byte, 255), []byte{0, 0})},
	{"255 bytes", api.Fields{Data: made(255)}, join([]byte{0, 0, 255}, made(255))},
	{"256 bytes", api.Fields{Data: made(256)}, join([]byte{0, 1, 0}, made(256))},
	{"4096 bytes", api.Fields{Data: made(4096)}, join([]byte{0, 16, 0}, made(4096))},
	{"4096 bytes behind 255 numbers", api.Fields{N: repeated(5, 255), Data: made(4096)},
		join([]byte{255}, bytes.Repeat([]byte{1, 5}, 255), []byte{16, 0}, made(4096))},
}

// P2.1

func TestSizeAtItsEdges(t *testing.T) {
	for size := 1; size <= 7; size++ {
		least := 1 << (8 * (size - 1))
		greatest := 1<<(8*size) - 1
		for _, n := range []int{least, least + 1, greatest - 1, greatest, least | 0x5a&greatest} {
			if got := Size(n); got != size {
				t.Errorf("Size(%d) = %d, want %d", n, got, size)
			}
		}
	}
	if got := Size(0); got != 0 {
		t.Errorf("Size(0) = %d, want 0", got)
	}
	if got := Size(most); got != 7 {
		t.Errorf("Size(2^56 - 1) = %d, want 7", got)
	}
}

func TestSizeOfNumbersWithoutEncoding(t *testing.T) {
	for _, n := range []int{-1, -2, -255, -256, -most, -most - 1, -1 << 62, -1 << 63, most + 1, most + 2, 1 << 57, 1 << 62, 1<<63 - 1} {
		if got := Size(n); got != -1 {
			t.Errorf("Size(%d) = %d, want -1", n, got)
		}
	}
}

func TestSizeIsTheFewestBytesThatHoldTheNumber(t *testing.T) {
	for n := range 70000 {
		want := 0
		for m := n; m > 0; m /= 256 {
			want++
		}
		if got := Size(n); got != want {
			t.Fatalf("Size(%d) = %d, want %d", n, got, want)
		}
	}
}

// P2.2

func TestPackOfKnownFields(t *testing.T) {
	for _, c := range examples {
		if got, err := Pack(c.fields); err != api.OK || !bytes.Equal(got, c.packed) {
			t.Errorf("%s: Pack = %v, %d, want %v", c.name, got, err, c.packed)
		}
	}
	if got, err := Pack(api.Fields{N: []int{}, Data: []byte{}}); err != api.OK || !bytes.Equal(got, []byte{0, 0, 0}) {
		t.Errorf("Pack of lists without elements = %v, %d", got, err)
	}
}

func TestPackRefuses(t *testing.T) {
	for _, c := range []struct {
		name   string
		fields api.Fields
		want   api.Errno
	}{
		{"256 numbers", api.Fields{N: make([]int, 256)}, api.ErrFull},
		{"257 numbers", api.Fields{N: make([]int, 257)}, api.ErrFull},
		{"512 numbers", api.Fields{N: make([]int, 512)}, api.ErrFull},
		{"4097 bytes", api.Fields{Data: make([]byte, 4097)}, api.ErrFull},
		{"65536 bytes", api.Fields{Data: make([]byte, 65536)}, api.ErrFull},
		{"both too long", api.Fields{N: make([]int, 256), Data: make([]byte, 4097)}, api.ErrFull},
		{"-1", api.Fields{N: []int{-1}}, api.ErrArg},
		{"the least int", api.Fields{N: []int{-1 << 63}}, api.ErrArg},
		{"2^56", api.Fields{N: []int{most + 1}}, api.ErrArg},
		{"the greatest int", api.Fields{N: []int{1<<63 - 1}}, api.ErrArg},
		{"the last one is wrong", api.Fields{N: []int{1, 2, -3}}, api.ErrArg},
		{"the one in the middle is wrong", api.Fields{N: []int{1, 1 << 56, 3}}, api.ErrArg},
		{"the last of 255 is wrong", api.Fields{N: append(make([]int, 254), -1)}, api.ErrArg},
		{"the last of 256 is wrong", api.Fields{N: append(make([]int, 255), -1)}, api.ErrFull},
		{"the first of 256 is wrong", api.Fields{N: append([]int{-1}, make([]int, 255)...)}, api.ErrFull},
		{"a wrong number and 4097 bytes", api.Fields{N: []int{-1}, Data: make([]byte, 4097)}, api.ErrFull},
		{"a wrong number and 4096 bytes", api.Fields{N: []int{-1}, Data: make([]byte, 4096)}, api.ErrArg},
		{"255 wrong numbers", api.Fields{N: repeated(-1, 255)}, api.ErrArg},
	} {
		if got, err := Pack(c.fields); err != c.want || got != nil {
			t.Errorf("%s: Pack = %v, %d, want nothing, %d", c.name, got, err, c.want)
		}
	}
}

// P2.3

func TestCutOfKnownBytes(t *testing.T) {
	for _, c := range examples {
		f, n, err := Cut(c.packed)
		if err != api.OK || n != len(c.packed) || !same(f, c.fields) {
			t.Errorf("%s: Cut = %v, %d, %d", c.name, f, n, err)
		}
		if f, err := Unpack(c.packed); err != api.OK || !same(f, c.fields) {
			t.Errorf("%s: Unpack = %v, %d", c.name, f, err)
		}
	}
}

func TestCutLeavesWhatFollows(t *testing.T) {
	for _, c := range examples {
		for _, tail := range [][]byte{{0}, {1}, {255}, []byte("tail"), c.packed, made(5000)} {
			f, n, err := Cut(join(c.packed, tail))
			if err != api.OK || n != len(c.packed) || !same(f, c.fields) {
				t.Errorf("%s, %d bytes behind: Cut = %v, %d, %d", c.name, len(tail), f, n, err)
			}
		}
	}
}

func TestCutOneAfterAnother(t *testing.T) {
	var all []byte
	for _, c := range examples {
		all = append(all, c.packed...)
	}
	for _, c := range examples {
		f, n, err := Cut(all)
		if err != api.OK || !same(f, c.fields) {
			t.Fatalf("%s: Cut = %v, %d, %d", c.name, f, n, err)
		}
		all = all[n:]
	}
	if len(all) != 0 {
		t.Errorf("%d bytes are left", len(all))
	}
}

// wrong are bytes that are no encoding, nor begin with one.
var wrong = []struct {
	name  string
	bytes []byte
	want  api.Errno
}{
	{"no bytes", nil, api.ErrMore},
	{"a list of no bytes", []byte{}, api.ErrMore},
	{"a count alone", []byte{0}, api.ErrMore},
	{"a count of one alone", []byte{1}, api.ErrMore},
	{"half of Data's length", []byte{0, 0}, api.ErrMore},
	{"half of Data's length, which is too much already", []byte{0, 17}, api.ErrMore},
	{"half of Data's length, the greatest", []byte{0, 255}, api.ErrMore},
	{"Data of one byte is missing", []byte{0, 0, 1}, api.ErrMore},
	{"Data's second byte is missing", []byte{0, 0, 2, 7}, api.ErrMore},
	{"Data's last byte of 4096 is missing", join([]byte{0, 16, 0}, made(4095)), api.ErrMore},
	{"all of 4096 bytes are missing", []byte{0, 16, 0}, api.ErrMore},
	{"Data of 4097 bytes", join([]byte{0, 16, 1}, made(4097)), api.ErrFull},
	{"Data of 4097 bytes, which are missing", []byte{0, 16, 1}, api.ErrFull},
	{"Data of 4097 bytes, the last one missing", join([]byte{0, 16, 1}, made(4096)), api.ErrFull},
	{"Data of 65535 bytes", []byte{0, 255, 255}, api.ErrFull},
	{"Data of 65535 bytes, all there", join([]byte{0, 255, 255}, made(65535)), api.ErrFull},
	{"the size of a number is missing", []byte{2, 0}, api.ErrMore},
	{"a number of no bytes, and nothing else", []byte{1, 0}, api.ErrMore},
	{"a number's only byte is missing", []byte{1, 1}, api.ErrMore},
	{"a number's second byte is missing", []byte{1, 2, 1}, api.ErrMore},
	{"a number's seventh byte is missing", []byte{1, 7, 1, 2, 3, 4, 5, 6}, api.ErrMore},
	{"all seven are missing", []byte{1, 7}, api.ErrMore},
	{"Data's length is missing behind a number", []byte{1, 2, 1, 44}, api.ErrMore},
	{"a number of 8 bytes", []byte{1, 8, 1, 2, 3, 4, 5, 6, 7, 8, 0, 0}, api.ErrForm},
	{"a number of 8 bytes, which are missing", []byte{1, 8}, api.ErrForm},
	{"a number of 255 bytes", []byte{1, 255}, api.ErrForm},
	{"a number of 8 bytes, the first one 0", []byte{1, 8, 0, 1, 1, 1, 1, 1, 1, 1, 0, 0}, api.ErrForm},
	{"0 in one byte", []byte{1, 1, 0, 0, 0}, api.ErrForm},
	{"1 in two bytes", []byte{1, 2, 0, 1, 0, 0}, api.ErrForm},
	{"seven bytes from 0 on", []byte{1, 7, 0, 255, 255, 255, 255, 255, 255, 0, 0}, api.ErrForm},
	{"0 in one byte, and nothing else", []byte{1, 1, 0}, api.ErrForm},
	{"two bytes from 0 on, the second one missing", []byte{1, 2, 0}, api.ErrForm},
	{"the second number is wrong", []byte{2, 1, 5, 9, 0, 0}, api.ErrForm},
	{"the second number begins with 0", []byte{2, 1, 5, 1, 0, 0, 0}, api.ErrForm},
	{"the first number is cut, the second one can't be", []byte{2, 7, 8, 8, 8}, api.ErrMore},
	{"the first is wrong ahead of the end", []byte{255, 8}, api.ErrForm},
	{"a wrong number ahead of too much Data", []byte{1, 9, 255, 255}, api.ErrForm},
	{"a first byte 0 ahead of too much Data", []byte{1, 1, 0, 255, 255}, api.ErrForm},
	{"too much Data behind a good number", []byte{1, 1, 3, 255, 255}, api.ErrFull},
	{"the last of 255 numbers is missing", join([]byte{255}, make([]byte, 254)), api.ErrMore},
	{"255 numbers and no Data", join([]byte{255}, make([]byte, 255)), api.ErrMore},
	{"255 numbers and half of Data's length", join([]byte{255}, make([]byte, 256)), api.ErrMore},
}

func TestCutRefuses(t *testing.T) {
	for _, c := range wrong {
		f, n, err := Cut(c.bytes)
		if err != c.want || n != 0 || f.N != nil || f.Data != nil {
			t.Errorf("%s: Cut = %v, %d, %d, want nothing, 0, %d", c.name, f, n, err, c.want)
		}
		g, err := Unpack(c.bytes)
		if err != c.want || g.N != nil || g.Data != nil {
			t.Errorf("%s: Unpack = %v, %d, want nothing, %d", c.name, g, err, c.want)
		}
	}
}

func TestCutMissesEachByte(t *testing.T) {
	for _, c := range examples {
		for n := range c.packed {
			// The room behind holds the bytes that are missing.
			if f, used, err := Cut(c.packed[:n]); err != api.ErrMore || used != 0 || !empty(f) {
				t.Fatalf("%s, %d bytes of it: Cut = %v, %d, %d, want ErrMore", c.name, n, f, used, err)
			}
			if f, err := Unpack(c.packed[:n]); err != api.ErrMore || !empty(f) {
				t.Fatalf("%s, %d bytes of it: Unpack = %v, %d, want ErrMore", c.name, n, f, err)
			}
		}
	}
}

func TestUnpackRefusesWhatFollows(t *testing.T) {
	for _, c := range examples {
		for _, tail := range [][]byte{{0}, {1}, {255}, []byte("tail"), c.packed, made(5000)} {
			if f, err := Unpack(join(c.packed, tail)); err != api.ErrForm || f.N != nil || f.Data != nil {
				t.Errorf("%s, %d bytes behind: Unpack = %v, %d, want nothing, ErrForm", c.name, len(tail), f, err)
			}
		}
	}
}

// R3: arguments stay as they are, and answers share nothing with them.

func TestPackLeavesItsArgumentAlone(t *testing.T) {
	numbers := []int{1, 300, 9, 9}
	data := []byte("ab..")
	f := api.Fields{N: numbers[:2], Data: data[:2]}
	b, _ := Pack(f)
	want := []byte{2, 1, 1, 2, 1, 44, 0, 2, 'a', 'b'}
	if !slices.Equal(numbers, []int{1, 300, 9, 9}) || string(data) != "ab.." {
		t.Errorf("Pack changed its argument: %v, %q", numbers, data)
	}
	data[0] = 'x'
	numbers[0] = 2
	if !bytes.Equal(b, want) {
		t.Errorf("the argument of Pack shares memory with its answer: %v", b)
	}
	b[8] = 'y'
	if f.Data[0] != 'x' {
		t.Errorf("the answer of Pack shares memory with its argument: %q", f.Data)
	}
}

func TestCutLeavesItsArgumentAlone(t *testing.T) {
	b := []byte{2, 1, 1, 2, 1, 44, 0, 2, 'a', 'b', 'c', 'd'}
	kept := bytes.Clone(b)
	f, n, err := Cut(b)
	if err != api.OK || n != 10 {
		t.Fatalf("Cut = %v, %d, %d", f, n, err)
	}
	f.Data[0] = 'x'
	f.Data = append(f.Data, "more"...)
	f.N[0] = 77
	if !bytes.Equal(b, kept) {
		t.Errorf("the answer of Cut shares memory with its argument: %v", b)
	}
	g, _, _ := Cut(b)
	b[8], b[2] = 'y', 9
	if string(g.Data) != "ab" || g.N[0] != 1 {
		t.Errorf("the argument of Cut shares memory with its answer: %v", g)
	}
}

func TestUnpackLeavesItsArgumentAlone(t *testing.T) {
	whole := []byte{1, 1, 5, 0, 2, 'a', 'b', 'c', 'd'}
	kept := bytes.Clone(whole)
	f, err := Unpack(whole[:7])
	if err != api.OK {
		t.Fatalf("Unpack = %v, %d", f, err)
	}
	f.Data[1] = 'x'
	f.Data = append(f.Data, "more"...)
	if !bytes.Equal(whole, kept) {
		t.Errorf("the answer of Unpack shares memory with its argument: %v", whole)
	}
}

func TestNoBytesAreNotKept(t *testing.T) {
	b := []byte{0, 0, 0, 'a', 'b'}
	f, _, _ := Cut(b)
	f.Data = append(f.Data, "xy"...)
	f.N = append(f.N, 1)
	if !bytes.Equal(b, []byte{0, 0, 0, 'a', 'b'}) {
		t.Errorf("what is put behind the answer of Cut lands in its argument: %v", b)
	}
}

// P2.4

func TestUnpackUndoesPack(t *testing.T) {
	for count := range 256 {
		var f api.Fields
		for i := range count {
			f.N = append(f.N, i*i*i*i*i*i*12345&most>>(i%56))
		}
		f.Data = made(count * 16)
		b, err := Pack(f)
		if err != api.OK {
			t.Fatalf("%d numbers: Pack = %d", count, err)
		}
		if g, err := Unpack(b); err != api.OK || !same(f, g) {
			t.Fatalf("%d numbers: Unpack = %v, %d, want %v", count, g, err, f)
		}
		if g, n, err := Cut(join(b, made(count))); err != api.OK || n != len(b) || !same(f, g) {
			t.Fatalf("%d numbers: Cut = %v, %d, %d, want %v, %d", count, g, n, err, f, len(b))
		}
	}
}

func TestEachNumberComesBack(t *testing.T) {
	for shift := range 56 {
		for _, n := range []int{1 << shift, 1<<shift - 1, 1<<shift + 1, most >> shift, most - 1<<shift} {
			b, err := Pack(api.Fields{N: []int{n, n}})
			if want := 1 + 2*(1+Size(n)) + 2; err != api.OK || len(b) != want {
				t.Fatalf("Pack of %d = %v, %d, want %d bytes", n, b, err, want)
			}
			if f, err := Unpack(b); err != api.OK || !slices.Equal(f.N, []int{n, n}) {
				t.Fatalf("Unpack(%v) = %v, %d, want %d twice", b, f, err, n)
			}
		}
	}
}

// slowCut reads byte by byte, by position, as the chapter tells it.
func slowCut(b []byte) (f api.Fields, at int, err api.Errno) {
	missing := false
	read := func() int {
		if at >= len(b) {
			missing = true
			return 0
		}
		at++
		return int(b[at-1])
	}
	count := read()
	for i := 0; i < count && !missing; i++ {
		size, n := read(), 0
		if !missing && size > 7 {
			return api.Fields{}, 0, api.ErrForm
		}
		for j := 0; j < size && !missing; j++ {
			c := read()
			if !missing && j == 0 && c == 0 {
				return api.Fields{}, 0, api.ErrForm
			}
			n = n*256 + c
		}
		f.N = append(f.N, n)
	}
	length := 256 * read()
	length += read()
	if missing {
		return api.Fields{}, 0, api.ErrMore
	}
	if length > 4096 {
		return api.Fields{}, 0, api.ErrFull
	}
	for range length {
		f.Data = append(f.Data, byte(read()))
	}
	if missing {
		return api.Fields{}, 0, api.ErrMore
	}
	return f, at, api.OK
}

func checkCut(t *testing.T, b []byte) {
	kept := bytes.Clone(b)
	f, n, err := Cut(b)
	g, m, want := slowCut(b)
	if err != want || n != m || !same(f, g) {
		t.Fatalf("Cut(%v) = %v, %d, %d, want %v, %d, %d", b, f, n, err, g, m, want)
	}
	if err == api.OK {
		if p, err := Pack(f); err != api.OK || !bytes.Equal(p, b[:n]) {
			t.Fatalf("Pack of Cut(%v) = %v, %d", b, p, err)
		}
	}
	h, err := Unpack(b)
	if want == api.OK && m < len(b) {
		g, want = api.Fields{}, api.ErrForm
	}
	if err != want || !same(h, g) {
		t.Fatalf("Unpack(%v) = %v, %d, want %v, %d", b, h, err, g, want)
	}
	if !bytes.Equal(b, kept) {
		t.Fatalf("%v was changed to %v", kept, b)
	}
}

// TestCutOfAllShortBytes goes through all byte strings of up to six bytes of
// those values at which something turns.
func TestCutOfAllShortBytes(t *testing.T) {
	values := []byte{0, 1, 2, 7, 8, 16, 17, 255}
	var all func(b []byte, left int)
	all = func(b []byte, left int) {
		checkCut(t, b)
		if left > 0 {
			for _, c := range values {
				all(append(bytes.Clone(b), c), left-1)
			}
		}
	}
	all(nil, 6)
}

// P1: no bytes and no fields make a call panic.

func FuzzCut(f *testing.F) {
	for _, c := range examples {
		f.Add(c.packed)
	}
	for _, c := range wrong {
		f.Add(c.bytes)
	}
	f.Fuzz(checkCut)
}

func FuzzPack(f *testing.F) {
	f.Add(0, most, 3, []byte("ab"))
	f.Add(-1, most+1, 255, []byte{})
	f.Add(1, 2, 300, make([]byte, 4097))
	f.Fuzz(func(t *testing.T, n, m, count int, data []byte) {
		in := api.Fields{N: append(repeated(n, count&511), m), Data: data}
		b, err := Pack(in)
		want := api.OK
		if len(in.N) > 255 || len(data) > 4096 {
			want = api.ErrFull
		} else if m < 0 || m > most || len(in.N) > 1 && (n < 0 || n > most) {
			want = api.ErrArg
		}
		if err != want || (err != api.OK) != (b == nil) {
			t.Fatalf("Pack(%v) = %v, %d, want %d", in, b, err, want)
		}
		if err == api.OK {
			if out, err := Unpack(b); err != api.OK || !same(in, out) {
				t.Fatalf("Unpack(%v) = %v, %d, want %v", b, out, err, in)
			}
		}
	})
}
