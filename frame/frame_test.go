package frame

import (
	"bytes"
	"hash/crc32"
	"slices"
	"testing"

	"suture/api"
)

// join is byte strings one behind the other.
func join(parts ...[]byte) []byte { return slices.Concat(parts...) }

// made answers n bytes that look unordered and are the same at each run.
func made(n int) []byte {
	b := make([]byte, n)
	x := uint32(n) + 1
	for i := range b {
		x = x*1664525 + 1013904223
		b[i] = byte(x >> 24)
	}
	return b
}

// summed is b with the library's checksum behind it, so that the project's
// own is not held against itself.
func summed(b ...byte) []byte {
	sum := crc32.ChecksumIEEE(b)
	return join(b, []byte{byte(sum), byte(sum >> 8), byte(sum >> 16), byte(sum >> 24)})
}

// encoded is an encoding made by hand, of which each byte may be a wrong one.
func encoded(mark, kind byte, size int, body []byte) []byte {
	return summed(join([]byte{mark, kind, byte(size / 256), byte(size % 256)}, body)...)
}

func good(kind byte, body []byte) []byte { return encoded(83, kind, len(body), body) }

func same(f, g api.Frame) bool { return f.Kind == g.Kind && bytes.Equal(f.Body, g.Body) }

func sameFrames(f, g []api.Frame) bool { return slices.EqualFunc(f, g, same) }

func nothing(f api.Frame) bool { return f.Kind == 0 && f.Body == nil }

func invert(b []byte, bit int) { b[bit/8] ^= 1 << (bit % 8) }

// examples are frames with their encodings.
var examples = []struct {
	name  string
	frame api.Frame
	bytes []byte
}{
	{"the kind 5 without a Body", api.Frame{Kind: 5}, []byte{83, 5, 0, 0, 187, 189, 55, 254}},
	{"the kind 0 without a Body", api.Frame{}, []byte{83, 0, 0, 0, 80, 127, 252, 248}},
	{"the kind 255 without a Body", api.Frame{Kind: 255}, []byte{83, 255, 0, 0, 189, 75, 100, 70}},
	{"two bytes", api.Frame{Kind: 5, Body: []byte("ab")}, []byte{83, 5, 0, 2, 97, 98, 118, 218, 230, 47}},
	{"a zero byte", api.Frame{Body: []byte{0}}, []byte{83, 0, 0, 1, 0, 71, 115, 138, 160}},
	{"marks inside", api.Frame{Kind: 83, Body: []byte{83, 83, 0, 0}}, []byte{83, 83, 0, 4, 83, 83, 0, 0, 3, 78, 116, 238}},
	{"nine bytes", api.Frame{Kind: 1, Body: []byte("123456789")},
		[]byte{83, 1, 0, 9, 49, 50, 51, 52, 53, 54, 55, 56, 57, 16, 87, 121, 241}},
	{"a frame in a frame", api.Frame{Kind: 2, Body: good(3, []byte("in"))}, good(2, good(3, []byte("in")))},
	{"255 bytes", api.Frame{Kind: 127, Body: made(255)}, summed(join([]byte{83, 127, 0, 255}, made(255))...)},
	{"256 bytes", api.Frame{Kind: 128, Body: made(256)}, summed(join([]byte{83, 128, 1, 0}, made(256))...)},
	{"258 bytes", api.Frame{Kind: 129, Body: made(258)}, summed(join([]byte{83, 129, 1, 2}, made(258))...)},
	{"4095 bytes", api.Frame{Kind: 254, Body: made(4095)}, summed(join([]byte{83, 254, 15, 255}, made(4095))...)},
	{"4096 bytes", api.Frame{Kind: 255, Body: made(4096)}, summed(join([]byte{83, 255, 16, 0}, made(4096))...)},
}

// exampleFrames is all of the examples, and their encodings one behind the
// other.
func exampleFrames() ([]api.Frame, []byte) {
	var l []api.Frame
	var b []byte
	for _, c := range examples {
		l = append(l, c.frame)
		b = append(b, c.bytes...)
	}
	return l, b
}

// P3.1

func TestPutOfKnownFrames(t *testing.T) {
	for _, c := range examples {
		if got, err := Put(c.frame); err != api.OK || !bytes.Equal(got, c.bytes) {
			t.Errorf("%s: Put = %v, %d, want %v", c.name, got, err, c.bytes)
		}
	}
	if got, err := Put(api.Frame{Kind: 5, Body: []byte{}}); err != api.OK || !bytes.Equal(got, good(5, nil)) {
		t.Errorf("Put of a Body of no bytes = %v, %d", got, err)
	}
}

func TestPutOfEachKind(t *testing.T) {
	for kind := range 256 {
		got, err := Put(api.Frame{Kind: kind, Body: []byte("body")})
		if want := good(byte(kind), []byte("body")); err != api.OK || !bytes.Equal(got, want) {
			t.Errorf("Put of the kind %d = %v, %d, want %v", kind, got, err, want)
		}
	}
}

func TestPutRefuses(t *testing.T) {
	for _, c := range []struct {
		name string
		kind int
		size int
		want api.Errno
	}{
		{"kind -1", -1, 0, api.ErrArg},
		{"kind 256", 256, 0, api.ErrArg},
		{"kind -255", -255, 1, api.ErrArg},
		{"kind -256", -256, 1, api.ErrArg},
		{"kind 256 + 83", 256 + 83, 1, api.ErrArg},
		{"kind 2^32", 1 << 32, 1, api.ErrArg},
		{"the least kind", -1 << 63, 1, api.ErrArg},
		{"the greatest kind", 1<<63 - 1, 1, api.ErrArg},
		{"kind -1 and 4096 bytes", -1, 4096, api.ErrArg},
		{"kind -1 and 4097 bytes", -1, 4097, api.ErrArg},
		{"kind 256 and 4097 bytes", 256, 4097, api.ErrArg},
		{"kind 256 and 65536 bytes", 256, 65536, api.ErrArg},
		{"kind 0 and 4097 bytes", 0, 4097, api.ErrFull},
		{"kind 5 and 4097 bytes", 5, 4097, api.ErrFull},
		{"kind 255 and 4097 bytes", 255, 4097, api.ErrFull},
		{"4098 bytes", 5, 4098, api.ErrFull},
		{"8192 bytes", 5, 8192, api.ErrFull},
		{"65535 bytes", 5, 65535, api.ErrFull},
		{"65536 bytes", 5, 65536, api.ErrFull},
		{"65537 bytes", 5, 65537, api.ErrFull},
	} {
		if got, err := Put(api.Frame{Kind: c.kind, Body: make([]byte, c.size)}); err != c.want || got != nil {
			t.Errorf("%s: Put = %v, %d, want nothing, %d", c.name, got, err, c.want)
		}
	}
}

// P3.2

// tails are bytes that may stand behind frames.
func tails() [][]byte {
	return [][]byte{nil, {}, {0}, {83}, {255}, {83, 5, 0}, []byte("tail"), good(9, []byte("next")), made(5000)}
}

func TestGetOfKnownBytes(t *testing.T) {
	for _, c := range examples {
		for _, tail := range tails() {
			f, n, err := Get(join(c.bytes, tail))
			if err != api.OK || n != len(c.bytes) || !same(f, c.frame) {
				t.Errorf("%s, %d bytes behind: Get = %v, %d, %d", c.name, len(tail), f, n, err)
			}
		}
	}
}

// wrong are bytes that no frame's encoding is a prefix of.
var wrong = []struct {
	name  string
	bytes []byte
	want  api.Errno
}{
	{"no bytes", nil, api.ErrMore},
	{"a list of no bytes", []byte{}, api.ErrMore},
	{"the mark alone", []byte{83}, api.ErrMore},
	{"mark and kind", []byte{83, 5}, api.ErrMore},
	{"three bytes", []byte{83, 5, 0}, api.ErrMore},
	{"three bytes, the length too great already", []byte{83, 5, 17}, api.ErrMore},
	{"three bytes, the length's first one 255", []byte{83, 5, 255}, api.ErrMore},
	{"one byte that is not the mark", []byte{82}, api.ErrForm},
	{"one byte 0", []byte{0}, api.ErrForm},
	{"one byte 255", []byte{255}, api.ErrForm},
	{"the mark's bits in another order", []byte{0xca}, api.ErrForm},
	{"three bytes without the mark", []byte{0, 83, 83}, api.ErrForm},
	{"the mark comes second", []byte{5, 83, 0, 0}, api.ErrForm},
	{"another mark, its sum right", encoded(84, 5, 0, nil), api.ErrForm},
	{"another mark and a length of 4097", encoded(0, 5, 4097, made(4097)), api.ErrForm},
	{"another mark, and a Body cut off", []byte{0, 5, 0, 9, 1}, api.ErrForm},
	{"another mark and another sum", []byte{0, 5, 0, 0, 1, 2, 3, 4}, api.ErrForm},
	{"a length of 4097, nothing behind", []byte{83, 5, 16, 1}, api.ErrFull},
	{"a length of 4097, all there", encoded(83, 5, 4097, made(4097)), api.ErrFull},
	{"a length of 4097, the Body cut off", encoded(83, 5, 4097, made(4097))[:4000], api.ErrFull},
	{"a length of 4097, another sum", join([]byte{83, 5, 16, 1}, made(4101)), api.ErrFull},
	{"a length of 4352", []byte{83, 5, 17, 0}, api.ErrFull},
	{"a length of 65535, nothing behind", []byte{83, 5, 255, 255}, api.ErrFull},
	{"a length of 65535, all there", encoded(83, 5, 65535, made(65535)), api.ErrFull},
	{"the Body is missing", []byte{83, 5, 0, 1}, api.ErrMore},
	{"a Body of 4096 bytes is missing", []byte{83, 5, 16, 0}, api.ErrMore},
	{"the Body is cut off", []byte{83, 5, 0, 3, 1, 2}, api.ErrMore},
	{"the checksum is missing", []byte{83, 5, 0, 0}, api.ErrMore},
	{"the checksum is missing behind a Body", []byte{83, 5, 0, 3, 1, 2, 3}, api.ErrMore},
	{"the checksum is cut off", []byte{83, 5, 0, 0, 187, 189, 55}, api.ErrMore},
	{"another checksum, cut off", []byte{83, 5, 0, 0, 0, 0, 0}, api.ErrMore},
	{"a whole frame of fewer bytes than it tells", encoded(83, 5, 9, made(8)), api.ErrMore},
	{"4096 bytes, the last one of the checksum missing", good(5, made(4096))[:4103], api.ErrMore},
	{"a checksum of zeros", []byte{83, 5, 0, 0, 0, 0, 0, 0}, api.ErrSum},
	{"the checksum's most significant byte first", []byte{83, 5, 0, 0, 254, 55, 189, 187}, api.ErrSum},
	{"the checksum of the Body alone", join([]byte{83, 5, 0, 2}, summed('a', 'b')), api.ErrSum},
	{"the checksum of another kind", join([]byte{83, 4, 0, 0}, good(5, nil)[4:]), api.ErrSum},
	{"the Body is another one", []byte{83, 5, 0, 2, 97, 99, 118, 218, 230, 47}, api.ErrSum},
	{"a frame of more bytes than it tells", encoded(83, 5, 2, made(3)), api.ErrSum},
	{"the length's least significant byte first", encoded(83, 5, 256, made(1)), api.ErrMore},
	{"another sum of 4096 bytes", join(good(5, made(4096))[:4104-1], []byte{good(5, made(4096))[4103] ^ 128}), api.ErrSum},
	{"another sum, a whole frame behind", join([]byte{83, 5, 0, 0, 1, 1, 1, 1}, good(5, nil)), api.ErrSum},
}

func TestGetRefuses(t *testing.T) {
	for _, c := range wrong {
		if f, n, err := Get(c.bytes); err != c.want || n != 0 || !nothing(f) {
			t.Errorf("%s: Get = %v, %d, %d, want nothing, 0, %d", c.name, f, n, err, c.want)
		}
	}
}

func TestGetAsksForTheMark(t *testing.T) {
	for mark := range 256 {
		want := api.ErrForm
		if mark == 83 {
			want = api.OK
		}
		if f, n, err := Get(encoded(byte(mark), 5, 2, []byte("ab"))); err != want {
			t.Errorf("the mark %d: Get = %v, %d, %d, want %d", mark, f, n, err, want)
		}
		if mark != 83 {
			if _, _, err := Get([]byte{byte(mark)}); err != api.ErrForm {
				t.Errorf("the byte %d alone: Get = %d, want ErrForm", mark, err)
			}
		}
	}
}

func TestGetMissesEachByte(t *testing.T) {
	for _, c := range examples {
		for n := range c.bytes {
			// The room behind holds the bytes that are missing.
			if f, used, err := Get(c.bytes[:n]); err != api.ErrMore || used != 0 || !nothing(f) {
				t.Fatalf("%s, %d bytes of it: Get = %v, %d, %d, want ErrMore", c.name, n, f, used, err)
			}
		}
	}
}

func TestGetLooksAtEachByteOfTheSum(t *testing.T) {
	for i := range 4 {
		for d := 1; d < 256; d++ {
			b := good(5, []byte("suture"))
			b[len(b)-4+i] ^= byte(d)
			if f, n, err := Get(b); err != api.ErrSum || n != 0 || !nothing(f) {
				t.Fatalf("Get(%v) = %v, %d, %d, want nothing, 0, ErrSum", b, f, n, err)
			}
		}
	}
}

// P3.3

func TestRunOfNoBytes(t *testing.T) {
	for _, b := range [][]byte{nil, {}, made(9)[:0]} {
		if l, n, err := Run(b); len(l) != 0 || n != 0 || err != api.OK {
			t.Errorf("Run of no bytes = %v, %d, %d, want nothing, 0, OK", l, n, err)
		}
	}
}

func TestRunOfOneFrame(t *testing.T) {
	for _, c := range examples {
		l, n, err := Run(c.bytes)
		if err != api.OK || n != len(c.bytes) || !sameFrames(l, []api.Frame{c.frame}) {
			t.Errorf("%s: Run = %v, %d, %d", c.name, l, n, err)
		}
	}
}

func TestRunOfSeveralFrames(t *testing.T) {
	l, b := exampleFrames()
	got, n, err := Run(b)
	if err != api.OK || n != len(b) || !sameFrames(got, l) {
		t.Errorf("Run = %d frames, %d, %d, want %d frames, %d, OK", len(got), n, err, len(l), len(b))
	}
	if got, n, err := Run(join(b, b, b)); err != api.OK || n != 3*len(b) || !sameFrames(got, slices.Repeat(l, 3)) {
		t.Errorf("Run of three times as much = %d frames, %d, %d", len(got), n, err)
	}
}

func TestRunOfManyFrames(t *testing.T) {
	count := 20000
	l, n, err := Run(bytes.Repeat(good(7, nil), count))
	if err != api.OK || n != 8*count || len(l) != count {
		t.Errorf("Run of %d frames = %d frames, %d, %d", count, len(l), n, err)
	}
}

func TestRunStopsAtWhatIsNoFrame(t *testing.T) {
	l, b := exampleFrames()
	for count := range 4 {
		frames, ahead := slices.Repeat(l, count), bytes.Repeat(b, count)
		for _, c := range wrong {
			if len(c.bytes) == 0 {
				continue
			}
			got, n, err := Run(join(ahead, c.bytes))
			if err != c.want || n != len(ahead) || !sameFrames(got, frames) {
				t.Errorf("%s behind %d frames: Run = %d frames, %d, %d, want %d, %d", c.name, len(frames), len(got), n, err, len(ahead), c.want)
			}
		}
	}
}

func TestRunTakesNothingBehindWhatIsNoFrame(t *testing.T) {
	first, last := good(1, []byte("first")), good(3, []byte("last"))
	for _, c := range []struct {
		name   string
		middle []byte
		want   api.Errno
	}{
		{"a byte that is not the mark", []byte{0}, api.ErrForm},
		{"another checksum", []byte{83, 2, 0, 0, 1, 1, 1, 1}, api.ErrSum},
		{"a length of 4097", []byte{83, 2, 16, 1}, api.ErrFull},
		{"a Body that is cut off", []byte{83, 2, 0, 200, 1, 2, 3}, api.ErrMore},
		{"a Body that is cut off, so that the next frame is a part of it", good(2, made(9))[:13], api.ErrSum},
	} {
		got, n, err := Run(join(first, c.middle, last))
		if err != c.want || n != len(first) || !sameFrames(got, []api.Frame{{Kind: 1, Body: []byte("first")}}) {
			t.Errorf("%s in the middle: Run = %v, %d, %d, want the first frame, %d, %d", c.name, got, n, err, len(first), c.want)
		}
	}
}

// R3: arguments stay as they are, and answers share nothing with them.

func TestPutLeavesItsArgumentAlone(t *testing.T) {
	whole := []byte("body....")
	f := api.Frame{Kind: 5, Body: whole[:4]}
	b, _ := Put(f)
	if string(whole) != "body...." {
		t.Errorf("Put changed its argument: %q", whole)
	}
	whole[0] = 'x'
	if !bytes.Equal(b, good(5, []byte("body"))) {
		t.Errorf("the argument of Put shares memory with its answer: %v", b)
	}
	b[5] = 'y'
	if string(f.Body) != "xody" {
		t.Errorf("the answer of Put shares memory with its argument: %q", f.Body)
	}
	if again, _ := Put(f); !bytes.Equal(again, good(5, []byte("xody"))) {
		t.Errorf("two answers of Put share memory: %v", again)
	}
}

func TestGetLeavesItsArgumentAlone(t *testing.T) {
	b := join(good(5, []byte("body")), []byte("behind"))
	kept := bytes.Clone(b)
	f, _, _ := Get(b)
	f.Body[0] = 'x'
	f.Body = append(f.Body, "more"...)
	if !bytes.Equal(b, kept) {
		t.Errorf("the answer of Get shares memory with its argument: %v", b)
	}
	g, _, _ := Get(b)
	b[4] = 'y'
	if string(g.Body) != "body" {
		t.Errorf("the argument of Get shares memory with its answer: %q", g.Body)
	}
}

func TestNoBytesAreNotKept(t *testing.T) {
	b := join(good(5, nil), []byte("behind"))
	for _, read := range []func(b []byte) api.Frame{
		func(b []byte) api.Frame { f, _, _ := Get(b); return f },
		func(b []byte) api.Frame { l, _, _ := Run(b); return l[0] },
	} {
		given := bytes.Clone(b)
		f := read(given)
		f.Body = append(f.Body, "xy"...)
		if !bytes.Equal(given, b) {
			t.Errorf("what is put behind %v lands in the argument: %v", f, given)
		}
	}
}

func TestRunLeavesItsArgumentAlone(t *testing.T) {
	b := join(good(1, []byte("one")), good(2, []byte("two")), good(3, nil), []byte("behind"))
	kept := bytes.Clone(b)
	l, _, err := Run(b)
	if len(l) != 3 || err != api.ErrForm {
		t.Fatalf("Run = %v, %d", l, err)
	}
	l[0].Body[0] = 'x'
	l[0].Body = append(l[0].Body, "much more than there is"...)
	if !bytes.Equal(b, kept) {
		t.Errorf("the answer of Run shares memory with its argument: %v", b)
	}
	if string(l[1].Body) != "two" {
		t.Errorf("two frames of Run share memory: %v", l)
	}
	b[4+11] = 'y'
	if string(l[1].Body) != "two" {
		t.Errorf("the argument of Run shares memory with its answer: %v", l)
	}
	copy(b, kept)
	if m, _, _ := Run(b); string(m[0].Body) != "one" || string(m[1].Body) != "two" {
		t.Errorf("two answers of Run share memory: %v", m)
	}
}

// P3.4

func TestGetUndoesPut(t *testing.T) {
	for size := range api.MaxBody + 1 {
		f := api.Frame{Kind: size * 7 & 255, Body: made(size)}
		b, err := Put(f)
		if err != api.OK || len(b) != size+8 {
			t.Fatalf("Put of %d bytes = %d bytes, %d", size, len(b), err)
		}
		g, n, err := Get(join(b, made(size%50)))
		if err != api.OK || n != len(b) || !same(f, g) {
			t.Fatalf("Get of Put of %d bytes = %v, %d, %d", size, g, n, err)
		}
	}
	for kind := range 256 {
		b, _ := Put(api.Frame{Kind: kind})
		if g, n, err := Get(b); err != api.OK || n != 8 || g.Kind != kind || len(g.Body) != 0 {
			t.Errorf("Get of Put of the kind %d = %v, %d, %d", kind, g, n, err)
		}
	}
}

// patterns are bits to be inverted, within 32: all short ones, and long ones
// whose first and last bit are 32 apart.
func patterns() []uint32 {
	var l []uint32
	for p := uint32(1); p < 1<<9; p++ {
		l = append(l, p, p<<23|1, p<<23)
	}
	l = append(l, 0xffffffff, 0xedb88320, 0xdb710641, 0x04c11db7, 0x80000001, 0xaaaaaaaa, 0x55555555)
	x := uint32(1)
	for range 500 {
		x = x*1664525 + 1013904223
		l = append(l, x|0x80000001, x|1)
	}
	return l
}

// inverted is b with the bits of p inverted, from the bit at on, but those of
// the length of Body.
func inverted(b []byte, at int, p uint32) []byte {
	other := bytes.Clone(b)
	for i := range 32 {
		if bit := at + i; p>>i&1 == 1 && bit < 8*len(b) && (bit < 16 || bit >= 32) {
			invert(other, bit)
		}
	}
	return other
}

func TestGetSeesInvertedBitsWithin32(t *testing.T) {
	ps := patterns()
	for _, size := range []int{0, 1, 2, 4, 9, 20} {
		b := good(5, made(size))
		for at := range 8 * len(b) {
			for _, p := range ps {
				other := inverted(b, at, p)
				if bytes.Equal(other, b) { // no bit of the pattern is left
					continue
				}
				want := api.ErrSum
				if other[0] != 83 {
					want = api.ErrForm
				}
				if f, n, err := Get(other); err != want || n != 0 || !nothing(f) {
					t.Fatalf("Get(%v), made of %v by %08x at bit %d = %v, %d, %d, want %d", other, b, p, at, f, n, err, want)
				}
			}
		}
	}
}

func TestGetSeesEachInvertedBitOfAGreatFrame(t *testing.T) {
	b := good(5, made(4096))
	for at := 0; at < 8*len(b); at += 13 {
		other := inverted(b, at, 1)
		if _, _, err := Get(other); err == api.OK && !bytes.Equal(other, b) {
			t.Fatalf("Get takes a frame of which the bit %d is inverted", at)
		}
	}
}

func TestRunStopsAtAnInvertedBit(t *testing.T) {
	one, two, three := good(1, []byte("one")), good(2, []byte("two")), good(3, []byte("three"))
	b := join(one, two, three)
	for bit := range 8 * len(two) {
		if bit >= 16 && bit < 32 { // the length: the frames behind may become a part of the Body
			continue
		}
		other := bytes.Clone(b)
		invert(other, 8*len(one)+bit)
		l, n, err := Run(other)
		if err == api.OK || n != len(one) || !sameFrames(l, []api.Frame{{Kind: 1, Body: []byte("one")}}) {
			t.Errorf("the second frame's bit %d inverted: Run = %v, %d, %d", bit, l, n, err)
		}
	}
}

func TestRunOfFramesThatAreCutOff(t *testing.T) {
	var l []api.Frame
	var all []byte
	ends := []int{0}
	for i := range 40 {
		f := api.Frame{Kind: i * 6, Body: made(i * 5 % 23)}
		l = append(l, f)
		all = append(all, good(byte(f.Kind), f.Body)...)
		ends = append(ends, len(all))
	}
	for n := range len(all) + 1 {
		count, found := slices.BinarySearch(ends, n)
		want := api.OK
		if !found {
			count, want = count-1, api.ErrMore
		}
		// The room behind holds the bytes that are missing.
		got, used, err := Run(all[:n])
		if err != want || used != ends[count] || !sameFrames(got, l[:count]) {
			t.Fatalf("%d bytes: Run = %d frames, %d, %d, want %d frames, %d, %d", n, len(got), used, err, count, ends[count], want)
		}
	}
}

// slowGet reads from the back of the promise: it looks for the frame whose
// encoding is a prefix of b, and then for the first error that applies.
func slowGet(b []byte) (api.Frame, int, api.Errno) {
	if len(b) >= 4 {
		size := 256*int(b[2]) + int(b[3])
		if size <= 4096 && len(b) >= 8+size {
			if enc := good(b[1], b[4:4+size]); bytes.HasPrefix(b, enc) {
				return api.Frame{Kind: int(b[1]), Body: bytes.Clone(b[4 : 4+size])}, len(enc), api.OK
			}
		}
	}
	err := api.ErrSum
	if len(b) < 4 || len(b) < 8+256*int(b[2])+int(b[3]) {
		err = api.ErrMore
	}
	if len(b) >= 4 && 256*int(b[2])+int(b[3]) > 4096 {
		err = api.ErrFull
	}
	if len(b) > 0 && b[0] != 83 {
		err = api.ErrForm
	}
	return api.Frame{}, 0, err
}

func slowRun(b []byte) (l []api.Frame, total int, err api.Errno) {
	for len(b) > 0 {
		f, n, err := slowGet(b)
		if err != api.OK {
			return l, total, err
		}
		l, total, b = append(l, f), total+n, b[n:]
	}
	return l, total, api.OK
}

func checkBytes(t *testing.T, b []byte) {
	kept := bytes.Clone(b)
	f, n, err := Get(b)
	g, m, want := slowGet(b)
	if err != want || n != m || !same(f, g) {
		t.Fatalf("Get(%v) = %v, %d, %d, want %v, %d, %d", b, f, n, err, g, m, want)
	}
	if err == api.OK {
		if p, err := Put(f); err != api.OK || !bytes.Equal(p, b[:n]) {
			t.Fatalf("Put of Get(%v) = %v, %d", b, p, err)
		}
	}
	l, n, err := Run(b)
	k, m, want := slowRun(b)
	if err != want || n != m || !sameFrames(l, k) {
		t.Fatalf("Run(%v) = %v, %d, %d, want %v, %d, %d", b, l, n, err, k, m, want)
	}
	if !bytes.Equal(b, kept) {
		t.Fatalf("%v was changed to %v", kept, b)
	}
}

// TestAllShortBytes goes through all byte strings of up to six bytes of those
// values at which something turns, alone and behind a frame.
func TestAllShortBytes(t *testing.T) {
	values := []byte{0, 1, 2, 16, 17, 82, 83, 255}
	ahead := good(5, []byte("ahead"))
	var all func(b []byte, left int)
	all = func(b []byte, left int) {
		checkBytes(t, b)
		checkBytes(t, join(ahead, b))
		if left > 0 {
			for _, c := range values {
				all(append(bytes.Clone(b), c), left-1)
			}
		}
	}
	all(nil, 6)
}

// P1: no bytes and no frame make a call panic.

func FuzzGet(f *testing.F) {
	for _, c := range examples {
		f.Add(c.bytes)
	}
	for _, c := range wrong {
		f.Add(c.bytes)
		f.Add(join(good(5, []byte("ahead")), c.bytes))
	}
	f.Fuzz(checkBytes)
}

// FuzzFrames makes frames of what it is given, as it will hardly ever meet a
// checksum that is right by itself.
func FuzzFrames(f *testing.F) {
	f.Add([]byte("one\x00two\x00\x00three"), 9, byte(0))
	f.Add([]byte{0, 0, 83, 0}, 0, byte(1))
	f.Add(made(300), 250, byte(255))
	f.Fuzz(func(t *testing.T, parts []byte, cut int, turn byte) {
		var b []byte
		for _, part := range bytes.Split(parts, []byte{0}) {
			if len(part) > 0 {
				b = append(b, good(part[0], part[1:])...)
			}
		}
		checkBytes(t, b)
		if len(b) > 0 {
			at := int(uint(cut) % uint(len(b)))
			checkBytes(t, b[:at])
			b[at] ^= turn
			checkBytes(t, b)
		}
	})
}

func FuzzPut(f *testing.F) {
	f.Add(5, []byte("ab"))
	f.Add(-1, make([]byte, 4097))
	f.Add(256, []byte{})
	f.Add(255, make([]byte, 4096))
	f.Fuzz(func(t *testing.T, kind int, body []byte) {
		in := api.Frame{Kind: kind, Body: body}
		b, err := Put(in)
		want := api.OK
		if kind < 0 || kind > 255 {
			want = api.ErrArg
		} else if len(body) > 4096 {
			want = api.ErrFull
		}
		if err != want || (err != api.OK) != (b == nil) {
			t.Fatalf("Put(%v) = %v, %d, want %d", in, b, err, want)
		}
		if err == api.OK {
			if out, n, err := Get(b); err != api.OK || n != len(b) || !same(in, out) {
				t.Fatalf("Get(%v) = %v, %d, %d, want %v", b, out, n, err, in)
			}
		}
	})
}
