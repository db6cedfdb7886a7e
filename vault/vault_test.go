package vault

import (
	"bytes"
	"encoding/binary"
	"fmt"
	"hash/crc32"
	"math"
	"math/rand/v2"
	"reflect"
	"slices"
	"strings"
	"testing"

	"suture/api"
)

const (
	least      = math.MinInt
	greatest   = math.MaxInt
	lastNumber = 1<<56 - 1 // the greatest one that has an encoding
	full       = 65536
)

// numbers are those at which something turns.
var numbers = []int{least, least + 1, -1 << 56, -1 << 40, -2, -1, 0, 1, 2, 3, 4, 15, 16, 17, 18, 63, 64, 65, 255, 256,
	1<<30 - 1, 1 << 30, 1<<30 + 1, 1 << 32, 1<<40 - 1, 1 << 40, 1<<40 + 1, 1<<56 - 1, 1 << 56, 1<<56 + 1, greatest - 1, greatest}

// row is entries of these terms, with commands that tell them apart.
func row(terms ...int) []api.Entry {
	var l []api.Entry
	for i, term := range terms {
		l = append(l, api.Entry{Term: term, Cmd: api.Cmd{Client: 1, Seq: i + 1, Kind: api.Write, A: term, C: 300}})
	}
	return l
}

// logOf is a log of such entries.
func logOf(terms ...int) api.Log { return api.Log{L: row(terms...)} }

func times(n, term int) []int { return slices.Repeat([]int{term}, n) }

// with is l with another command at the place i.
func with(l api.Log, i int, c api.Cmd) api.Log {
	l.L = slices.Clone(l.L)
	l.L[i].Cmd = c
	return l
}

// The bytes of records, built by hand.

// slowBody is numbers, and bytes behind them, as they stand in a frame.
func slowBody(data string, n ...int) []byte {
	b := []byte{byte(len(n))}
	for _, x := range n {
		var digits []byte
		for ; x > 0; x /= 256 {
			digits = append([]byte{byte(x % 256)}, digits...)
		}
		b = append(b, byte(len(digits)))
		b = append(b, digits...)
	}
	b = append(b, byte(len(data)/256), byte(len(data)%256))
	return append(b, data...)
}

func slowFrame(kind int, body []byte) []byte {
	b := append([]byte{83, byte(kind), byte(len(body) / 256), byte(len(body) % 256)}, body...)
	return binary.LittleEndian.AppendUint32(b, crc32.ChecksumIEEE(b))
}

func rec(kind int, n ...int) []byte { return slowFrame(kind, slowBody("", n...)) }

func ballotRec(term, vote int) []byte { return rec(1, term, vote) }

func entryRec(index int, e api.Entry) []byte {
	c := e.Cmd
	return rec(2, index, e.Term, c.Client, c.Seq, c.Kind, c.A, c.B, c.C)
}

func cutRec(n int) []byte { return rec(3, n) }

// recs is the records of entries from the index on.
func recs(index int, l ...api.Entry) [][]byte {
	var out [][]byte
	for i, e := range l {
		out = append(out, entryRec(index+i, e))
	}
	return out
}

func join(parts ...[]byte) []byte { return bytes.Join(parts, nil) }

// The slow calls say the chapter's words once more, in another way.

// slowMayLog tells whether entries of the indices from 1 on make a valid log.
func slowMayLog(l []api.Entry) bool {
	wrong := 0
	for i, e := range l {
		if i >= 64 || e.Term <= 0 || e.Term >= 1073741825 || i > 0 && l[i-1].Term > e.Term {
			wrong++
		}
	}
	return wrong == 0
}

func slowMayBallot(b api.Ballot) bool {
	return !(b.Term <= -1 || b.Term >= 1073741825 || b.Vote <= -1 || b.Vote >= 17)
}

func slowEncodable(n int) bool { return n >= 0 && n/(1<<28) < 1<<28 }

// slowCut is the first frame of b: its kind, its body, and its length; 0: b
// begins with none.
func slowCut(b []byte) (int, []byte, int) {
	if len(b) < 8 || b[0] != 83 {
		return 0, nil, 0
	}
	size := int(binary.BigEndian.Uint16(b[2:]))
	if size > 4096 || len(b) < 8+size {
		return 0, nil, 0
	}
	whole := b[:8+size]
	if !bytes.Equal(slowFrame(int(b[1]), whole[4:4+size]), whole) {
		return 0, nil, 0
	}
	return int(b[1]), whole[4 : 4+size], 8 + size
}

// slowNumbers is the numbers of a body; false: it is not numbers alone.
func slowNumbers(body []byte) ([]int, bool) {
	if len(body) == 0 {
		return nil, false
	}
	var n []int
	rest := body[1:]
	for range body[0] {
		if len(rest) == 0 || rest[0] > 7 || len(rest) < 1+int(rest[0]) {
			return nil, false
		}
		x := 0
		for _, c := range rest[1 : 1+rest[0]] {
			x = x*256 + int(c)
		}
		n = append(n, x)
		rest = rest[1+rest[0]:]
	}
	// What has more than one encoding is caught here, and so is what stands
	// behind the numbers.
	return n, bytes.Equal(slowBody("", n...), body)
}

// slowRead is what Read answers.
func slowRead(b []byte) (api.Ballot, []api.Entry, int) {
	var ballot api.Ballot
	var l []api.Entry
	used := 0
	for {
		kind, body, size := slowCut(b[used:])
		n, ok := slowNumbers(body)
		if size == 0 || !ok {
			return ballot, l, used
		}
		switch fmt.Sprint(kind, " ", len(n)) {
		case "1 2":
			x := api.Ballot{Term: n[0], Vote: n[1]}
			ok = slowMayBallot(x)
			if ok {
				ballot = x
			}
		case "2 8":
			c := api.Cmd{Client: n[2], Seq: n[3], Kind: n[4], A: n[5], B: n[6], C: n[7]}
			x := append(slices.Clone(l), api.Entry{Term: n[1], Cmd: c})
			ok = n[0] == len(x) && slowMayLog(x)
			if ok {
				l = x
			}
		case "3 1":
			ok = len(l) >= n[0]
			if ok {
				l = slices.Clone(l[:n[0]])
			}
		default:
			ok = false
		}
		if !ok {
			return ballot, l, used
		}
		used += size
	}
}

// slowVault keeps the bytes that were written; the rest is read from them.
type slowVault struct{ synced, unsynced []byte }

func (v *slowVault) bytes() []byte { return join(v.synced, v.unsynced) }

// slowRecords is what Save appends to the disk of one with ballot and old.
func slowRecords(ballot api.Ballot, old []api.Entry, b api.Ballot, l []api.Entry) [][]byte {
	var out [][]byte
	if !reflect.DeepEqual(ballot, b) {
		out = append(out, ballotRec(b.Term, b.Vote))
	}
	n := min(len(old), len(l))
	for !reflect.DeepEqual(append([]api.Entry{}, old[:n]...), append([]api.Entry{}, l[:n]...)) {
		n--
	}
	if len(old) > n {
		out = append(out, cutRec(n))
	}
	return append(out, recs(n+1, l[n:]...)...)
}

func slowMaySave(b api.Ballot, l api.Log) bool {
	if !slowMayBallot(b) || !slowMayLog(l.L) || l.Base != 0 || l.BaseTerm != 0 {
		return false
	}
	for _, e := range l.L {
		c := e.Cmd
		for _, n := range []int{c.Client, c.Seq, c.Kind, c.A, c.B, c.C} {
			if !slowEncodable(n) {
				return false
			}
		}
	}
	return true
}

func (v *slowVault) save(b api.Ballot, l api.Log) api.Errno {
	if !slowMaySave(b, l) {
		return api.ErrArg
	}
	ballot, old, _ := slowRead(v.bytes())
	more := join(slowRecords(ballot, old, b, l.L)...)
	if len(v.synced)+len(v.unsynced)+len(more) >= full+1 {
		return api.ErrFull
	}
	v.unsynced = append(v.unsynced, more...)
	return api.OK
}

func (v *slowVault) sync() { v.synced, v.unsynced = v.bytes(), nil }

func (v *slowVault) crash(keep int) {
	kept := 0
	if keep > 0 {
		kept = keep % (len(v.unsynced) + 1)
	}
	disk := join(v.synced, v.unsynced[:kept])
	_, _, used := slowRead(disk)
	v.synced, v.unsynced = disk[:used], nil
}

// Held against what is wanted.

func sameEntries(a, b []api.Entry) bool {
	return len(a) == 0 && len(b) == 0 || reflect.DeepEqual(a, b)
}

// wantRead holds what Read answers against what is wanted.
func wantRead(t *testing.T, b []byte, ballot api.Ballot, l []api.Entry, used int) {
	t.Helper()
	gotBallot, got, gotUsed := Read(b)
	if gotBallot != ballot || !sameEntries(got.L, l) || gotUsed != used {
		t.Errorf("Read: %v, %v, %d, want %v, %v, %d", gotBallot, got, gotUsed, ballot, l, used)
	}
	if got.Base != 0 || got.BaseTerm != 0 {
		t.Errorf("Read: the log has the Base %d of the term %d", got.Base, got.BaseTerm)
	}
}

// wantVault holds all that a vault tells against what is wanted.
func wantVault(t testing.TB, v *Vault, ballot api.Ballot, l []api.Entry, disk []byte) {
	t.Helper()
	b, got := v.Load()
	if b != ballot || !sameEntries(got.L, l) {
		t.Errorf("Load: %v, %v, want %v, %v", b, got.L, ballot, l)
	}
	if got.Base != 0 || got.BaseTerm != 0 {
		t.Errorf("Load: the log has the Base %d of the term %d", got.Base, got.BaseTerm)
	}
	if x := v.Bytes(); !bytes.Equal(x, disk) {
		t.Errorf("Bytes: %d of them, %v, want %d, %v", len(x), x, len(disk), disk)
	}
}

// same holds a vault against a slow one.
func (v *slowVault) same(t testing.TB, fast *Vault) {
	t.Helper()
	ballot, l, used := slowRead(v.bytes())
	if used != len(v.bytes()) {
		t.Fatalf("the slow vault's disk can be read up to %d of %d", used, len(v.bytes()))
	}
	wantVault(t, fast, ballot, l, v.bytes())
}

func save(t testing.TB, v *Vault, b api.Ballot, l api.Log) {
	t.Helper()
	if err := v.Save(b, l); err != api.OK {
		t.Fatalf("Save(%v, %v): %v", b, l, err)
	}
}

// P8.1

func TestNew(t *testing.T) {
	v := New()
	if v == nil {
		t.Fatal("no vault")
	}
	wantVault(t, v, api.Ballot{}, nil, nil)
	v.Sync()
	wantVault(t, v, api.Ballot{}, nil, nil)
	for _, keep := range numbers {
		v.Crash(keep)
		wantVault(t, v, api.Ballot{}, nil, nil)
	}
}

// TestNewIsItsOwn: no vault knows what was saved in another one.
func TestNewIsItsOwn(t *testing.T) {
	v, w := New(), New()
	save(t, v, api.Ballot{Term: 1, Vote: 2}, logOf(1))
	wantVault(t, w, api.Ballot{}, nil, nil)
	wantVault(t, New(), api.Ballot{}, nil, nil)
	save(t, w, api.Ballot{Term: 5}, logOf(2, 3))
	wantVault(t, v, api.Ballot{Term: 1, Vote: 2}, row(1), join(ballotRec(1, 2), entryRec(1, row(1)[0])))
}

// readings is bytes, and how many of them, in parts, are read as what.
var readings = []struct {
	name   string
	parts  [][]byte
	read   int // so many parts are records that are processed
	ballot api.Ballot
	log    []api.Entry
}{
	{"nothing", nil, 0, api.Ballot{}, nil},
	{"a ballot", [][]byte{ballotRec(1, 2)}, 1, api.Ballot{Term: 1, Vote: 2}, nil},
	{"a ballot of zeros", [][]byte{ballotRec(0, 0)}, 1, api.Ballot{}, nil},
	{"the greatest ballot", [][]byte{ballotRec(1<<30, 16)}, 1, api.Ballot{Term: 1 << 30, Vote: 16}, nil},
	{"a Vote in the term 0", [][]byte{ballotRec(0, 3)}, 1, api.Ballot{Vote: 3}, nil},
	{"the last ballot counts", [][]byte{ballotRec(1, 2), ballotRec(3, 0), ballotRec(4, 5)}, 3, api.Ballot{Term: 4, Vote: 5}, nil},
	{"an older ballot counts, too", [][]byte{ballotRec(3, 1), ballotRec(2, 4)}, 2, api.Ballot{Term: 2, Vote: 4}, nil},
	{"an older ballot than an entry's term", append(recs(1, row(5)...), ballotRec(2, 4)), 2, api.Ballot{Term: 2, Vote: 4}, row(5)},
	{"too great a term", [][]byte{ballotRec(1, 2), ballotRec(1<<30+1, 2)}, 1, api.Ballot{Term: 1, Vote: 2}, nil},
	{"the greatest number for a term", [][]byte{ballotRec(lastNumber, 2), ballotRec(1, 2)}, 0, api.Ballot{}, nil},
	{"too great a vote", [][]byte{ballotRec(1, 17), ballotRec(1, 2)}, 0, api.Ballot{}, nil},
	{"the greatest number for a vote", [][]byte{ballotRec(1, 2), ballotRec(1, lastNumber)}, 1, api.Ballot{Term: 1, Vote: 2}, nil},
	{"a term of 2^32 more", [][]byte{ballotRec(1<<32+1, 2)}, 0, api.Ballot{}, nil},

	{"an entry", recs(1, row(1)...), 1, api.Ballot{}, row(1)},
	{"entries", recs(1, row(1, 1, 2, 7)...), 4, api.Ballot{}, row(1, 1, 2, 7)},
	{"the greatest term", recs(1, row(1<<30, 1<<30)...), 2, api.Ballot{}, row(1<<30, 1<<30)},
	{"a ballot, and entries", append([][]byte{ballotRec(4, 1)}, recs(1, row(2, 3)...)...), 3, api.Ballot{Term: 4, Vote: 1}, row(2, 3)},
	{"a ballot between entries", [][]byte{entryRec(1, row(2)[0]), ballotRec(4, 1), entryRec(2, row(2, 2)[1])}, 3, api.Ballot{Term: 4, Vote: 1}, row(2, 2)},
	{"64 entries", recs(1, row(times(64, 3)...)...), 64, api.Ballot{}, row(times(64, 3)...)},
	{"65 entries", recs(1, row(times(65, 3)...)...), 64, api.Ballot{}, row(times(64, 3)...)},
	{"the index 0", recs(0, row(1)...), 0, api.Ballot{}, nil},
	{"the index 2 first", recs(2, row(1)...), 0, api.Ballot{}, nil},
	{"an index left out", [][]byte{entryRec(1, row(1)[0]), entryRec(3, row(1)[0]), entryRec(2, row(1)[0])}, 1, api.Ballot{}, row(1)},
	{"an index twice", [][]byte{entryRec(1, row(1)[0]), entryRec(1, row(1)[0])}, 1, api.Ballot{}, row(1)},
	{"the index before", [][]byte{entryRec(1, row(1)[0]), entryRec(2, row(1, 1)[1]), entryRec(1, row(1)[0])}, 2, api.Ballot{}, row(1, 1)},
	{"the greatest index", recs(lastNumber, row(1)...), 0, api.Ballot{}, nil},
	{"an index of 2^32 more", recs(1<<32+1, row(1)...), 0, api.Ballot{}, nil},
	{"the term 0", recs(1, row(0)...), 0, api.Ballot{}, nil},
	{"too great a term of an entry", recs(1, row(1, 1<<30+1)...), 1, api.Ballot{}, row(1)},
	{"a term that decreases", recs(1, row(3, 3, 2, 3)...), 2, api.Ballot{}, row(3, 3)},
	{"the greatest command", recs(1, with(logOf(1), 0, api.Cmd{Client: lastNumber, Seq: lastNumber, Kind: lastNumber, A: lastNumber, B: lastNumber, C: lastNumber}).L...), 1,
		api.Ballot{}, []api.Entry{{Term: 1, Cmd: api.Cmd{Client: lastNumber, Seq: lastNumber, Kind: lastNumber, A: lastNumber, B: lastNumber, C: lastNumber}}}},
	{"each number at its place", [][]byte{rec(2, 1, 3, 4, 5, 6, 7, 8, 9)}, 1, api.Ballot{},
		[]api.Entry{{Term: 3, Cmd: api.Cmd{Client: 4, Seq: 5, Kind: 6, A: 7, B: 8, C: 9}}}},
	{"a command of zeros", [][]byte{rec(2, 1, 3, 0, 0, 0, 0, 0, 0)}, 1, api.Ballot{}, []api.Entry{{Term: 3}}},

	{"none of none remain", [][]byte{cutRec(0)}, 1, api.Ballot{}, nil},
	{"one of none remains", [][]byte{cutRec(1)}, 0, api.Ballot{}, nil},
	{"all remain", append(recs(1, row(1, 2)...), cutRec(2)), 3, api.Ballot{}, row(1, 2)},
	{"one more remains than there are", append(recs(1, row(1, 2)...), cutRec(3)), 2, api.Ballot{}, row(1, 2)},
	{"the greatest number remains", append(recs(1, row(1, 2)...), cutRec(lastNumber)), 2, api.Ballot{}, row(1, 2)},
	{"2^32 more remain", append(recs(1, row(1, 2)...), cutRec(1<<32+1)), 2, api.Ballot{}, row(1, 2)},
	{"one of two remains", append(recs(1, row(1, 2)...), cutRec(1)), 3, api.Ballot{}, row(1)},
	{"none of two remain", append(recs(1, row(1, 2)...), cutRec(0)), 3, api.Ballot{}, nil},
	{"those that are gone do not come back", append(recs(1, row(1, 2)...), cutRec(0), cutRec(1)), 3, api.Ballot{}, nil},
	{"the ballot remains", [][]byte{ballotRec(6, 1), entryRec(1, row(1)[0]), cutRec(0)}, 3, api.Ballot{Term: 6, Vote: 1}, nil},
	{"entries behind those that remain", append(recs(1, row(1, 5, 5)...), cutRec(1), entryRec(2, row(1, 2)[1])), 5, api.Ballot{}, row(1, 2)},
	{"an index as if none had gone", append(recs(1, row(1, 5)...), cutRec(1), entryRec(3, row(1, 2, 5)[2])), 3, api.Ballot{}, row(1)},
	{"64 entries, and another last one", append(recs(1, row(times(64, 3)...)...), cutRec(63), entryRec(64, row(times(64, 4)...)[63])), 66,
		api.Ballot{}, append(row(times(63, 3)...), row(times(64, 4)...)[63])},

	{"the kind 0", [][]byte{rec(0, 1, 2), ballotRec(1, 2)}, 0, api.Ballot{}, nil},
	{"the kind 0 of one number", [][]byte{rec(0, 0)}, 0, api.Ballot{}, nil},
	{"the kind 4", [][]byte{ballotRec(1, 2), rec(4, 0), ballotRec(3, 4)}, 1, api.Ballot{Term: 1, Vote: 2}, nil},
	{"the kind 4 of two numbers", [][]byte{rec(4, 1, 2)}, 0, api.Ballot{}, nil},
	{"the kind 255", [][]byte{rec(255, 1, 1, 1, 1, 1, 1, 1, 1)}, 0, api.Ballot{}, nil},
	{"an entry's numbers in a ballot", [][]byte{rec(1, 1, 1, 1, 1, 1, 1, 1, 1)}, 0, api.Ballot{}, nil},
	{"a ballot's numbers in an entry", [][]byte{rec(2, 1, 1)}, 0, api.Ballot{}, nil},
	{"a ballot's numbers in one of the kind 3", [][]byte{rec(3, 0, 0)}, 0, api.Ballot{}, nil},
	{"no number in a ballot", [][]byte{rec(1), ballotRec(1, 2)}, 0, api.Ballot{}, nil},
	{"one number in a ballot", [][]byte{rec(1, 1)}, 0, api.Ballot{}, nil},
	{"three numbers in a ballot", [][]byte{rec(1, 1, 2, 0)}, 0, api.Ballot{}, nil},
	{"no number in an entry", [][]byte{rec(2)}, 0, api.Ballot{}, nil},
	{"seven numbers in an entry", [][]byte{rec(2, 1, 1, 1, 1, 1, 1, 1)}, 0, api.Ballot{}, nil},
	{"nine numbers in an entry", [][]byte{rec(2, 1, 1, 1, 1, 1, 1, 1, 1, 0)}, 0, api.Ballot{}, nil},
	{"no number in one of the kind 3", [][]byte{rec(3)}, 0, api.Ballot{}, nil},
	{"three numbers in one of the kind 3", [][]byte{rec(3, 0, 0, 0)}, 0, api.Ballot{}, nil},
	{"255 numbers", [][]byte{rec(1, times(255, 1)...)}, 0, api.Ballot{}, nil},

	{"Data in a ballot", [][]byte{slowFrame(1, slowBody("a", 1, 2))}, 0, api.Ballot{}, nil},
	{"Data in an entry", [][]byte{slowFrame(2, slowBody("a", 1, 1, 1, 1, 1, 1, 1, 1))}, 0, api.Ballot{}, nil},
	{"Data in one of the kind 3", [][]byte{slowFrame(3, slowBody("\x00", 0))}, 0, api.Ballot{}, nil},
	{"a body of nothing", [][]byte{slowFrame(1, nil), ballotRec(1, 2)}, 0, api.Ballot{}, nil},
	{"bytes behind the numbers", [][]byte{slowFrame(1, append(slowBody("", 1, 2), 0))}, 0, api.Ballot{}, nil},
	{"a body that was cut", [][]byte{slowFrame(1, []byte{2, 1, 1, 1, 2, 0})}, 0, api.Ballot{}, nil},
	{"a body without the length of Data", [][]byte{slowFrame(1, []byte{2, 1, 1, 1, 2})}, 0, api.Ballot{}, nil},
	{"a number with a zero ahead", [][]byte{slowFrame(1, []byte{2, 2, 0, 1, 1, 2, 0, 0})}, 0, api.Ballot{}, nil},
	{"a zero of one byte", [][]byte{slowFrame(3, []byte{1, 1, 0, 0, 0})}, 0, api.Ballot{}, nil},
	{"a number of eight bytes", [][]byte{slowFrame(1, []byte{2, 8, 1, 0, 0, 0, 0, 0, 0, 0, 1, 2, 0, 0})}, 0, api.Ballot{}, nil},
	{"fewer numbers than are told", [][]byte{slowFrame(1, []byte{3, 1, 1, 1, 2, 0, 0})}, 0, api.Ballot{}, nil},

	{"no frame ahead", [][]byte{{0}, ballotRec(1, 2)}, 0, api.Ballot{}, nil},
	{"no frame between", [][]byte{ballotRec(1, 2), {82}, ballotRec(3, 4)}, 1, api.Ballot{Term: 1, Vote: 2}, nil},
	{"a frame that was cut", [][]byte{ballotRec(1, 2), ballotRec(3, 4)[:14]}, 1, api.Ballot{Term: 1, Vote: 2}, nil},
	{"a frame with another sum", [][]byte{ballotRec(1, 2), append(ballotRec(3, 4)[:14], 0)}, 1, api.Ballot{Term: 1, Vote: 2}, nil},
	{"the mark alone", [][]byte{ballotRec(1, 2), {83}}, 1, api.Ballot{Term: 1, Vote: 2}, nil},
	{"too great a body", [][]byte{ballotRec(1, 2), slowFrame(1, make([]byte, 4097))}, 1, api.Ballot{Term: 1, Vote: 2}, nil},
	{"many zeros", [][]byte{ballotRec(1, 2), make([]byte, 100000)}, 1, api.Ballot{Term: 1, Vote: 2}, nil},

	// What follows is not asked for.
	{"behind one that is none: the same kind", append(recs(1, row(1, 0)...), recs(2, row(1, 1)[1])...), 1, api.Ballot{}, row(1)},
	{"behind one that is none: another kind", [][]byte{entryRec(1, row(1)[0]), cutRec(2), ballotRec(1, 2), cutRec(0)}, 1, api.Ballot{}, row(1)},
}

func TestRead(t *testing.T) {
	for _, c := range readings {
		t.Run(c.name, func(t *testing.T) {
			b := join(c.parts...)
			used := len(join(c.parts[:c.read]...))
			wantRead(t, b, c.ballot, c.log, used)
			// Those that were processed are enough, and nothing behind them
			// is asked for.
			wantRead(t, b[:used], c.ballot, c.log, used)
			ballot, l, n := slowRead(b)
			wantRead(t, b, ballot, l, n)
		})
	}
}

// TestReadBytes holds Read against bytes that are written out.
func TestReadBytes(t *testing.T) {
	b := []byte{83, 1, 0, 7, 2, 1, 1, 1, 2, 0, 0}
	b = binary.LittleEndian.AppendUint32(b, crc32.ChecksumIEEE(b))
	e := []byte{83, 2, 0, 20, 8, 1, 1, 2, 1, 44, 1, 2, 1, 3, 1, 4, 1, 5, 0, 2, 1, 0, 0, 0}
	e = binary.LittleEndian.AppendUint32(e, crc32.ChecksumIEEE(e))
	c := []byte{83, 3, 0, 5, 1, 1, 1, 0, 0}
	c = binary.LittleEndian.AppendUint32(c, crc32.ChecksumIEEE(c))
	want := []api.Entry{{Term: 300, Cmd: api.Cmd{Client: 2, Seq: 3, Kind: 4, A: 5, B: 0, C: 256}}}
	wantRead(t, join(b, e, c), api.Ballot{Term: 1, Vote: 2}, want, 15+28+13)
}

// TestReadPrefixes: of bytes that were cut off, the whole records are read.
func TestReadPrefixes(t *testing.T) {
	parts := [][]byte{ballotRec(5, 2), entryRec(1, row(1)[0]), entryRec(2, row(1, 300)[1]), cutRec(1), ballotRec(6, 0), entryRec(2, row(1, 2)[1])}
	b := join(parts...)
	for cut := range len(b) + 1 {
		used, whole := 0, 0
		for whole < len(parts) && used+len(parts[whole]) <= cut {
			used += len(parts[whole])
			whole++
		}
		ballot, l := api.Ballot{}, []api.Entry(nil)
		if whole >= 1 {
			ballot = api.Ballot{Term: 5, Vote: 2}
		}
		if whole >= 5 {
			ballot = api.Ballot{Term: 6}
		}
		l = [][]api.Entry{nil, nil, row(1), row(1, 300), row(1), row(1), row(1, 2)}[whole]
		wantRead(t, b[:cut], ballot, l, used)
	}
}

// TestReadDamaged: a bit that is another one is never read, nor is what
// follows it.
func TestReadDamaged(t *testing.T) {
	parts := [][]byte{ballotRec(5, 2), entryRec(1, row(1)[0]), cutRec(0), entryRec(1, row(7)[0])}
	good := join(parts...)
	begin := 0
	for i, p := range parts {
		ballot, l, _ := slowRead(good[:begin])
		for at := begin; at < begin+len(p); at++ {
			for bit := range 8 {
				b := bytes.Clone(good)
				b[at] ^= 1 << bit
				gotBallot, got, used := Read(b)
				// Two bytes tell the length, and may make it end elsewhere;
				// then the sum is another one here as well.
				if gotBallot != ballot || !sameEntries(got.L, l) || used != begin {
					t.Fatalf("the bit %d of the byte %d of the record %d: %v, %v, %d", bit, at-begin, i, gotBallot, got, used)
				}
			}
		}
		begin += len(p)
	}
}

// TestReadLong: Read has no limit, though the disk has one.
func TestReadLong(t *testing.T) {
	one := join(ballotRec(5, 2), entryRec(1, row(1)[0]), cutRec(0))
	b := bytes.Repeat(one, 3000)
	if len(b) <= full {
		t.Fatal(len(b))
	}
	wantRead(t, b, api.Ballot{Term: 5, Vote: 2}, nil, len(b))
	wantRead(t, append(b, entryRec(1, row(9)[0])...), api.Ballot{Term: 5, Vote: 2}, row(9), len(b)+len(entryRec(1, row(9)[0])))
}

// TestReadNumbers puts every number at every place of every kind.
func TestReadNumbers(t *testing.T) {
	ahead := join(ballotRec(3, 1), entryRec(1, row(2)[0]), entryRec(2, row(2, 3)[1]))
	for kind := range 5 {
		for _, plain := range [][]int{{}, {1}, {2}, {4, 2}, {4, 2, 0}, {3, 3, 1, 1, 1, 1, 1}, {3, 3, 1, 1, 1, 1, 1, 1}, {3, 3, 1, 1, 1, 1, 1, 1, 0}} {
			for at := range len(plain) {
				for _, x := range numbers {
					if !slowEncodable(x) {
						continue
					}
					n := slices.Clone(plain)
					n[at] = x
					b := join(ahead, rec(kind, n...), ballotRec(9, 9))
					ballot, l, used := slowRead(b)
					wantRead(t, b, ballot, l, used)
				}
			}
		}
	}
}

// TestReadAny reads records in any order, with small numbers, so that many of
// their conditions are met and many are not.
func TestReadAny(t *testing.T) {
	r := rand.New(rand.NewPCG(8, 1))
	depth := 0
	for range 20000 {
		var b []byte
		for range r.IntN(30) {
			switch r.IntN(12) {
			case 0, 1:
				b = append(b, ballotRec(r.IntN(4), r.IntN(18))...)
			case 2:
				b = append(b, cutRec(r.IntN(4))...)
			case 3:
				b = append(b, rec(r.IntN(5), times(r.IntN(10), 1)...)...)
			default:
				_, l, _ := slowRead(b)
				b = append(b, entryRec(len(l)+1+r.IntN(12)/11, api.Entry{Term: 1 + len(l) + r.IntN(3), Cmd: api.Cmd{A: r.IntN(300)}})...)
			}
		}
		if r.IntN(4) == 0 && len(b) > 0 {
			b[r.IntN(len(b))] ^= 1 << r.IntN(8)
		}
		ballot, l, used := slowRead(b)
		wantRead(t, b, ballot, l, used)
		depth = max(depth, len(l))
	}
	if depth < 10 {
		t.Errorf("the longest log has %d entries", depth)
	}
}

// P8.2

// TestSaveRecords: what is appended, exactly.
func TestSaveRecords(t *testing.T) {
	b := func(term, vote int) api.Ballot { return api.Ballot{Term: term, Vote: vote} }
	other := func(l api.Log, i int) api.Log {
		return with(l, i, api.Cmd{Client: 1, Seq: i + 1, Kind: api.Write, B: 1})
	}
	for _, c := range []struct {
		name   string
		ballot api.Ballot
		old    api.Log
		b      api.Ballot
		l      api.Log
		want   [][]byte
	}{
		{"nothing in nothing", b(0, 0), logOf(), b(0, 0), logOf(), nil},
		{"a slice of none", b(0, 0), logOf(), b(0, 0), api.Log{L: []api.Entry{}}, nil},
		{"the same again", b(1, 2), logOf(1, 1), b(1, 2), logOf(1, 1), nil},
		{"a ballot", b(0, 0), logOf(), b(1, 2), logOf(), [][]byte{ballotRec(1, 2)}},
		{"another term", b(1, 2), logOf(1), b(2, 2), logOf(1), [][]byte{ballotRec(2, 2)}},
		{"another vote", b(1, 2), logOf(1), b(1, 3), logOf(1), [][]byte{ballotRec(1, 3)}},
		{"an older ballot", b(5, 2), logOf(), b(1, 3), logOf(), [][]byte{ballotRec(1, 3)}},
		{"the zero ballot again", b(5, 2), logOf(), b(0, 0), logOf(), [][]byte{ballotRec(0, 0)}},
		{"the greatest ballot", b(5, 2), logOf(), b(1<<30, 16), logOf(), [][]byte{ballotRec(1<<30, 16)}},
		{"an entry of a term that the ballot does not know", b(0, 0), logOf(), b(0, 0), logOf(7), recs(1, row(7)...)},
		{"an entry", b(1, 0), logOf(), b(1, 0), logOf(1), recs(1, row(1)...)},
		{"entries", b(1, 0), logOf(), b(1, 0), logOf(1, 2, 2), recs(1, row(1, 2, 2)...)},
		{"entries behind others", b(1, 0), logOf(1, 1), b(1, 0), logOf(1, 1, 2, 2), recs(3, row(1, 1, 2, 2)[2:]...)},
		{"a ballot and an entry", b(1, 0), logOf(1), b(2, 1), logOf(1, 2), [][]byte{ballotRec(2, 1), entryRec(2, row(1, 2)[1])}},
		{"fewer entries", b(1, 0), logOf(1, 1, 1), b(1, 0), logOf(1, 1), [][]byte{cutRec(2)}},
		{"no entries", b(1, 0), logOf(1, 1, 1), b(1, 0), logOf(), [][]byte{cutRec(0)}},
		{"another last term", b(1, 0), logOf(1, 1), b(1, 0), logOf(1, 2), [][]byte{cutRec(1), entryRec(2, row(1, 2)[1])}},
		{"another last term, a lesser one", b(1, 0), logOf(1, 3), b(1, 0), logOf(1, 2), [][]byte{cutRec(1), entryRec(2, row(1, 2)[1])}},
		{"another first term", b(1, 0), logOf(2, 2), b(1, 0), logOf(1, 2), [][]byte{cutRec(0), entryRec(1, row(1)[0]), entryRec(2, row(1, 2)[1])}},
		{"a longer one that differs", b(1, 0), logOf(1, 1), b(1, 0), logOf(1, 2, 2), [][]byte{cutRec(1), entryRec(2, row(1, 2)[1]), entryRec(3, row(1, 2, 2)[2])}},
		{"a shorter one that differs", b(1, 0), logOf(1, 1, 1), b(1, 0), logOf(1, 2), [][]byte{cutRec(1), entryRec(2, row(1, 2)[1])}},
		{"all three", b(1, 0), logOf(1, 1, 1), b(2, 4), logOf(1, 2), [][]byte{ballotRec(2, 4), cutRec(1), entryRec(2, row(1, 2)[1])}},
		{"another command of the same term", b(1, 0), logOf(1, 1), b(1, 0), other(logOf(1, 1), 1), [][]byte{cutRec(1), entryRec(2, other(logOf(1, 1), 1).L[1])}},
		{"another first command", b(1, 0), logOf(1, 1), b(1, 0), other(logOf(1, 1), 0), [][]byte{cutRec(0), entryRec(1, other(logOf(1, 1), 0).L[0]), entryRec(2, row(1, 1)[1])}},
		{"another command between", b(1, 0), logOf(1, 1, 1), b(1, 0), other(logOf(1, 1, 1, 1), 1),
			[][]byte{cutRec(1), entryRec(2, other(logOf(1, 1), 1).L[1]), entryRec(3, row(1, 1, 1)[2]), entryRec(4, row(1, 1, 1, 1)[3])}},
		{"64 entries", b(1, 0), logOf(), b(1, 0), logOf(times(64, 1)...), recs(1, row(times(64, 1)...)...)},
		{"the last of 64", b(1, 0), logOf(times(64, 1)...), b(1, 0), logOf(append(times(63, 1), 2)...), [][]byte{cutRec(63), entryRec(64, row(times(64, 2)...)[63])}},
		{"one more than 63", b(1, 0), logOf(times(63, 1)...), b(1, 0), logOf(times(64, 1)...), [][]byte{entryRec(64, row(times(64, 1)...)[63])}},
		{"the greatest term", b(1, 0), logOf(1), b(1, 0), logOf(1, 1<<30), [][]byte{entryRec(2, row(1, 1<<30)[1])}},
	} {
		t.Run(c.name, func(t *testing.T) {
			for _, synced := range []bool{false, true} {
				v := New()
				save(t, v, c.ballot, c.old)
				ahead := v.Bytes()
				if synced {
					v.Sync()
				}
				save(t, v, c.b, c.l)
				wantVault(t, v, c.b, c.l.L, join(ahead, join(c.want...)))
				wantRead(t, v.Bytes(), c.b, c.l.L, len(v.Bytes()))
			}
		})
	}
}

// TestSaveBytes: the first example's bytes, written out.
func TestSaveBytes(t *testing.T) {
	v := New()
	save(t, v, api.Ballot{Term: 1, Vote: 2}, api.Log{L: []api.Entry{{Term: 1}}})
	ballot := []byte{83, 1, 0, 7, 2, 1, 1, 1, 2, 0, 0}
	entry := []byte{83, 2, 0, 13, 8, 1, 1, 1, 1, 0, 0, 0, 0, 0, 0, 0, 0}
	want := join(
		binary.LittleEndian.AppendUint32(slices.Clone(ballot), crc32.ChecksumIEEE(ballot)),
		binary.LittleEndian.AppendUint32(slices.Clone(entry), crc32.ChecksumIEEE(entry)))
	wantVault(t, v, api.Ballot{Term: 1, Vote: 2}, []api.Entry{{Term: 1}}, want)
}

// TestSaveEachNumber: another number at any place of a command makes it
// another one, and each is kept.
func TestSaveEachNumber(t *testing.T) {
	plain := api.Cmd{Client: 1, Seq: 2, Kind: 3, A: 4, B: 5, C: 6}
	for _, x := range numbers {
		for i, c := range changed(plain, x) {
			v := New()
			save(t, v, api.Ballot{}, with(logOf(1, 1, 1), 1, plain))
			old, disk := with(logOf(1, 1, 1), 1, plain), v.Bytes()
			l := with(old, 1, c)
			switch err := v.Save(api.Ballot{}, l); {
			case !slowEncodable(x):
				if err != api.ErrArg {
					t.Errorf("%d at the place %d: %v", x, i, err)
				}
				wantVault(t, v, api.Ballot{}, old.L, disk)
			case err != api.OK:
				t.Errorf("%d at the place %d: %v", x, i, err)
			case c == plain:
				wantVault(t, v, api.Ballot{}, l.L, disk)
			default:
				wantVault(t, v, api.Ballot{}, l.L, join(disk, cutRec(1), entryRec(2, l.L[1]), entryRec(3, l.L[2])))
			}
		}
	}
}

// changed is c with x at one of its places, for each of them.
func changed(c api.Cmd, x int) []api.Cmd {
	l := slices.Repeat([]api.Cmd{c}, 6)
	l[0].Client, l[1].Seq, l[2].Kind, l[3].A, l[4].B, l[5].C = x, x, x, x, x, x
	return l
}

// wrongs is what no vault saves.
func wrongs() []struct {
	name string
	b    api.Ballot
	l    api.Log
} {
	good := api.Ballot{Term: 2, Vote: 1}
	type wrong = struct {
		name string
		b    api.Ballot
		l    api.Log
	}
	l := []wrong{
		{"the term -1", api.Ballot{Term: -1}, logOf(1)},
		{"the least term", api.Ballot{Term: least}, logOf(1)},
		{"the term 2^30 + 1", api.Ballot{Term: 1<<30 + 1}, logOf(1)},
		{"the greatest term", api.Ballot{Term: greatest}, logOf(1)},
		{"the vote -1", api.Ballot{Term: 1, Vote: -1}, logOf(1)},
		{"the vote 17", api.Ballot{Term: 1, Vote: 17}, logOf(1)},
		{"the greatest vote", api.Ballot{Term: 1, Vote: greatest}, logOf(1)},
		{"the term 0 of an entry", good, logOf(1, 0)},
		{"the term -1 of an entry", good, logOf(-1)},
		{"the term 2^30 + 1 of an entry", good, logOf(1, 1<<30+1)},
		{"terms that decrease", good, logOf(1, 3, 2)},
		{"65 entries", good, logOf(times(65, 1)...)},
		{"a Base", good, api.Log{Base: 1, BaseTerm: 1, L: row(1, 1)}},
		{"a Base of the term 0", good, api.Log{Base: 5, L: row(1)}},
		{"a Base without entries", good, api.Log{Base: 3, BaseTerm: 2}},
		{"the greatest Base", good, api.Log{Base: 1 << 40, BaseTerm: 1 << 30}},
		{"a Base that may not be", good, api.Log{Base: 1<<40 + 1}},
		{"the Base -1", good, api.Log{Base: -1, L: row(1)}},
		{"a BaseTerm without a Base", good, api.Log{BaseTerm: 1, L: row(1)}},
		{"the BaseTerm -1", good, api.Log{BaseTerm: -1, L: row(1)}},
		{"nothing that may be", api.Ballot{Term: -1, Vote: 99}, api.Log{Base: -3, BaseTerm: 1, L: row(3, 1)}},
	}
	for _, x := range numbers {
		if slowEncodable(x) {
			continue
		}
		for i, c := range changed(api.Cmd{Client: 1, Seq: 2, Kind: 3, A: 4, B: 5, C: 6}, x) {
			l = append(l, wrong{fmt.Sprint(x, " at the place ", i, " of the first command"), good, with(logOf(1, 1, 2), 0, c)})
			l = append(l, wrong{fmt.Sprint(x, " at the place ", i, " of the last command"), good, with(logOf(1, 1, 2), 2, c)})
		}
	}
	return l
}

func TestSaveWrong(t *testing.T) {
	ballot, old := api.Ballot{Term: 2, Vote: 1}, logOf(1, 1, 2)
	for _, c := range wrongs() {
		t.Run(c.name, func(t *testing.T) {
			empty := New()
			if err := empty.Save(c.b, c.l); err != api.ErrArg {
				t.Errorf("an empty vault: %v", err)
			}
			wantVault(t, empty, api.Ballot{}, nil, nil)
			v := New()
			save(t, v, ballot, old)
			disk := v.Bytes()
			if err := v.Save(c.b, c.l); err != api.ErrArg {
				t.Errorf("a vault: %v", err)
			}
			wantVault(t, v, ballot, old.L, disk)
			// What is synced is as it was, too.
			v.Crash(-1)
			wantVault(t, v, api.Ballot{}, nil, nil)
		})
	}
}

// sized is a ballot whose record has so many bytes, 17 or 18; that of the next
// i is another one.
func sized(size, i int) api.Ballot {
	return api.Ballot{Term: 1 << (8 * (size - 15)), Vote: 1 + i%2}
}

// fill makes a vault with the log l, whose disk has left bytes to spare.
func fill(t testing.TB, left int, l ...api.Entry) *Vault {
	t.Helper()
	v := New()
	save(t, v, api.Ballot{}, api.Log{L: l})
	used := full - left - len(v.Bytes())
	many := (used + 17) / 18
	for i := range many {
		size := used / many
		if i < used%many {
			size++
		}
		save(t, v, sized(size, i), api.Log{L: l})
	}
	if len(v.Bytes()) != full-left {
		t.Fatalf("filled %d bytes, want %d", len(v.Bytes()), full-left)
	}
	return v
}

func TestSaveFull(t *testing.T) {
	three := logOf(1, 1, 1)
	for _, c := range []struct {
		name string
		b    func(now api.Ballot) api.Ballot
		l    api.Log
		want func(b api.Ballot) [][]byte
	}{
		{"nothing", func(now api.Ballot) api.Ballot { return now }, api.Log{}, func(api.Ballot) [][]byte { return nil }},
		{"a ballot", func(api.Ballot) api.Ballot { return api.Ballot{Vote: 3} }, api.Log{}, func(b api.Ballot) [][]byte { return [][]byte{ballotRec(b.Term, b.Vote)} }},
		{"an entry", func(now api.Ballot) api.Ballot { return now }, logOf(1), func(api.Ballot) [][]byte { return recs(1, row(1)...) }},
		{"entries", func(now api.Ballot) api.Ballot { return now }, three, func(api.Ballot) [][]byte { return recs(1, three.L...) }},
		{"a ballot and entries", func(api.Ballot) api.Ballot { return api.Ballot{Term: 5} }, three,
			func(b api.Ballot) [][]byte {
				return append([][]byte{ballotRec(b.Term, b.Vote)}, recs(1, three.L...)...)
			}},
	} {
		t.Run(c.name, func(t *testing.T) {
			size := len(join(c.want(c.b(api.Ballot{Term: 1}))...))
			for _, left := range []int{0, 1, 12, 13, 14, size - 2, size - 1, size, size + 1, size + 20} {
				if left < 0 {
					continue
				}
				v := fill(t, left)
				now, _ := v.Load()
				disk := v.Bytes()
				more := join(c.want(c.b(now))...)
				err := v.Save(c.b(now), c.l)
				if len(more) > left {
					if err != api.ErrFull {
						t.Errorf("%d bytes where %d are left: %v", len(more), left, err)
					}
					wantVault(t, v, now, nil, disk)
					continue
				}
				if err != api.OK {
					t.Errorf("%d bytes where %d are left: %v", len(more), left, err)
				}
				wantVault(t, v, c.b(now), c.l.L, join(disk, more))
			}
		})
	}
}

// TestSaveFullCut: a record that takes entries away needs room, too.
func TestSaveFullCut(t *testing.T) {
	for left := range 30 {
		v := fill(t, left, row(1, 1, 2)...)
		now, _ := v.Load()
		disk := v.Bytes()
		err := v.Save(now, logOf(1, 1))
		if left < len(cutRec(2)) {
			if err != api.ErrFull {
				t.Errorf("%d are left: %v", left, err)
			}
			wantVault(t, v, now, row(1, 1, 2), disk)
			continue
		}
		if err != api.OK {
			t.Errorf("%d are left: %v", left, err)
		}
		wantVault(t, v, now, row(1, 1), join(disk, cutRec(2)))
	}
}

// TestSaveFullAgain: a full disk takes what needs no more bytes, tells of a
// wrong argument first, and has room again behind a crash.
func TestSaveFullAgain(t *testing.T) {
	v := fill(t, 20)
	now, _ := v.Load()
	v.Sync()
	save(t, v, api.Ballot{Term: 1 << 24, Vote: 9}, api.Log{}) // 18 of 20 bytes
	disk := v.Bytes()
	for range 3 {
		if err := v.Save(api.Ballot{Vote: 9}, api.Log{}); err != api.ErrFull {
			t.Errorf("a ballot: %v", err)
		}
		if err := v.Save(api.Ballot{Term: 1 << 24, Vote: 9}, logOf(times(64, 1)...)); err != api.ErrFull {
			t.Errorf("entries: %v", err)
		}
		save(t, v, api.Ballot{Term: 1 << 24, Vote: 9}, api.Log{})
		for _, c := range wrongs() {
			if err := v.Save(c.b, c.l); err != api.ErrArg {
				t.Errorf("%s: %v", c.name, err)
			}
		}
		wantVault(t, v, api.Ballot{Term: 1 << 24, Vote: 9}, nil, disk)
	}
	v.Crash(17)
	wantVault(t, v, now, nil, disk[:full-20])
	save(t, v, api.Ballot{Term: 1 << 24, Vote: 8}, api.Log{})
	v.Sync()
	v.Crash(0)
	wantVault(t, v, api.Ballot{Term: 1 << 24, Vote: 8}, nil, join(disk[:full-20], ballotRec(1<<24, 8)))
}

// TestSaveAll puts every number at every place of a ballot and of a log.
func TestSaveAll(t *testing.T) {
	ballots := []api.Ballot{{}, {Term: 2, Vote: 1}}
	for _, x := range numbers {
		for _, y := range numbers {
			ballots = append(ballots, api.Ballot{Term: x, Vote: y})
		}
	}
	logs := []api.Log{{}, logOf(1, 1, 3)}
	for _, x := range numbers {
		logs = append(logs, logOf(x), logOf(1, x), logOf(x, 1<<30), api.Log{Base: x}, api.Log{BaseTerm: x, L: row(1)}, api.Log{Base: x, BaseTerm: 1})
	}
	for _, b := range ballots {
		for _, l := range logs {
			v := New()
			save(t, v, api.Ballot{Term: 2, Vote: 1}, logOf(1, 1, 2))
			slow := &slowVault{unsynced: v.Bytes()}
			if err, want := v.Save(b, l), slow.save(b, l); err != want {
				t.Fatalf("Save(%v, %v): %v, want %v", b, l, err, want)
			}
			slow.same(t, v)
		}
	}
}

// P8.3

// TestCrash: the chapter's example.
func TestCrash(t *testing.T) {
	b, l := api.Ballot{Term: 1, Vote: 2}, logOf(1)
	v := New()
	save(t, v, b, l)
	disk := v.Bytes()
	v.Crash(0)
	wantVault(t, v, api.Ballot{}, nil, nil)
	save(t, v, b, l)
	v.Sync()
	v.Crash(0)
	wantVault(t, v, b, l.L, disk)
}

// TestCrashKeep: how many bytes remain of those that were not synced, for
// every number of them and for numbers at which something turns.
func TestCrashKeep(t *testing.T) {
	firstBallot, first := api.Ballot{Term: 4, Vote: 1}, logOf(1, 2, 4)
	secondBallot, second := api.Ballot{Term: 5}, with(logOf(1, 2, 5, 5), 3, api.Cmd{Client: 1000, A: 70000})
	ahead := join(ballotRec(4, 1), entryRec(1, first.L[0]), entryRec(2, first.L[1]), entryRec(3, first.L[2]))
	parts := [][]byte{ballotRec(5, 0), cutRec(2), entryRec(3, second.L[2]), entryRec(4, second.L[3])}
	more := join(parts...)
	ballots := []api.Ballot{firstBallot, secondBallot, secondBallot, secondBallot, secondBallot}
	logs := [][]api.Entry{first.L, first.L, first.L[:2], second.L[:3], second.L}
	var keeps []int
	for keep := -3; keep <= 3*len(more)+5; keep++ {
		keeps = append(keeps, keep)
	}
	for _, keep := range append(keeps, numbers...) {
		v := New()
		save(t, v, firstBallot, first)
		v.Sync()
		save(t, v, secondBallot, second)
		wantVault(t, v, secondBallot, second.L, join(ahead, more))
		v.Crash(keep)
		kept := 0
		if keep > 0 {
			kept = keep % (len(more) + 1)
		}
		whole, used := 0, 0
		for whole < len(parts) && used+len(parts[whole]) <= kept {
			used += len(parts[whole])
			whole++
		}
		t.Run(fmt.Sprint("keep ", keep), func(t *testing.T) {
			wantVault(t, v, ballots[whole], logs[whole], join(ahead, more[:used]))
			// All of that is synced now.
			disk := v.Bytes()
			for _, again := range []int{-1, 0, 1, 7, 1000} {
				v.Crash(again)
				wantVault(t, v, ballots[whole], logs[whole], disk)
			}
			// What is saved now stands behind that, and can be read.
			save(t, v, secondBallot, second)
			wantRead(t, v.Bytes(), secondBallot, second.L, len(v.Bytes()))
			v.Sync()
			v.Crash(0)
			wantVault(t, v, secondBallot, second.L, join(disk, join(slowRecords(ballots[whole], logs[whole], secondBallot, second.L)...)))
		})
	}
}

// TestCrashWhole: the number of the bytes that were not synced keeps them all,
// and one more keeps none.
func TestCrashWhole(t *testing.T) {
	l := logOf(1, 3)
	disk := join(append([][]byte{ballotRec(2, 0)}, recs(1, l.L...)...)...)
	more := ballotRec(3, 3)
	n := len(more)
	for _, c := range []struct {
		keep int
		all  bool
	}{
		{n, true}, {n + 1, false}, {n - 1, false}, {2*n + 1, true}, {2*n + 2, false}, {2 * n, false},
		{1000*(n+1) + n, true}, {1000 * (n + 1), false}, {-n, false}, {-1, false}, {-n - 2, false}, {0, false},
	} {
		v := New()
		save(t, v, api.Ballot{Term: 2}, l)
		v.Sync()
		save(t, v, api.Ballot{Term: 3, Vote: 3}, l)
		v.Crash(c.keep)
		if c.all {
			wantVault(t, v, api.Ballot{Term: 3, Vote: 3}, l.L, join(disk, more))
		} else {
			wantVault(t, v, api.Ballot{Term: 2}, l.L, disk)
		}
	}
}

// TestSync: only what was written by then is synced, and nothing else changes.
func TestSync(t *testing.T) {
	v := New()
	save(t, v, api.Ballot{Term: 1}, logOf(1))
	disk := v.Bytes()
	v.Sync()
	v.Sync()
	wantVault(t, v, api.Ballot{Term: 1}, row(1), disk)
	save(t, v, api.Ballot{Term: 2}, logOf(1, 2))
	wantVault(t, v, api.Ballot{Term: 2}, row(1, 2), join(disk, ballotRec(2, 0), entryRec(2, row(1, 2)[1])))
	v.Crash(-1)
	wantVault(t, v, api.Ballot{Term: 1}, row(1), disk)
	save(t, v, api.Ballot{Term: 2}, logOf(1, 2))
	v.Sync()
	save(t, v, api.Ballot{Term: 3}, logOf())
	v.Crash(0)
	wantVault(t, v, api.Ballot{Term: 2}, row(1, 2), join(disk, ballotRec(2, 0), entryRec(2, row(1, 2)[1])))
}

// P8.4

// randomLog is a log that begins as l does.
func randomLog(r *rand.Rand, l []api.Entry) api.Log {
	out := slices.Clone(l[:r.IntN(len(l)+1)])
	if r.IntN(3) > 0 {
		out = slices.Clone(l)
	}
	for range r.IntN(4) {
		term := 1 + r.IntN(3)
		if len(out) > 0 {
			term = out[len(out)-1].Term + r.IntN(8)/7
		}
		e := api.Entry{Term: term, Cmd: api.Cmd{Client: r.IntN(2), Seq: r.IntN(2), A: r.IntN(2) << r.IntN(56)}}
		out = append(out, e)
	}
	if len(out) > 64 {
		out = out[:64]
	}
	return api.Log{L: out}
}

// TestVaultAny takes vaults through many steps, each held against the words of
// the chapter.
func TestVaultAny(t *testing.T) {
	r := rand.New(rand.NewPCG(8, 2))
	wrong := wrongs()
	saved := map[api.Errno]int{}
	crashes := 0
	for walk := range 40 {
		v, slow := New(), &slowVault{}
		try := func(b api.Ballot, l api.Log) {
			err, want := v.Save(b, l), slow.save(b, l)
			if err != want {
				t.Fatalf("Save(%v, %v): %v, want %v", b, l, err, want)
			}
			saved[err]++
		}
		if walk%4 == 0 {
			// A disk that will be full soon.
			v = fill(t, 500+r.IntN(500))
			v.Sync()
			slow = &slowVault{synced: v.Bytes()}
		}
		for range 100 {
			ballot, l := v.Load()
			switch x := r.IntN(20); {
			case x == 0:
				try(ballot, wrong[r.IntN(len(wrong))].l)
			case x < 5:
				try(api.Ballot{Term: r.IntN(4), Vote: r.IntN(17)}, randomLog(r, l.L))
			case x < 14:
				try(ballot, randomLog(r, l.L))
			case x < 17:
				v.Sync()
				slow.sync()
			default:
				keep := r.IntN(400) - 20
				v.Crash(keep)
				slow.crash(keep)
				crashes++
			}
			slow.same(t, v)
			if t.Failed() {
				t.FailNow()
			}
		}
	}
	if saved[api.OK] < 1000 || saved[api.ErrArg] < 100 || saved[api.ErrFull] < 100 || crashes < 300 {
		t.Errorf("%v saved, %d crashes", saved, crashes)
	}
}

// TestSyncedSurvives: what was saved and synced is there behind any crashes,
// and what was not is a mix of the old and the new, cut at one place.
func TestSyncedSurvives(t *testing.T) {
	r := rand.New(rand.NewPCG(8, 3))
	var mixed int
	for range 3000 {
		v := New()
		old, oldLog := api.Ballot{Term: r.IntN(3), Vote: r.IntN(3)}, randomLog(r, row(times(r.IntN(6), 1)...))
		save(t, v, old, oldLog)
		v.Sync()
		synced := len(v.Bytes())
		b, l := api.Ballot{Term: r.IntN(5), Vote: r.IntN(3)}, randomLog(r, oldLog.L)
		save(t, v, b, l)
		unsynced := len(v.Bytes()) - synced
		v.Crash(r.IntN(unsynced + 1))
		got, gotLog := v.Load()
		if len(v.Bytes()) < synced {
			t.Fatalf("%d bytes of %d synced ones", len(v.Bytes()), synced)
		}
		if got != old && got != b {
			t.Fatalf("the ballot %v is neither %v nor %v", got, old, b)
		}
		for i, e := range gotLog.L {
			ofOld := i < len(oldLog.L) && e == oldLog.L[i]
			ofNew := i < len(l.L) && e == l.L[i]
			if !ofOld && !ofNew {
				t.Fatalf("the entry %d, %v, is neither of %v nor of %v", i+1, e, oldLog.L, l.L)
			}
		}
		// As the ballot is written first, a new entry is never kept without it.
		if !sameEntries(gotLog.L, oldLog.L) && got != b {
			t.Fatalf("the log %v, but the ballot %v", gotLog.L, got)
		}
		if got != old && !sameEntries(gotLog.L, l.L) {
			mixed++
		}
		v.Crash(-1)
		v.Crash(greatest)
		wantVault(t, v, got, gotLog.L, v.Bytes())
	}
	if mixed < 100 {
		t.Errorf("only %d were cut between", mixed)
	}
}

// R3 and R5

// roomy is l with room behind its entries, all of which has a mark.
func roomy(l []api.Entry) ([]api.Entry, func() bool) {
	big := slices.Repeat([]api.Entry{{Term: 77}}, len(l)+4)
	copy(big, l)
	return big[:len(l)], func() bool {
		return reflect.DeepEqual(big[len(l):], slices.Repeat([]api.Entry{{Term: 77}}, 4)) && sameEntries(big[:len(l)], l)
	}
}

// TestOwnership: what goes in and what comes out belongs to the caller.
func TestOwnership(t *testing.T) {
	b := api.Ballot{Term: 3, Vote: 1}
	v := New()
	in, untouched := roomy(row(1, 2))
	save(t, v, b, api.Log{L: in})
	save(t, v, b, api.Log{L: in})
	if !untouched() {
		t.Error("Save changed its log")
	}
	disk := join(ballotRec(3, 1), entryRec(1, row(1)[0]), entryRec(2, row(1, 2)[1]))
	clear(in)
	wantVault(t, v, b, row(1, 2), disk)

	_, one := v.Load()
	_, two := v.Load()
	clear(one.L)
	_ = append(one.L, api.Entry{Term: 5})
	if !sameEntries(two.L, row(1, 2)) {
		t.Error("two answers of Load share their entries")
	}
	wantVault(t, v, b, row(1, 2), disk)
	// An answer stays as it is when the vault goes on.
	save(t, v, b, logOf(1, 3))
	save(t, v, b, logOf(4, 4, 4))
	if !sameEntries(two.L, row(1, 2)) {
		t.Error("Save changed an answer of Load")
	}
	disk = v.Bytes()
	other := v.Bytes()
	clear(disk)
	disk = append(disk[:0], "other bytes than these"...)
	wantVault(t, v, b, row(4, 4, 4), other)
	v.Crash(-1)
	save(t, v, api.Ballot{Vote: 16}, logOf(9, 9, 9, 9))
	if ballot, l, used := Read(other); ballot != b || !sameEntries(l.L, row(4, 4, 4)) || used != len(other) {
		t.Error("Save changed an answer of Bytes")
	}
}

// TestReadOwnership: Read keeps none of its bytes, and changes none.
func TestReadOwnership(t *testing.T) {
	good := join(ballotRec(3, 1), entryRec(1, row(1)[0]), entryRec(2, row(1, 2)[1]), cutRec(1), entryRec(2, row(1, 3)[1]), []byte("more"))
	big := append(bytes.Clone(good), "behind them"...)
	b := big[:len(good)]
	ballot, one, used := Read(b)
	_, two, _ := Read(b)
	if !bytes.Equal(big, append(bytes.Clone(good), "behind them"...)) {
		t.Error("Read changed its bytes")
	}
	clear(big)
	if ballot != (api.Ballot{Term: 3, Vote: 1}) || !sameEntries(one.L, row(1, 3)) || used != len(good)-4 {
		t.Errorf("Read: %v, %v, %d", ballot, one.L, used)
	}
	clear(one.L)
	_ = append(one.L, row(5, 5, 5)...)
	if !sameEntries(two.L, row(1, 3)) {
		t.Error("two answers of Read share their entries")
	}
}

// TestCrashOwnership: answers from before a crash stay, and so do those from
// behind it.
func TestCrashOwnership(t *testing.T) {
	v := New()
	save(t, v, api.Ballot{Term: 1}, logOf(1, 1))
	v.Sync()
	save(t, v, api.Ballot{Term: 2}, logOf(1, 2))
	_, ahead := v.Load()
	disk := v.Bytes()
	v.Crash(0)
	_, behind := v.Load()
	save(t, v, api.Ballot{Term: 3}, logOf(1, 1, 3, 3))
	clear(behind.L)
	wantVault(t, v, api.Ballot{Term: 3}, row(1, 1, 3, 3), v.Bytes())
	if !sameEntries(ahead.L, row(1, 2)) {
		t.Error("a crash changed an answer of Load")
	}
	if b, l, _ := Read(disk); b != (api.Ballot{Term: 2}) || !sameEntries(l.L, row(1, 2)) {
		t.Error("a crash changed an answer of Bytes")
	}
}

// P1

func FuzzRead(f *testing.F) {
	for _, c := range readings {
		f.Add(join(c.parts...), 0)
		f.Add(join(c.parts...), 1+len(c.name))
	}
	f.Fuzz(func(t *testing.T, b []byte, keep int) {
		ballot, l, used := slowRead(b)
		wantRead(t, b, ballot, l, used)
		if !slowMayBallot(ballot) || !slowMayLog(l) {
			t.Fatalf("%v, %v", ballot, l)
		}
		// What was read can be saved, and is read again.
		v := New()
		save(t, v, ballot, api.Log{L: l})
		wantRead(t, v.Bytes(), ballot, l, len(v.Bytes()))
		v.Crash(keep)
		got, gotLog, n := slowRead(v.Bytes())
		wantVault(t, v, got, gotLog, v.Bytes())
		if n != len(v.Bytes()) {
			t.Fatalf("%d of %d bytes can be read", n, len(v.Bytes()))
		}
	})
}

func FuzzVault(f *testing.F) {
	f.Add([]byte("SsCSScS"), 1, 2, 1, 0, 5, 3)
	f.Add([]byte(strings.Repeat("Sc", 9)), 1<<30, 16, 1<<30, 1<<56-1, 0, 1000)
	f.Add([]byte("SSSsSSCCc"), -1, 17, 0, least, greatest, least)
	f.Fuzz(func(t *testing.T, steps []byte, term, vote, of, client, c, keep int) {
		v, slow := New(), &slowVault{}
		for i, step := range steps[:min(len(steps), 40)] {
			switch step {
			case 's':
				v.Sync()
				slow.sync()
			case 'C':
				v.Crash(keep + i)
				slow.crash(keep + i)
			case 'c':
				v.Crash(i)
				slow.crash(i)
			default:
				b := api.Ballot{Term: term, Vote: vote}
				_, l := v.Load()
				l.L = append(l.L[:min(len(l.L), int(step)/4)], api.Entry{Term: of + i%4, Cmd: api.Cmd{Client: client, Seq: int(step), C: c}})
				if step%4 == 1 {
					b, l.Base = api.Ballot{Term: i, Vote: i / 2}, int(step)/64
				}
				if err, want := v.Save(b, l), slow.save(b, l); err != want {
					t.Fatalf("Save(%v, %v): %v, want %v", b, l, err, want)
				}
			}
			slow.same(t, v)
		}
	})
}
