package session

import (
	"maps"
	"math"
	"math/rand/v2"
	"slices"
	"testing"

	"suture/api"
)

const (
	least      = math.MinInt
	greatest   = math.MaxInt
	lastClient = 1 << 20
	lastSeq    = 1 << 40
)

// numbers are those at which something turns, for a client, a Seq or an
// answer.
var numbers = []int{least, least + 1, -1 << 40, -1 << 32, -1 << 20, -2, -1, 0, 1, 2, 3, 4, 5, 9, 10, 11, 15, 16, 17, 255, 256,
	1<<20 - 1, 1 << 20, 1<<20 + 1, 1<<31 - 1, 1 << 31, 1 << 32, 1<<32 + 1, 1<<32 + 10, 1<<40 - 1, 1 << 40, 1<<40 + 1,
	greatest - 1, greatest}

// of is sessions whose Client, Seq and Answer are each three of n.
func of(n ...int) []api.Session {
	var l []api.Session
	for three := range slices.Chunk(n, 3) {
		l = append(l, api.Session{Client: three[0], Seq: three[1], Answer: three[2]})
	}
	return l
}

// many is the sessions of n clients, 10 20 30 and so on; that of the client
// 10 * i has the Seq i + 4 and the Answer -i.
func many(n int) []api.Session {
	var l []api.Session
	for i := 1; i <= n; i++ {
		l = append(l, api.Session{Client: 10 * i, Seq: i + 4, Answer: -i})
	}
	return l
}

// with is l with another session at the place i.
func with(l []api.Session, i int, s api.Session) []api.Session {
	l = slices.Clone(l)
	l[i] = s
	return l
}

// put is l with an answer that must be taken.
func put(t testing.TB, l []api.Session, client, seq, answer int) []api.Session {
	t.Helper()
	got, err := Put(l, client, seq, answer)
	if err != api.OK {
		t.Fatalf("Put(%v, %d, %d, %d) = %d", l, client, seq, answer, err)
	}
	return got
}

// The slow calls say the chapter's words once more, in another way: all of
// the conditions are asked, and sessions are kept by their clients.

func slowClient(n int) bool { return !(n <= 0 || n >= 1048577) }

func slowSeq(n int) bool { return !(n <= 0 || n >= 1099511627777) }

func slowMay(l []api.Session) bool {
	wrong := max(len(l)-16, 0)
	for i, s := range l {
		if !slowClient(s.Client) || !slowSeq(s.Seq) {
			wrong++
		}
		for _, behind := range l[i+1:] {
			if behind.Client <= s.Client {
				wrong++
			}
		}
	}
	return wrong == 0
}

// byClient is the sessions of l, by their clients.
func byClient(l []api.Session) map[int]api.Session {
	m := map[int]api.Session{}
	for _, s := range l {
		m[s.Client] = s
	}
	return m
}

// inOrder is the sessions of m, by ascending clients.
func inOrder(m map[int]api.Session) []api.Session {
	var l []api.Session
	for _, client := range slices.Sorted(maps.Keys(m)) {
		l = append(l, m[client])
	}
	return l
}

// slowLookErrors is all errors of Look that apply, the first one first.
func slowLookErrors(l []api.Session, client, seq int) []api.Errno {
	var all []api.Errno
	if !slowMay(l) || !slowClient(client) || !slowSeq(seq) {
		all = append(all, api.ErrArg)
	}
	n := byClient(l)[client].Seq
	if n > seq {
		all = append(all, api.ErrStale)
	}
	if seq > 0 && seq-1 > n {
		all = append(all, api.ErrGap)
	}
	return all
}

func slowLook(l []api.Session, client, seq int) (int, bool, api.Errno) {
	if all := slowLookErrors(l, client, seq); len(all) > 0 {
		return 0, false, all[0]
	}
	s, ok := byClient(l)[client]
	if ok && s.Seq == seq {
		return s.Answer, true, api.OK
	}
	return 0, false, api.OK
}

// slowPutErrors is all errors of Put that apply, the first one first.
func slowPutErrors(l []api.Session, client, seq int) []api.Errno {
	all := slowLookErrors(l, client, seq)
	s, ok := byClient(l)[client]
	if ok && s.Seq == seq {
		all = append(all, api.ErrThere)
	}
	if !ok && len(l) >= 16 {
		all = append(all, api.ErrFull)
	}
	return all
}

func slowPut(l []api.Session, client, seq, answer int) ([]api.Session, api.Errno) {
	if all := slowPutErrors(l, client, seq); len(all) > 0 {
		return nil, all[0]
	}
	m := byClient(l)
	m[client] = api.Session{Client: client, Seq: seq, Answer: answer}
	return inOrder(m), api.OK
}

// check holds what the calls answer against the slow ones, and against P9.3.
func check(t testing.TB, l []api.Session, client, seq, answer int) {
	t.Helper()
	if got, want := May(l), slowMay(l); got != want {
		t.Fatalf("May(%v) = %v", l, got)
	}
	n, ok, err := Look(l, client, seq)
	if wantN, wantOK, wantErr := slowLook(l, client, seq); n != wantN || ok != wantOK || err != wantErr {
		t.Fatalf("Look(%v, %d, %d) = %d, %v, %d, want %d, %v, %d", l, client, seq, n, ok, err, wantN, wantOK, wantErr)
	}
	got, err := Put(l, client, seq, answer)
	want, wantErr := slowPut(l, client, seq, answer)
	if !slices.Equal(got, want) || err != wantErr {
		t.Fatalf("Put(%v, %d, %d, %d) = %v, %d, want %v, %d", l, client, seq, answer, got, err, want, wantErr)
	}
	if err != api.OK && got != nil {
		t.Fatalf("Put(%v, %d, %d, %d) = %v, %d, and not nothing", l, client, seq, answer, got, err)
	}
	if err == api.OK {
		checkPut(t, l, got, client, seq, answer)
	}
}

// checkPut asks what P9.3 says of sessions and those that Put made of them.
func checkPut(t testing.TB, l, next []api.Session, client, seq, answer int) {
	t.Helper()
	if !May(next) {
		t.Fatalf("of %v became %v, which may not be", l, next)
	}
	if n, ok, err := Look(next, client, seq); n != answer || !ok || err != api.OK {
		t.Fatalf("Look(%v, %d, %d) = %d, %v, %d, want %d", next, client, seq, n, ok, err, answer)
	}
	if again, err := Put(next, client, seq, answer+1); again != nil || err != api.ErrThere {
		t.Fatalf("Put(%v, %d, %d) = %v, %d", next, client, seq, again, err)
	}
	for _, s := range l {
		if s.Client == client {
			continue
		}
		if n, ok, err := Look(next, s.Client, s.Seq); n != s.Answer || !ok || err != api.OK {
			t.Fatalf("Look(%v, %d, %d) = %d, %v, %d, want %d", next, s.Client, s.Seq, n, ok, err, s.Answer)
		}
	}
}

// lists are sessions, with whether they are valid.
var lists = []struct {
	name  string
	l     []api.Session
	valid bool
}{
	{"none", nil, true},
	{"none, a slice of none", []api.Session{}, true},
	{"one", of(1, 1, 7), true},
	{"one, in the middle", of(500, 77, 7), true},
	{"the last client", of(lastClient, 1, 7), true},
	{"the last Seq", of(1, lastSeq, 7), true},
	{"the Seq ahead of the last one", of(1, lastSeq-1, 7), true},
	{"the answer 0", of(1, 1, 0), true},
	{"a negative answer", of(1, 1, -10), true},
	{"the least answer", of(1, 1, least), true},
	{"the greatest answer", of(1, 1, greatest), true},
	{"two", of(1, 5, 7, 2, 4, 6), true},
	{"two, far apart", of(1, 4, 7, lastClient, lastSeq, 7), true},
	{"the same Seqs and answers", of(3, 4, 5, 6, 4, 5, 7, 4, 5), true},
	{"decreasing Seqs", of(3, 9, 1, 6, 8, 2, 7, 1, 3), true},
	{"15", many(15), true},
	{"16", many(16), true},
	{"16, up to the last client", with(many(16), 15, api.Session{Client: lastClient, Seq: lastSeq}), true},
	{"17", many(17), false},
	{"33", many(33), false},
	{"the client 0", of(0, 1, 7), false},
	{"the client -1", of(-1, 1, 7), false},
	{"the least client", of(least, 1, 7), false},
	{"the client 2^20 + 1", of(lastClient+1, 1, 7), false},
	{"the client 2^32 + 1", of(1<<32+1, 1, 7), false},
	{"the greatest client", of(greatest, 1, 7), false},
	{"the Seq 0", of(1, 0, 7), false},
	{"the Seq -1", of(1, -1, 7), false},
	{"the least Seq", of(1, least, 7), false},
	{"the Seq 2^40 + 1", of(1, lastSeq+1, 7), false},
	{"the greatest Seq", of(1, greatest, 7), false},
	{"the zero value", make([]api.Session, 1), false},
	{"16 zero values", make([]api.Session, 16), false},
	{"a client twice", of(4, 1, 7, 4, 1, 7), false},
	{"a client twice, increasing Seqs", of(4, 1, 7, 4, 2, 7), false},
	{"a client twice, behind others", of(1, 1, 7, 2, 1, 7, 4, 1, 7, 4, 1, 7), false},
	{"decreasing clients", of(5, 1, 7, 4, 1, 7), false},
	{"decreasing clients, increasing at last", of(5, 1, 7, 4, 1, 7, 6, 1, 7), false},
	{"decreasing clients at last", of(4, 1, 7, 6, 1, 7, 5, 1, 7), false},
	{"the last client twice", of(lastClient, 1, 7, lastClient, 1, 7), false},
	{"the client 0 ahead of others", of(0, 1, 7, 1, 1, 7, 2, 1, 7), false},
	{"the client 2^20 + 1 behind others", of(1, 1, 7, 2, 1, 7, lastClient+1, 1, 7), false},
	{"the Seq 0 ahead of others", of(1, 0, 7, 2, 1, 7), false},
	{"the Seq 0 behind others", of(1, 1, 7, 2, 0, 7), false},
	{"all of it wrong", with(many(17), 3, api.Session{Client: -1, Seq: lastSeq + 1}), false},
}

// P9.1

func TestExamples(t *testing.T) {
	l := put(t, nil, 1, 1, 7)
	if n, ok, err := Look(l, 1, 1); n != 7 || !ok || err != api.OK {
		t.Errorf("Look(1, 1) = %d, %v, %d", n, ok, err)
	}
	if n, ok, err := Look(l, 1, 2); n != 0 || ok || err != api.OK {
		t.Errorf("Look(1, 2) = %d, %v, %d", n, ok, err)
	}
	if n, ok, err := Look(l, 1, 3); n != 0 || ok || err != api.ErrGap {
		t.Errorf("Look(1, 3) = %d, %v, %d", n, ok, err)
	}
}

func TestMay(t *testing.T) {
	for _, c := range lists {
		if got := May(c.l); got != c.valid {
			t.Errorf("%s: May(%v) = %v", c.name, c.l, got)
		}
		if slowMay(c.l) != c.valid {
			t.Errorf("%s: the slow call says something else", c.name)
		}
	}
}

func TestMayOfEachLength(t *testing.T) {
	for n := range 70 {
		if got, want := May(many(n)), n <= 16; got != want {
			t.Errorf("May of %d = %v", n, got)
		}
	}
}

// Each session is looked at, whichever place it has.
func TestMayLooksAtEachPlace(t *testing.T) {
	for n := 1; n <= 16; n++ {
		for i := range n {
			l := many(n)
			s := l[i]
			for _, x := range numbers {
				client := with(l, i, api.Session{Client: x, Seq: s.Seq, Answer: s.Answer})
				above := i == 0 || x > l[i-1].Client
				below := i == n-1 || x < l[i+1].Client
				if got, want := May(client), x >= 1 && x <= lastClient && above && below; got != want {
					t.Errorf("of %d, the client %d in the place %d: May = %v", n, x, i, got)
				}
				seq := with(l, i, api.Session{Client: s.Client, Seq: x, Answer: s.Answer})
				if got, want := May(seq), x >= 1 && x <= lastSeq; got != want {
					t.Errorf("of %d, the Seq %d in the place %d: May = %v", n, x, i, got)
				}
				if !May(with(l, i, api.Session{Client: s.Client, Seq: s.Seq, Answer: x})) {
					t.Errorf("of %d, the answer %d in the place %d may not be", n, x, i)
				}
			}
		}
	}
}

// Two that stand side by side must ascend, wherever they stand.
func TestMayOfClientsSideBySide(t *testing.T) {
	for i := range 15 {
		for step := -12; step <= 12; step++ {
			l := many(16)
			l[i+1].Client = l[i].Client + step
			want := step >= 1 && (i == 14 || step < 20)
			if got := May(l); got != want {
				t.Errorf("%d behind %d: May = %v", l[i+1].Client, l[i].Client, got)
			}
		}
	}
}

func TestLook(t *testing.T) {
	l := of(3, 5, 70, 8, 1, 0, 9, lastSeq, -4, lastClient, 2, greatest)
	for _, c := range []struct {
		name        string
		client, seq int
		n           int
		ok          bool
		err         api.Errno
	}{
		{"the last command", 3, 5, 70, true, api.OK},
		{"the next command", 3, 6, 0, false, api.OK},
		{"the one behind the next", 3, 7, 0, false, api.ErrGap},
		{"one much later", 3, 5000, 0, false, api.ErrGap},
		{"the latest of all", 3, lastSeq, 0, false, api.ErrGap},
		{"the one ahead of the last", 3, 4, 0, false, api.ErrStale},
		{"the first one", 3, 1, 0, false, api.ErrStale},
		{"2^32 + 5", 3, 1<<32 + 5, 0, false, api.ErrGap},

		{"a first command", 8, 1, 0, true, api.OK},
		{"the second one", 8, 2, 0, false, api.OK},
		{"the third one", 8, 3, 0, false, api.ErrGap},

		{"the last Seq", 9, lastSeq, -4, true, api.OK},
		{"the Seq ahead of the last one", 9, lastSeq - 1, 0, false, api.ErrStale},
		{"a Seq far ahead of the last one", 9, 1, 0, false, api.ErrStale},
		{"the Seq behind the last one", 9, lastSeq + 1, 0, false, api.ErrArg},

		{"the last client", lastClient, 2, greatest, true, api.OK},
		{"the last client, the next command", lastClient, 3, 0, false, api.OK},
		{"the last client, the one ahead", lastClient, 1, 0, false, api.ErrStale},
		{"the last client, a later one", lastClient, 4, 0, false, api.ErrGap},

		{"a client without a session", 5, 1, 0, false, api.OK},
		{"a client without a session, its second command", 5, 2, 0, false, api.ErrGap},
		{"a client without a session, the latest command", 5, lastSeq, 0, false, api.ErrGap},
		{"a client ahead of all", 1, 1, 0, false, api.OK},
		{"a client ahead of all, the Seq of the first one", 1, 5, 0, false, api.ErrGap},
		{"a client beside one", 4, 5, 0, false, api.ErrGap},
		{"a client almost behind all", lastClient - 1, 1, 0, false, api.OK},
		{"a client almost behind all, the Seq of the last one", lastClient - 1, 2, 0, false, api.ErrGap},

		{"the client 0", 0, 1, 0, false, api.ErrArg},
		{"the client -1", -1, 1, 0, false, api.ErrArg},
		{"the client -3", -3, 5, 0, false, api.ErrArg},
		{"the least client", least, 1, 0, false, api.ErrArg},
		{"the client 2^20 + 1", lastClient + 1, 1, 0, false, api.ErrArg},
		{"the client 2^32 + 3", 1<<32 + 3, 5, 0, false, api.ErrArg},
		{"the greatest client", greatest, 1, 0, false, api.ErrArg},
		{"the Seq 0", 3, 0, 0, false, api.ErrArg},
		{"the Seq 0 of a client without a session", 5, 0, 0, false, api.ErrArg},
		{"the Seq -1", 3, -1, 0, false, api.ErrArg},
		{"the Seq -5", 3, -5, 0, false, api.ErrArg},
		{"the least Seq", 3, least, 0, false, api.ErrArg},
		{"the Seq 2^40 + 1", 3, lastSeq + 1, 0, false, api.ErrArg},
		{"the greatest Seq", 3, greatest, 0, false, api.ErrArg},
		{"neither of them", 0, 0, 0, false, api.ErrArg},
		{"neither of them, both too great", greatest, greatest, 0, false, api.ErrArg},
	} {
		n, ok, err := Look(l, c.client, c.seq)
		if n != c.n || ok != c.ok || err != c.err {
			t.Errorf("%s: Look(%d, %d) = %d, %v, %d, want %d, %v, %d", c.name, c.client, c.seq, n, ok, err, c.n, c.ok, c.err)
		}
	}
}

func TestLookInNoSessions(t *testing.T) {
	for _, client := range []int{1, 2, 500, lastClient} {
		if n, ok, err := Look(nil, client, 1); n != 0 || ok || err != api.OK {
			t.Errorf("Look(%d, 1) = %d, %v, %d", client, n, ok, err)
		}
		for _, seq := range []int{2, 3, lastSeq} {
			if n, ok, err := Look(nil, client, seq); n != 0 || ok || err != api.ErrGap {
				t.Errorf("Look(%d, %d) = %d, %v, %d", client, seq, n, ok, err)
			}
		}
	}
}

// Every client is found, and none that isn't there, however many there are.
func TestLookOfEachClient(t *testing.T) {
	for n := range 17 {
		l := many(n)
		for client := 1; client <= 10*n+11; client++ {
			has := client%10 == 0 && client <= 10*n
			for seq := 1; seq <= n+7; seq++ {
				answer, ok, err := Look(l, client, seq)
				wantSeq, want := 0, 0
				if has {
					wantSeq = client/10 + 4
				}
				if has && seq == wantSeq {
					want = -client / 10
				}
				wantErr := api.OK
				if seq < wantSeq {
					wantErr = api.ErrStale
				}
				if seq > wantSeq+1 {
					wantErr = api.ErrGap
				}
				if answer != want || ok != (has && seq == wantSeq) || err != wantErr {
					t.Fatalf("of %d: Look(%d, %d) = %d, %v, %d", n, client, seq, answer, ok, err)
				}
			}
		}
	}
}

func TestLookInWrongSessions(t *testing.T) {
	for _, c := range lists {
		if c.valid {
			continue
		}
		for _, client := range append([]int{1, 2, 4, 5, 10}, numbers...) {
			for _, seq := range []int{-1, 0, 1, 2, 3, 5, lastSeq, lastSeq + 1} {
				if n, ok, err := Look(c.l, client, seq); n != 0 || ok || err != api.ErrArg {
					t.Errorf("%s: Look(%d, %d) = %d, %v, %d", c.name, client, seq, n, ok, err)
				}
			}
		}
	}
}

func TestLookTellsEachAnswer(t *testing.T) {
	for _, answer := range numbers {
		l := of(2, 3, 1, 5, 3, answer, 6, 3, 2)
		if n, ok, err := Look(l, 5, 3); n != answer || !ok || err != api.OK {
			t.Errorf("Look = %d, %v, %d, want %d", n, ok, err, answer)
		}
		for _, seq := range []int{1, 2, 4, 5} {
			if n, ok, _ := Look(l, 5, seq); n != 0 || ok {
				t.Errorf("the answer %d: Look(5, %d) = %d, %v", answer, seq, n, ok)
			}
		}
	}
}

// P9.2

func TestPut(t *testing.T) {
	l := of(3, 5, 70, 8, 1, 0, 9, lastSeq-1, -4)
	for _, c := range []struct {
		name                string
		l                   []api.Session
		client, seq, answer int
		want                []api.Session
	}{
		{"the first one of all", nil, 1, 1, 7, of(1, 1, 7)},
		{"the first one of all, a slice of none", []api.Session{}, 1, 1, 7, of(1, 1, 7)},
		{"the first one of all, the last client", nil, lastClient, 1, 7, of(lastClient, 1, 7)},
		{"the first client's next", l, 3, 6, 71, of(3, 6, 71, 8, 1, 0, 9, lastSeq-1, -4)},
		{"the second client's next", l, 8, 2, 71, of(3, 5, 70, 8, 2, 71, 9, lastSeq-1, -4)},
		{"the last client's next, up to the last Seq", l, 9, lastSeq, 71, of(3, 5, 70, 8, 1, 0, 9, lastSeq, 71)},
		{"the same answer", l, 3, 6, 70, of(3, 6, 70, 8, 1, 0, 9, lastSeq-1, -4)},
		{"the answer 0", l, 3, 6, 0, of(3, 6, 0, 8, 1, 0, 9, lastSeq-1, -4)},
		{"a negative answer", l, 3, 6, -1, of(3, 6, -1, 8, 1, 0, 9, lastSeq-1, -4)},
		{"the least answer", l, 3, 6, least, of(3, 6, least, 8, 1, 0, 9, lastSeq-1, -4)},
		{"the greatest answer", l, 3, 6, greatest, of(3, 6, greatest, 8, 1, 0, 9, lastSeq-1, -4)},
		{"a client ahead of all", l, 1, 1, 71, of(1, 1, 71, 3, 5, 70, 8, 1, 0, 9, lastSeq-1, -4)},
		{"a client just ahead of all", l, 2, 1, 71, of(2, 1, 71, 3, 5, 70, 8, 1, 0, 9, lastSeq-1, -4)},
		{"a client between two", l, 5, 1, 71, of(3, 5, 70, 5, 1, 71, 8, 1, 0, 9, lastSeq-1, -4)},
		{"a client just behind one", l, 4, 1, 71, of(3, 5, 70, 4, 1, 71, 8, 1, 0, 9, lastSeq-1, -4)},
		{"a client just ahead of one", l, 7, 1, 71, of(3, 5, 70, 7, 1, 71, 8, 1, 0, 9, lastSeq-1, -4)},
		{"a client just behind all", l, 10, 1, 71, of(3, 5, 70, 8, 1, 0, 9, lastSeq-1, -4, 10, 1, 71)},
		{"the last client, behind all", l, lastClient, 1, 71, of(3, 5, 70, 8, 1, 0, 9, lastSeq-1, -4, lastClient, 1, 71)},
		{"a new client with the answer 0", l, 10, 1, 0, of(3, 5, 70, 8, 1, 0, 9, lastSeq-1, -4, 10, 1, 0)},
	} {
		got, err := Put(c.l, c.client, c.seq, c.answer)
		if !slices.Equal(got, c.want) || err != api.OK {
			t.Errorf("%s: Put(%v, %d, %d, %d) = %v, %d, want %v", c.name, c.l, c.client, c.seq, c.answer, got, err, c.want)
		}
	}
}

func TestPutRefuses(t *testing.T) {
	l, full := of(3, 5, 70, 8, 1, 0, 9, lastSeq, -4), many(16)
	for _, c := range []struct {
		name        string
		l           []api.Session
		client, seq int
		want        api.Errno
	}{
		{"the client 0", l, 0, 1, api.ErrArg},
		{"the client -1", l, -1, 1, api.ErrArg},
		{"the client -3", l, -3, 6, api.ErrArg},
		{"the client 2^20 + 1", l, lastClient + 1, 1, api.ErrArg},
		{"the greatest client", l, greatest, 1, api.ErrArg},
		{"the Seq 0", l, 3, 0, api.ErrArg},
		{"the Seq 0 of a new client", l, 5, 0, api.ErrArg},
		{"the Seq -1", l, 3, -1, api.ErrArg},
		{"the least Seq", l, 3, least, api.ErrArg},
		{"the Seq behind the last one", l, 9, lastSeq + 1, api.ErrArg},
		{"the greatest Seq", l, 3, greatest, api.ErrArg},
		{"an earlier one", l, 3, 4, api.ErrStale},
		{"the first one", l, 3, 1, api.ErrStale},
		{"an earlier one of the last Seq", l, 9, lastSeq - 1, api.ErrStale},
		{"one that was answered", l, 3, 5, api.ErrThere},
		{"a first one that was answered with 0", l, 8, 1, api.ErrThere},
		{"the last Seq, which was answered", l, 9, lastSeq, api.ErrThere},
		{"one too late", l, 3, 7, api.ErrGap},
		{"the latest of all", l, 3, lastSeq, api.ErrGap},
		{"a new client's second one", l, 5, 2, api.ErrGap},
		{"a new client's latest one", nil, 5, lastSeq, api.ErrGap},

		{"full: a client ahead of all", full, 1, 1, api.ErrFull},
		{"full: a client between two", full, 55, 1, api.ErrFull},
		{"full: a client just behind one", full, 151, 1, api.ErrFull},
		{"full: a client just behind all", full, 161, 1, api.ErrFull},
		{"full: the last client", full, lastClient, 1, api.ErrFull},

		// Several at once.
		{"full: a new client's second one", full, 55, 2, api.ErrGap},
		{"full: a new client's latest one", full, 55, lastSeq, api.ErrGap},
		{"full: a new client's Seq 0", full, 55, 0, api.ErrArg},
		{"full: a new client's Seq 2^40 + 1", full, 55, lastSeq + 1, api.ErrArg},
		{"full: the client 0", full, 0, 1, api.ErrArg},
		{"full: the client 0, a late Seq", full, 0, 3, api.ErrArg},
		{"full: the client 2^20 + 1", full, lastClient + 1, 1, api.ErrArg},
		{"full: one that was answered", full, 50, 9, api.ErrThere},
		{"full: an earlier one", full, 50, 8, api.ErrStale},
		{"full: one too late", full, 50, 11, api.ErrGap},
		{"17 sessions: a new client", many(17), 55, 1, api.ErrArg},
		{"17 sessions: a new client's second one", many(17), 55, 2, api.ErrArg},
		{"17 sessions: one that was answered", many(17), 50, 9, api.ErrArg},
		{"17 sessions: an earlier one", many(17), 50, 8, api.ErrArg},
		{"17 sessions: one too late", many(17), 50, 11, api.ErrArg},
		{"wrong sessions: one that was answered", of(5, 1, 7, 4, 1, 7), 5, 1, api.ErrArg},
		{"wrong sessions: an earlier one", of(5, 3, 7, 4, 3, 7), 4, 2, api.ErrArg},
		{"wrong sessions: one too late", of(5, 3, 7, 4, 3, 7), 4, 5, api.ErrArg},
		{"wrong sessions: the next one", of(0, 3, 7, 4, 3, 7), 4, 4, api.ErrArg},
		{"wrong sessions: a wrong client's next one", of(0, 3, 7), 0, 4, api.ErrArg},
		{"wrong sessions: the same wrong Seq", of(4, 0, 7), 4, 0, api.ErrArg},
		{"wrong sessions: behind a wrong Seq", of(4, 0, 7), 4, 1, api.ErrArg},
	} {
		for _, answer := range []int{0, 7, -7} {
			got, err := Put(c.l, c.client, c.seq, answer)
			if got != nil || err != c.want {
				t.Errorf("%s: Put(%d, %d, %d) = %v, %d, want %d", c.name, c.client, c.seq, answer, got, err, c.want)
			}
		}
	}
}

func TestPutRefusesWrongSessions(t *testing.T) {
	for _, c := range lists {
		if c.valid {
			continue
		}
		for _, client := range append([]int{6, 170}, numbers...) {
			for seq := range 7 {
				if got, err := Put(c.l, client, seq, 7); got != nil || err != api.ErrArg {
					t.Errorf("%s: Put(%d, %d) = %v, %d", c.name, client, seq, got, err)
				}
			}
		}
	}
}

// In each place of each list a client that is there goes on, and one that
// isn't comes in, as long as there are fewer than 16.
func TestPutInEachPlace(t *testing.T) {
	for n := range 17 {
		l := many(n)
		for i := range n {
			want := with(l, i, api.Session{Client: 10 * (i + 1), Seq: i + 6, Answer: 77})
			if got := put(t, l, 10*(i+1), i+6, 77); !slices.Equal(got, want) {
				t.Errorf("of %d: Put of the client %d = %v", n, 10*(i+1), got)
			}
		}
		for i := range n + 1 {
			for _, client := range []int{10*i + 1, 10*i + 5, 10*i + 9} {
				got, err := Put(l, client, 1, 77)
				if n == 16 {
					if got != nil || err != api.ErrFull {
						t.Errorf("of 16: Put of the client %d = %v, %d", client, got, err)
					}
					continue
				}
				want := slices.Insert(slices.Clone(l), i, api.Session{Client: client, Seq: 1, Answer: 77})
				if !slices.Equal(got, want) || err != api.OK {
					t.Errorf("of %d: Put of the client %d = %v, %d", n, client, got, err)
				}
			}
		}
	}
}

// Clients come in whatever order they like, and the list is in theirs.
func TestPutInEachOrder(t *testing.T) {
	clients := []int{1, 2, 7, 500, lastClient}
	var come func(l []api.Session, left []int)
	come = func(l []api.Session, left []int) {
		if len(left) == 0 && !slices.Equal(l, of(1, 1, -1, 2, 1, -2, 7, 1, -7, 500, 1, -500, lastClient, 1, -lastClient)) {
			t.Fatalf("all of them are %v", l)
		}
		for i, client := range left {
			come(put(t, l, client, 1, -client), slices.Delete(slices.Clone(left), i, i+1))
		}
	}
	come(nil, clients)
}

// P9.1 and P9.2 by their words, for all numbers that turn.

func TestNumbersThatTurn(t *testing.T) {
	for _, c := range lists {
		var beside []int
		for _, s := range c.l {
			if c.valid {
				beside = append(beside, s.Client-1, s.Client, s.Client+1)
			}
		}
		for _, client := range append(beside, numbers...) {
			n := byClient(c.l)[client].Seq
			for _, seq := range append([]int{n - 1, n, n + 1, n + 2}, numbers...) {
				check(t, c.l, client, seq, 7)
			}
		}
	}
}

func TestSmallSessions(t *testing.T) {
	// Two sessions of these clients and Seqs, wrong ones among them, and all
	// that can be asked of them.
	few := []int{-1, 0, 1, 2, 3}
	for _, a := range few {
		for _, b := range few {
			for _, m := range few {
				for _, n := range few {
					for client := -1; client <= 4; client++ {
						for seq := -1; seq <= 5; seq++ {
							check(t, of(a, m, 8, b, n, 9), client, seq, 7)
							check(t, of(a, m, 8), client, seq, b)
						}
					}
				}
			}
		}
	}
}

// Each two errors that can apply at once do so at least once.
func TestSeveralErrors(t *testing.T) {
	seen := map[[2]api.Errno]bool{}
	for _, l := range [][]api.Session{of(50, 9, 7), many(16), many(17), of(50, 9, 7, 40, 9, 7), with(many(16), 0, api.Session{})} {
		for _, client := range []int{0, 50, 55, lastClient + 1} {
			for _, seq := range []int{0, 1, 8, 9, 10, 11, lastSeq + 1} {
				check(t, l, client, seq, 7)
				all := slowPutErrors(l, client, seq)
				for i, first := range all {
					for _, other := range all[i+1:] {
						seen[[2]api.Errno{first, other}] = true
					}
				}
			}
		}
	}
	for _, two := range [][2]api.Errno{
		{api.ErrArg, api.ErrStale}, {api.ErrArg, api.ErrGap}, {api.ErrArg, api.ErrThere}, {api.ErrArg, api.ErrFull},
		{api.ErrGap, api.ErrFull},
	} {
		if !seen[two] {
			t.Errorf("the errors %d and %d never apply at once", two[0], two[1])
		}
	}
}

// P9.3

func TestAnswersStay(t *testing.T) {
	r := rand.New(rand.NewPCG(9, 3))
	for range 300 {
		var l []api.Session
		answers := map[[2]int]int{}
		for range 200 {
			client, answer := 1+r.IntN(20), r.IntN(9)-4
			seq := max(1, byClient(l)[client].Seq+r.IntN(4)-1)
			check(t, l, client, seq, answer)
			next, err := Put(l, client, seq, answer)
			if err != api.OK {
				continue
			}
			if _, ok := answers[[2]int{client, seq}]; ok {
				t.Fatalf("the client %d's command %d was answered twice", client, seq)
			}
			answers[[2]int{client, seq}] = answer
			l = next
			for _, s := range l {
				if want, ok := answers[[2]int{s.Client, s.Seq}]; !ok || s.Answer != want {
					t.Fatalf("%v was never answered", s)
				}
			}
		}
	}
}

// A client asks again and again, also for what it had asked long before: what
// is executed by what Look tells is executed once, and in order (P4).
func TestEachCommandIsExecutedOnce(t *testing.T) {
	r := rand.New(rand.NewPCG(9, 4))
	for range 200 {
		var l []api.Session
		executed := map[int][]int{}
		for range 150 {
			client, seq := 1+r.IntN(3), 1+r.IntN(9)
			answer, ok, err := Look(l, client, seq)
			done := len(executed[client])
			switch {
			case ok && (seq != done || answer != 100*client+seq):
				t.Fatalf("Look(%d, %d) = %d, with %d executed", client, seq, answer, done)
			case err == api.ErrStale && seq >= done, err == api.ErrGap && seq <= done+1:
				t.Fatalf("Look(%d, %d): %d, with %d executed", client, seq, err, done)
			case err == api.OK && !ok:
				executed[client] = append(executed[client], seq)
				l = put(t, l, client, seq, 100*client+seq)
			}
		}
		for client, all := range executed {
			for i, seq := range all {
				if seq != i+1 {
					t.Fatalf("the client %d's commands were executed as %v", client, all)
				}
			}
		}
	}
}

// R3: the sessions stay as they are, and so does what lies behind them in the
// same memory; what Put answers is its caller's.

// roomy is l with room behind it, in which sessions stand, and a call that
// tells whether all of it is as it was.
func roomy(l []api.Session) ([]api.Session, func() bool) {
	whole := append(slices.Clone(l), of(91, 92, 93, 94, 95, 96, 97, 98, 99)...)
	kept := slices.Clone(whole)
	return whole[:len(l)], func() bool { return slices.Equal(whole, kept) }
}

func TestTheArgumentsStay(t *testing.T) {
	for _, c := range lists {
		l, stays := roomy(c.l)
		for _, client := range append([]int{15, 20, 160}, numbers...) {
			n := byClient(c.l)[client].Seq
			for _, seq := range []int{n - 1, n, n + 1, n + 2} {
				May(l)
				Look(l, client, seq)
				Put(l, client, seq, 7)
				if !stays() {
					t.Fatalf("%s: Put(%d, %d) changed the sessions", c.name, client, seq)
				}
			}
		}
	}
}

func TestTheResultsAreTheCallers(t *testing.T) {
	for n := range 16 {
		l, stays := roomy(many(n))
		for client := 1; client <= 10*n+11; client++ {
			seq := byClient(l)[client].Seq + 1
			a, b := put(t, l, client, seq, 7), put(t, l, client, seq, 7)
			want := slices.Clone(a)
			clear(a)
			_ = append(a, of(1, 2, 3)...)
			if !stays() || !slices.Equal(b, want) {
				t.Fatalf("of %d: what Put answered to %d is somebody else's, too", n, client)
			}
		}
	}
}

func TestPutKeepsNothing(t *testing.T) {
	l := many(3)
	got := put(t, l, 20, 7, 77)
	inserted := put(t, l, 25, 1, 78)
	clear(l)
	if want := of(10, 5, -1, 20, 7, 77, 30, 7, -3); !slices.Equal(got, want) {
		t.Errorf("the sessions are %v", got)
	}
	if want := of(10, 5, -1, 20, 6, -2, 25, 1, 78, 30, 7, -3); !slices.Equal(inserted, want) {
		t.Errorf("the sessions are %v", inserted)
	}
}

// R5: calls ahead change nothing.
func TestCallsAheadChangeNothing(t *testing.T) {
	l := many(16)
	for _, client := range numbers {
		for _, seq := range numbers {
			Put(l, client, seq, 1)
			Put(nil, client, seq, 2)
			Look(l, client, seq)
		}
	}
	if n, ok, err := Look(l, 50, 9); n != -5 || !ok || err != api.OK {
		t.Errorf("Look(50, 9) = %d, %v, %d", n, ok, err)
	}
	if n, ok, err := Look(nil, 1, 1); n != 0 || ok || err != api.OK {
		t.Errorf("Look(1, 1) = %d, %v, %d", n, ok, err)
	}
}

// P1: no sessions and no numbers make a call panic, or go on for long.

func TestVeryManySessions(t *testing.T) {
	l := many(1 << 20)
	if May(l) {
		t.Error("they may be")
	}
	if n, ok, err := Look(l, 50, 9); n != 0 || ok || err != api.ErrArg {
		t.Errorf("Look = %d, %v, %d", n, ok, err)
	}
	if got, err := Put(l, 50, 10, 7); got != nil || err != api.ErrArg {
		t.Errorf("Put = %d sessions, %d", len(got), err)
	}
}

func FuzzSessions(f *testing.F) {
	f.Add([]byte{}, 0, 1, 1, 1, 7)
	f.Add([]byte{1, 5, 7, 2, 4, 6}, 0, 0, 2, 5, 7)
	f.Add([]byte{1, 1, 7, 1, 1, 7}, lastClient-1, lastSeq-1, lastClient, lastSeq, 0)
	f.Add([]byte{9, 1, 7, 8, 1, 7}, -8, 0, 1, 2, least)
	f.Add([]byte{0, 0, 0}, least, greatest, greatest, least, greatest)
	f.Fuzz(func(t *testing.T, b []byte, addClient, addSeq, client, seq, answer int) {
		var l []api.Session
		for three := range slices.Chunk(b, 3) {
			if len(three) == 3 {
				l = append(l, api.Session{Client: addClient + int(three[0]), Seq: addSeq + int(three[1]), Answer: int(three[2]) - 128})
			}
		}
		check(t, l, client, seq, answer)
		// The same in their order, which more lists survive.
		sorted := inOrder(byClient(l))
		check(t, sorted, client, seq, answer)
		for _, s := range sorted {
			for more := -1; more <= 2; more++ {
				check(t, sorted, s.Client, s.Seq+more, answer)
			}
		}
	})
}
