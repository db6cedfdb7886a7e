package raft

import (
	"fmt"
	"math"
	"math/rand/v2"
	"reflect"
	"slices"
	"testing"

	"suture/api"
)

const (
	least    = math.MinInt
	greatest = math.MaxInt
)

// numbers are those at which something turns.
var numbers = []int{least, least + 1, -1 << 40, -2, -1, 0, 1, 2, 3, 4, 5, 15, 16, 17, 63, 64, 65,
	1<<30 - 1, 1 << 30, 1<<30 + 1, 1 << 32, 1<<40 - 1, 1 << 40, 1<<40 + 1, greatest - 1, greatest}

// row is entries of these terms, with commands that tell them apart.
func row(terms ...int) []api.Entry {
	var l []api.Entry
	for i, term := range terms {
		l = append(l, api.Entry{Term: term, Cmd: api.Cmd{Client: 1, Seq: i + 1, Kind: api.Write, A: term}})
	}
	return l
}

// logOf is a log of such entries.
func logOf(terms ...int) api.Log { return api.Log{L: row(terms...)} }

func times(n, term int) []int { return slices.Repeat([]int{term}, n) }

// own is the entry that a leader puts into its log by itself.
func own(term int) api.Entry { return api.Entry{Term: term} }

// The messages, with all that they have.

func plea(from, to, term, index, logTerm int) api.Msg {
	return api.Msg{Kind: api.AskVote, From: from, To: to, Term: term, Index: index, LogTerm: logTerm}
}

func voted(from, to, term int, yes bool) api.Msg {
	return api.Msg{Kind: api.SayVote, From: from, To: to, Term: term, Yes: yes}
}

func addition(from, to, term, index, logTerm, commit int, l ...api.Entry) api.Msg {
	return api.Msg{Kind: api.AskAdd, From: from, To: to, Term: term, Index: index, LogTerm: logTerm, Commit: commit, L: l}
}

func added(from, to, term int, yes bool, index int) api.Msg {
	return api.Msg{Kind: api.SayAdd, From: from, To: to, Term: term, Yes: yes, Index: index}
}

// sameEntries, sameMsg and sameMsgs let an empty slice be nil or not.
func sameEntries(a, b []api.Entry) bool {
	return len(a) == 0 && len(b) == 0 || reflect.DeepEqual(a, b)
}

func sameMsg(a, b api.Msg) bool {
	l, k := a.L, b.L
	a.L, b.L = nil, nil
	return reflect.DeepEqual(a, b) && sameEntries(l, k)
}

func sameMsgs(a, b []api.Msg) bool { return slices.EqualFunc(a, b, sameMsg) }

// state is all that a member tells of itself.
type state struct {
	role, settled int
	ballot        api.Ballot
	log           []api.Entry
}

func stateOf(m *Member) state {
	return state{role: m.Role(), settled: m.Settled(), ballot: m.Ballot(), log: m.Log().L}
}

func (s state) same(o state) bool {
	return s.role == o.role && s.settled == o.settled && s.ballot == o.ballot && sameEntries(s.log, o.log)
}

func wantState(t *testing.T, m *Member, want state) {
	t.Helper()
	if got := stateOf(m); !got.same(want) {
		t.Errorf("the member has %+v, want %+v", got, want)
	}
	if l := m.Log(); l.Base != 0 || l.BaseTerm != 0 {
		t.Errorf("the log has the Base %d of the term %d", l.Base, l.BaseTerm)
	}
}

func wantMsgs(t *testing.T, got []api.Msg, want ...api.Msg) {
	t.Helper()
	if !sameMsgs(got, want) {
		t.Errorf("said %+v, want %+v", got, want)
	}
}

func begin(t testing.TB, id, many int, b api.Ballot, l api.Log) *Member {
	t.Helper()
	m, err := New(id, many, b, l)
	if err != api.OK || m == nil {
		t.Fatalf("New(%d, %d, %v, %v): %v", id, many, b, l, err)
	}
	return m
}

// candidate is a member behind its timeout.
func candidate(t testing.TB, id, many int, b api.Ballot, l api.Log) *Member {
	t.Helper()
	m := begin(t, id, many, b, l)
	m.Timeout()
	return m
}

// leader is a member for which all others voted, and what it said at last.
func leader(t testing.TB, id, many int, b api.Ballot, l api.Log) (*Member, []api.Msg) {
	t.Helper()
	m := begin(t, id, many, b, l)
	said := m.Timeout()
	for from := 1; from <= many && m.Role() != api.Leader; from++ {
		if from != id {
			said = m.Hear(voted(from, id, b.Term+1, true))
		}
	}
	if m.Role() != api.Leader {
		t.Fatalf("the member %d of %d has no lead", id, many)
	}
	return m, said
}

// P7.1

func TestNew(t *testing.T) {
	for _, c := range []struct {
		name     string
		id, many int
		b        api.Ballot
		l        api.Log
	}{
		{"a group of one", 1, 1, api.Ballot{}, api.Log{}},
		{"the first of three", 1, 3, api.Ballot{}, api.Log{}},
		{"the last of three", 3, 3, api.Ballot{}, api.Log{}},
		{"the last of 16", 16, 16, api.Ballot{}, api.Log{}},
		{"a slice of no entries", 1, 3, api.Ballot{}, api.Log{L: []api.Entry{}}},
		{"a term", 1, 3, api.Ballot{Term: 4}, api.Log{}},
		{"a vote", 1, 3, api.Ballot{Term: 4, Vote: 2}, api.Log{}},
		{"a vote for itself", 1, 3, api.Ballot{Term: 4, Vote: 1}, api.Log{}},
		{"a vote for one of a greater group", 1, 3, api.Ballot{Term: 4, Vote: 16}, api.Log{}},
		{"a vote in the term 0", 1, 3, api.Ballot{Vote: 2}, api.Log{}},
		{"entries of earlier terms", 1, 3, api.Ballot{Term: 4}, logOf(1, 1, 3)},
		{"an entry of the ballot's term", 1, 3, api.Ballot{Term: 4, Vote: 2}, logOf(1, 1, 4)},
		{"the greatest term", 2, 3, api.Ballot{Term: 1 << 30, Vote: 3}, logOf(1, 1<<30)},
		{"64 entries", 2, 3, api.Ballot{Term: 2}, logOf(times(64, 2)...)},
	} {
		t.Run(c.name, func(t *testing.T) {
			m := begin(t, c.id, c.many, c.b, c.l)
			wantState(t, m, state{role: api.Follower, ballot: c.b, log: c.l.L})
			wantMsgs(t, m.Hear(plea(c.id, c.id, 1<<30, 99, 1<<30)))
			wantState(t, m, state{role: api.Follower, ballot: c.b, log: c.l.L})
		})
	}
}

func TestNewKnowsItsNumberAndItsGroup(t *testing.T) {
	for many := 1; many <= 16; many++ {
		for id := 1; id <= many; id++ {
			m := begin(t, id, many, api.Ballot{Term: 6}, api.Log{})
			var want []api.Msg
			for to := 1; to <= many; to++ {
				if to != id {
					want = append(want, plea(id, to, 7, 0, 0))
				}
			}
			wantMsgs(t, m.Timeout(), want...)
		}
	}
}

func TestNewRefuses(t *testing.T) {
	good := api.Ballot{Term: 4, Vote: 2}
	for _, c := range []struct {
		name     string
		id, many int
		b        api.Ballot
		l        api.Log
	}{
		{"no members", 1, 0, good, api.Log{}},
		{"no members, and the number 0", 0, 0, good, api.Log{}},
		{"less than no members", -1, -1, good, api.Log{}},
		{"17 members", 1, 17, good, api.Log{}},
		{"the number 0", 0, 3, good, api.Log{}},
		{"a negative number", -1, 3, good, api.Log{}},
		{"a number behind the last one", 4, 3, good, api.Log{}},
		{"the number 2 of one", 2, 1, good, api.Log{}},
		{"the number 17 of 16", 17, 16, good, api.Log{}},
		{"a negative term", 1, 3, api.Ballot{Term: -1}, api.Log{}},
		{"a term too great", 1, 3, api.Ballot{Term: 1<<30 + 1}, api.Log{}},
		{"a negative vote", 1, 3, api.Ballot{Term: 4, Vote: -1}, api.Log{}},
		{"a vote for 17", 1, 3, api.Ballot{Term: 4, Vote: 17}, api.Log{}},
		{"terms that decrease", 1, 3, good, logOf(2, 1)},
		{"an entry of the term 0", 1, 3, good, logOf(0, 1)},
		{"an entry of a negative term", 1, 3, good, logOf(-1)},
		{"65 entries", 1, 3, good, logOf(times(65, 2)...)},
		{"a term too great in the log, and in the ballot", 1, 3, api.Ballot{Term: 1<<30 + 1}, logOf(1<<30 + 1)},
		{"a Base", 1, 3, good, api.Log{Base: 5, BaseTerm: 3}},
		{"a Base, and entries", 1, 3, good, api.Log{Base: 1, BaseTerm: 1, L: row(2, 3)}},
		{"a Base of the term 0", 1, 3, good, api.Log{Base: 5}},
		{"a negative Base", 1, 3, good, api.Log{Base: -1, L: row(1)}},
		{"a term at Base 0", 1, 3, good, api.Log{BaseTerm: 1, L: row(1)}},
		{"an entry of a later term than the ballot", 1, 3, good, logOf(1, 5)},
		{"an entry, and a ballot of no term", 1, 3, api.Ballot{}, logOf(1)},
		{"a later term by far", 1, 3, good, logOf(1 << 30)},
		{"a Base of a later term", 1, 3, good, api.Log{Base: 5, BaseTerm: 5}},
		{"all at once", 9, 0, api.Ballot{Term: -1, Vote: 17}, api.Log{Base: 3, BaseTerm: 9, L: row(2, 1)}},
	} {
		t.Run(c.name, func(t *testing.T) {
			if m, err := New(c.id, c.many, c.b, c.l); m != nil || err != api.ErrArg {
				t.Errorf("got %v, %v, want nil, %v", m, err, api.ErrArg)
			}
		})
	}
}

func TestNewLooksAtNumbers(t *testing.T) {
	for _, many := range numbers {
		for _, id := range numbers {
			m, err := New(id, many, api.Ballot{}, api.Log{})
			may := 1 <= id && id <= many && many <= 16
			if may != (err == api.OK) || may != (m != nil) || !may && err != api.ErrArg {
				t.Errorf("New(%d, %d): %v, %v", id, many, m, err)
			}
		}
	}
	for _, term := range numbers {
		for _, n := range numbers {
			_, err := New(1, 3, api.Ballot{Term: term, Vote: n}, api.Log{})
			may := 0 <= term && term <= 1<<30 && 0 <= n && n <= 16
			if may != (err == api.OK) {
				t.Errorf("the ballot %d, %d: %v", term, n, err)
			}
			_, err = New(1, 3, api.Ballot{Term: term}, logOf(n))
			may = 1 <= n && n <= term && term <= 1<<30
			if may != (err == api.OK) {
				t.Errorf("the ballot's term %d, the entry's %d: %v", term, n, err)
			}
			_, err = New(1, 3, api.Ballot{Term: 1 << 30}, api.Log{Base: term, BaseTerm: n})
			if (term == 0 && n == 0) != (err == api.OK) {
				t.Errorf("the Base %d of the term %d: %v", term, n, err)
			}
		}
	}
}

// P7.2

func TestTimeoutOfOne(t *testing.T) {
	m := begin(t, 1, 1, api.Ballot{}, api.Log{})
	wantMsgs(t, m.Timeout())
	wantState(t, m, state{role: api.Leader, settled: 1, ballot: api.Ballot{Term: 1, Vote: 1}, log: []api.Entry{own(1)}})
	wantMsgs(t, m.Timeout())
	wantState(t, m, state{role: api.Leader, settled: 1, ballot: api.Ballot{Term: 1, Vote: 1}, log: []api.Entry{own(1)}})
}

func TestTimeoutOfOneWithALog(t *testing.T) {
	for _, c := range []struct {
		name    string
		term    int
		terms   []int
		settled int
		more    bool // whether it puts an entry of its own behind
	}{
		{"an earlier term", 1, []int{1}, 2, true},
		{"earlier terms", 5, []int{1, 1, 3, 5}, 5, true},
		{"62 entries", 3, times(62, 3), 63, true},
		{"63 entries", 3, times(63, 3), 64, true},
		{"64 entries: none of them is of its term", 3, times(64, 3), 0, false},
		{"the last term but one", 1<<30 - 1, []int{1, 1<<30 - 1}, 3, true},
	} {
		t.Run(c.name, func(t *testing.T) {
			m := begin(t, 1, 1, api.Ballot{Term: c.term, Vote: 1}, logOf(c.terms...))
			wantMsgs(t, m.Timeout())
			l := row(c.terms...)
			if c.more {
				l = append(l, own(c.term+1))
			}
			wantState(t, m, state{role: api.Leader, settled: c.settled, ballot: api.Ballot{Term: c.term + 1, Vote: 1}, log: l})
		})
	}
}

func TestTimeoutAsksForVotes(t *testing.T) {
	l := logOf(1, 1, 3)
	m := begin(t, 2, 3, api.Ballot{Term: 4, Vote: 3}, l)
	wantMsgs(t, m.Timeout(), plea(2, 1, 5, 3, 3), plea(2, 3, 5, 3, 3))
	wantState(t, m, state{role: api.Candidate, ballot: api.Ballot{Term: 5, Vote: 2}, log: l.L})
	// Once more: the term goes on.
	wantMsgs(t, m.Timeout(), plea(2, 1, 6, 3, 3), plea(2, 3, 6, 3, 3))
	wantState(t, m, state{role: api.Candidate, ballot: api.Ballot{Term: 6, Vote: 2}, log: l.L})
}

func TestTimeoutOfTwoNeedsAVote(t *testing.T) {
	m := begin(t, 1, 2, api.Ballot{}, api.Log{})
	wantMsgs(t, m.Timeout(), plea(1, 2, 1, 0, 0))
	wantState(t, m, state{role: api.Candidate, ballot: api.Ballot{Term: 1, Vote: 1}})
}

func TestTimeoutForgetsTheVotes(t *testing.T) {
	m := candidate(t, 1, 5, api.Ballot{}, api.Log{})
	m.Hear(voted(2, 1, 1, true))
	m.Timeout()
	wantMsgs(t, m.Hear(voted(3, 1, 2, true)))
	if m.Role() != api.Candidate {
		t.Error("a vote of the term before counted")
	}
	m.Hear(voted(2, 1, 2, true))
	if m.Role() != api.Leader {
		t.Error("three of five don't do")
	}
}

func TestTimeoutOfALeader(t *testing.T) {
	m, _ := leader(t, 2, 3, api.Ballot{Term: 4}, logOf(1, 4))
	was := stateOf(m)
	wantMsgs(t, m.Timeout())
	wantState(t, m, was)
	// It goes on to lead.
	wantMsgs(t, m.Beat(), addition(2, 1, 5, 2, 4, 0, own(5)), addition(2, 3, 5, 2, 4, 0, own(5)))
}

func TestTimeoutAtTheLastTerm(t *testing.T) {
	for many := 1; many <= 3; many++ {
		m := begin(t, 1, many, api.Ballot{Term: 1 << 30}, logOf(1))
		wantMsgs(t, m.Timeout())
		wantState(t, m, state{role: api.Follower, ballot: api.Ballot{Term: 1 << 30}, log: row(1)})
	}
	m := begin(t, 1, 3, api.Ballot{Term: 1<<30 - 1, Vote: 3}, logOf(1))
	wantMsgs(t, m.Timeout(), plea(1, 2, 1<<30, 1, 1), plea(1, 3, 1<<30, 1, 1))
	was := state{role: api.Candidate, ballot: api.Ballot{Term: 1 << 30, Vote: 1}, log: row(1)}
	wantState(t, m, was)
	wantMsgs(t, m.Timeout())
	wantState(t, m, was)
	// It still has its vote for itself.
	wantMsgs(t, m.Hear(voted(2, 1, 1<<30, true)),
		addition(1, 2, 1<<30, 1, 1, 0, own(1<<30)), addition(1, 3, 1<<30, 1, 1, 0, own(1<<30)))
}

func TestTimeoutOfAFollowerOfALeader(t *testing.T) {
	m := begin(t, 3, 3, api.Ballot{}, api.Log{})
	m.Hear(addition(1, 3, 2, 0, 0, 1, row(1, 2)...))
	wantMsgs(t, m.Timeout(), plea(3, 1, 3, 2, 2), plea(3, 2, 3, 2, 2))
	wantState(t, m, state{role: api.Candidate, settled: 1, ballot: api.Ballot{Term: 3, Vote: 3}, log: row(1, 2)})
}

// P7.3

func TestBeatOfAllRoles(t *testing.T) {
	m := begin(t, 1, 3, api.Ballot{Term: 1}, logOf(1))
	was := stateOf(m)
	wantMsgs(t, m.Beat())
	wantState(t, m, was)
	m.Timeout()
	was = stateOf(m)
	wantMsgs(t, m.Beat())
	wantState(t, m, was)
	m.Hear(voted(3, 1, 2, true))
	was = stateOf(m)
	wantMsgs(t, m.Beat(), addition(1, 2, 2, 1, 1, 0, own(2)), addition(1, 3, 2, 1, 1, 0, own(2)))
	wantState(t, m, was)
	m.Hear(voted(3, 1, 3, true))
	wantMsgs(t, m.Beat())
	one, _ := leader(t, 1, 1, api.Ballot{}, api.Log{})
	wantMsgs(t, one.Beat())
}

func TestBeatTellsWhatEachMemberNeeds(t *testing.T) {
	m, _ := leader(t, 2, 4, api.Ballot{Term: 3}, logOf(1, 1, 2, 2, 2, 2, 2, 3, 3, 3))
	all := m.Log().L
	m.Hear(added(1, 2, 4, true, 11))
	m.Hear(added(3, 2, 4, false, 0))
	wantMsgs(t, m.Beat(),
		addition(2, 1, 4, 11, 4, 0),
		addition(2, 3, 4, 0, 0, 0, all[:8]...),
		addition(2, 4, 4, 10, 3, 0, own(4)))
	m.Hear(added(4, 2, 4, true, 2))
	m.Hear(added(3, 2, 4, true, 11))
	wantMsgs(t, m.Beat(),
		addition(2, 1, 4, 11, 4, 11),
		addition(2, 3, 4, 11, 4, 11),
		addition(2, 4, 4, 2, 1, 11, all[2:10]...))
}

func TestAdditionsHaveAtMostEight(t *testing.T) {
	for n := range 20 {
		m, _ := leader(t, 1, 3, api.Ballot{Term: 1}, logOf(times(n, 1)...))
		l := m.Log().L
		said := m.Hear(added(2, 1, 2, false, -1))
		wantMsgs(t, said, addition(1, 2, 2, 0, 0, 0, l[:min(8, len(l))]...))
	}
}

func TestPropose(t *testing.T) {
	m, _ := leader(t, 1, 3, api.Ballot{}, api.Log{})
	c := api.Cmd{Client: 3, Seq: 7, Kind: api.Claim, A: 1, B: 2, C: 3}
	index, said, err := m.Propose(c)
	l := []api.Entry{own(1), {Term: 1, Cmd: c}}
	if index != 2 || err != api.OK {
		t.Errorf("got %d, %v", index, err)
	}
	wantMsgs(t, said, addition(1, 2, 1, 0, 0, 0, l...), addition(1, 3, 1, 0, 0, 0, l...))
	wantState(t, m, state{role: api.Leader, ballot: api.Ballot{Term: 1, Vote: 1}, log: l})
	// One more has them: the additions tell it.
	m.Hear(added(3, 1, 1, true, 2))
	index, said, err = m.Propose(api.Cmd{A: -1})
	l = append(l, api.Entry{Term: 1, Cmd: api.Cmd{A: -1}})
	if index != 3 || err != api.OK {
		t.Errorf("got %d, %v", index, err)
	}
	wantMsgs(t, said, addition(1, 2, 1, 0, 0, 2, l...), addition(1, 3, 1, 2, 1, 2, l[2]))
	wantState(t, m, state{role: api.Leader, settled: 2, ballot: api.Ballot{Term: 1, Vote: 1}, log: l})
}

func TestProposeOfOne(t *testing.T) {
	m, _ := leader(t, 1, 1, api.Ballot{}, api.Log{})
	l := []api.Entry{own(1)}
	for i := 2; i <= 64; i++ {
		c := api.Cmd{Client: i, Seq: greatest, Kind: least, A: -1}
		index, said, err := m.Propose(c)
		if index != i || len(said) != 0 || err != api.OK {
			t.Fatalf("got %d, %v, %v, want %d", index, said, err, i)
		}
		l = append(l, api.Entry{Term: 1, Cmd: c})
		wantState(t, m, state{role: api.Leader, settled: i, ballot: api.Ballot{Term: 1, Vote: 1}, log: l})
	}
	index, said, err := m.Propose(api.Cmd{})
	if index != 0 || said != nil || err != api.ErrFull {
		t.Errorf("got %d, %v, %v behind 64 entries", index, said, err)
	}
	wantState(t, m, state{role: api.Leader, settled: 64, ballot: api.Ballot{Term: 1, Vote: 1}, log: l})
}

func TestProposeRefuses(t *testing.T) {
	few, full, nearly := logOf(1), logOf(times(64, 1)...), logOf(times(63, 1)...)
	b := api.Ballot{Term: 1}
	lead := func(l api.Log) *Member { m, _ := leader(t, 1, 3, b, l); return m }
	for _, c := range []struct {
		name string
		m    *Member
		want api.Errno
	}{
		{"a follower", begin(t, 1, 3, b, few), api.ErrState},
		{"a follower, and a full log", begin(t, 1, 3, b, full), api.ErrState},
		{"a candidate", candidate(t, 1, 3, b, few), api.ErrState},
		{"a candidate, and a full log", candidate(t, 1, 3, b, full), api.ErrState},
		{"a leader with a full log", lead(full), api.ErrFull},
		{"a leader whose own entry filled the log", lead(nearly), api.ErrFull},
	} {
		t.Run(c.name, func(t *testing.T) {
			was := stateOf(c.m)
			index, said, err := c.m.Propose(api.Cmd{Client: 1, Seq: 1})
			if index != 0 || said != nil || err != c.want {
				t.Errorf("got %d, %v, %v, want %v", index, said, err, c.want)
			}
			wantState(t, c.m, was)
		})
	}
	m := lead(logOf(times(62, 1)...))
	if index, _, err := m.Propose(api.Cmd{}); index != 64 || err != api.OK {
		t.Errorf("the 64th entry: %d, %v", index, err)
	}
	if _, _, err := m.Propose(api.Cmd{}); err != api.ErrFull {
		t.Errorf("the 65th entry: %v", err)
	}
}

func TestProposeOfTwoWaitsForTheOther(t *testing.T) {
	m, _ := leader(t, 2, 2, api.Ballot{}, api.Log{})
	m.Propose(api.Cmd{A: 1})
	m.Propose(api.Cmd{A: 2})
	if m.Settled() != 0 {
		t.Errorf("settled %d alone", m.Settled())
	}
	m.Hear(added(1, 2, 1, true, 2))
	if m.Settled() != 2 {
		t.Errorf("settled %d, want 2", m.Settled())
	}
	if _, said, _ := m.Propose(api.Cmd{A: 3}); len(said) != 1 || said[0].Commit != 2 {
		t.Errorf("said %v", said)
	}
	// Its own Match goes on: the other one's alone would not do.
	m.Hear(added(1, 2, 1, true, 4))
	if m.Settled() != 4 {
		t.Errorf("settled %d, want 4", m.Settled())
	}
}

// P7.4

// spoilt is a good message with one thing or several that must not be.
var spoilt = []struct {
	name  string
	spoil func(x *api.Msg)
}{
	{"To is nobody", func(x *api.Msg) { x.To = 0 }},
	{"To is another one", func(x *api.Msg) { x.To = 3 }},
	{"To is none of the group", func(x *api.Msg) { x.To = 6 }},
	{"To is negative", func(x *api.Msg) { x.To = -2 }},
	{"From is this one", func(x *api.Msg) { x.From = 2 }},
	{"From is nobody", func(x *api.Msg) { x.From = 0 }},
	{"From is negative", func(x *api.Msg) { x.From = -1 }},
	{"From is behind the last one", func(x *api.Msg) { x.From = 6 }},
	{"From is 16", func(x *api.Msg) { x.From = 16 }},
	{"From is the least number", func(x *api.Msg) { x.From = least }},
	{"From is the greatest number", func(x *api.Msg) { x.From = greatest }},
	{"Term is 0", func(x *api.Msg) { x.Term = 0 }},
	{"Term is negative", func(x *api.Msg) { x.Term = -1 }},
	{"Term is too great", func(x *api.Msg) { x.Term = 1<<30 + 1 }},
	{"Term is the greatest number", func(x *api.Msg) { x.Term = greatest }},
	{"Term is the least number", func(x *api.Msg) { x.Term = least }},
	{"Kind is -1", func(x *api.Msg) { x.Kind = -1 }},
	{"Kind is 4", func(x *api.Msg) { x.Kind = 4 }},
	{"Kind is the greatest number", func(x *api.Msg) { x.Kind = greatest }},
	{"Kind is 4, in a later term", func(x *api.Msg) { x.Kind, x.Term = 4, 9 }},
	{"To is another one, in a later term", func(x *api.Msg) { x.To, x.Term = 1, 9 }},
	{"From is this one, in a later term", func(x *api.Msg) { x.From, x.Term = 2, 9 }},
	{"From is behind the last one, in a later term", func(x *api.Msg) { x.From, x.Term = 6, 9 }},
	{"To and From are changed over", func(x *api.Msg) { x.From, x.To = 2, 1 }},
	{"all at once", func(x *api.Msg) { x.Kind, x.From, x.To, x.Term = 7, 2, 0, -1 }},
}

func TestHearRefuses(t *testing.T) {
	b := api.Ballot{Term: 4}
	for kind := range 4 {
		for _, c := range spoilt {
			for role := range 3 {
				m := begin(t, 2, 5, b, logOf(1, 4))
				if role == api.Candidate {
					m = candidate(t, 2, 5, b, logOf(1, 4))
				} else if role == api.Leader {
					m, _ = leader(t, 2, 5, b, logOf(1, 4))
				}
				x := api.Msg{Kind: kind, From: 1, To: 2, Term: m.Ballot().Term, Index: 2, LogTerm: 4, Commit: 2, Yes: true}
				c.spoil(&x)
				was, beat := stateOf(m), m.Beat()
				if said := m.Hear(x); len(said) != 0 {
					t.Errorf("%s, the kind %d, the role %d: said %+v", c.name, kind, role, said)
				}
				if got := stateOf(m); !got.same(was) || !sameMsgs(m.Beat(), beat) {
					t.Errorf("%s, the kind %d, the role %d: now %+v, it was %+v", c.name, kind, role, got, was)
				}
			}
		}
	}
}

func TestHearLooksAtNumbers(t *testing.T) {
	for _, n := range numbers {
		for _, c := range []struct {
			name string
			x    api.Msg
			may  bool
		}{
			{"To", api.Msg{Kind: api.AskVote, From: 1, To: n, Term: 6}, n == 2},
			{"From", api.Msg{Kind: api.AskVote, From: n, To: 2, Term: 6}, n == 1 || 3 <= n && n <= 5},
			{"Term", api.Msg{Kind: api.AskVote, From: 1, To: 2, Term: n}, 1 <= n && n <= 1<<30},
			{"Kind", api.Msg{Kind: n, From: 1, To: 2, Term: 6}, 0 <= n && n <= 3},
		} {
			m := begin(t, 2, 5, api.Ballot{Term: 5}, api.Log{})
			said := m.Hear(c.x)
			if !c.may && (len(said) != 0 || m.Ballot().Term != 5) {
				t.Errorf("%s %d: said %+v", c.name, n, said)
			}
			if c.may && c.name != "Kind" && len(said) != 1 {
				t.Errorf("%s %d: said %+v", c.name, n, said)
			}
			if c.may && m.Ballot().Term != max(5, c.x.Term) {
				t.Errorf("%s %d: the term is %d", c.name, n, m.Ballot().Term)
			}
		}
	}
}

func TestALaterTermMakesAFollower(t *testing.T) {
	b := api.Ballot{Term: 4, Vote: 2}
	for kind := range 4 {
		for role := range 3 {
			m := begin(t, 2, 5, b, logOf(1, 4))
			if role == api.Candidate {
				m = candidate(t, 2, 5, b, logOf(1, 4))
			} else if role == api.Leader {
				m, _ = leader(t, 2, 5, b, logOf(1, 4))
			}
			l := m.Log().L
			// An old log: the vote isn't given, and nothing can be added.
			x := api.Msg{Kind: kind, From: 3, To: 2, Term: 1 << 30, Index: 9, LogTerm: 1, Yes: true}
			said := m.Hear(x)
			wantState(t, m, state{role: api.Follower, ballot: api.Ballot{Term: 1 << 30}, log: l})
			switch kind {
			case api.AskVote:
				wantMsgs(t, said, voted(2, 3, 1<<30, false))
			case api.AskAdd:
				wantMsgs(t, said, added(2, 3, 1<<30, false, len(l)))
			default:
				wantMsgs(t, said)
			}
			wantMsgs(t, m.Beat())
		}
	}
}

func TestAskVote(t *testing.T) {
	old := api.Ballot{Term: 4}
	for _, c := range []struct {
		name string
		b    api.Ballot
		x    api.Msg
		want api.Ballot
		yes  bool
	}{
		{"nobody has the vote", old, plea(1, 2, 4, 3, 3), api.Ballot{Term: 4, Vote: 1}, true},
		{"a later term", old, plea(1, 2, 5, 3, 3), api.Ballot{Term: 5, Vote: 1}, true},
		{"a later term behind a vote", api.Ballot{Term: 4, Vote: 3}, plea(1, 2, 5, 3, 3), api.Ballot{Term: 5, Vote: 1}, true},
		{"the last term", old, plea(1, 2, 1<<30, 3, 3), api.Ballot{Term: 1 << 30, Vote: 1}, true},
		{"once more", api.Ballot{Term: 4, Vote: 1}, plea(1, 2, 4, 3, 3), api.Ballot{Term: 4, Vote: 1}, true},
		{"another one has the vote", api.Ballot{Term: 4, Vote: 3}, plea(1, 2, 4, 9, 9), api.Ballot{Term: 4, Vote: 3}, false},
		{"an earlier term", old, plea(1, 2, 3, 9, 9), old, false},
		{"an earlier term, and the vote in this one", api.Ballot{Term: 4, Vote: 1}, plea(1, 2, 3, 9, 9), api.Ballot{Term: 4, Vote: 1}, false},
		{"a longer log", old, plea(1, 2, 4, 4, 3), api.Ballot{Term: 4, Vote: 1}, true},
		{"a shorter log", old, plea(1, 2, 4, 2, 3), old, false},
		{"a shorter log of a later term", old, plea(1, 2, 4, 1, 4), api.Ballot{Term: 4, Vote: 1}, true},
		{"a longer log of an earlier term", old, plea(1, 2, 4, 64, 2), old, false},
		{"an older log in a later term", old, plea(1, 2, 9, 2, 3), api.Ballot{Term: 9}, false},
		{"the least numbers", old, plea(1, 2, 4, least, least), old, false},
		{"the greatest numbers", old, plea(1, 2, 4, greatest, greatest), api.Ballot{Term: 4, Vote: 1}, true},
	} {
		t.Run(c.name, func(t *testing.T) {
			m := begin(t, 2, 5, c.b, logOf(1, 1, 3))
			wantMsgs(t, m.Hear(c.x), voted(2, 1, c.want.Term, c.yes))
			wantState(t, m, state{role: api.Follower, ballot: c.want, log: row(1, 1, 3)})
		})
	}
}

func TestOneWhoWantsVotesHasGivenItsOwn(t *testing.T) {
	m := candidate(t, 2, 3, api.Ballot{Term: 4}, logOf(1))
	wantMsgs(t, m.Hear(plea(1, 2, 5, 9, 4)), voted(2, 1, 5, false))
	wantState(t, m, state{role: api.Candidate, ballot: api.Ballot{Term: 5, Vote: 2}, log: row(1)})
	wantMsgs(t, m.Hear(plea(1, 2, 4, 9, 4)), voted(2, 1, 5, false))
	m.Hear(voted(3, 2, 5, true))
	l := append(row(1), own(5))
	wantMsgs(t, m.Hear(plea(1, 2, 5, 9, 4)), voted(2, 1, 5, false))
	wantState(t, m, state{role: api.Leader, ballot: api.Ballot{Term: 5, Vote: 2}, log: l})
	// But in a later term either gives it.
	wantMsgs(t, m.Hear(plea(1, 2, 6, 9, 5)), voted(2, 1, 6, true))
	wantState(t, m, state{role: api.Follower, ballot: api.Ballot{Term: 6, Vote: 1}, log: l})
	m.Timeout()
	wantMsgs(t, m.Hear(plea(3, 2, 8, 9, 5)), voted(2, 3, 8, true))
	wantState(t, m, state{role: api.Follower, ballot: api.Ballot{Term: 8, Vote: 3}, log: l})
}

func TestSayVoteCounts(t *testing.T) {
	for many := 2; many <= 16; many++ {
		m := candidate(t, 1, many, api.Ballot{}, api.Log{})
		for from := 2; from <= many; from++ {
			votes := from // with its own
			said := m.Hear(voted(from, 1, 1, true))
			if leads := 2*votes > many; leads != (m.Role() == api.Leader) {
				t.Fatalf("%d votes of %d: the role %d", votes, many, m.Role())
			} else if !leads && len(said) != 0 {
				t.Fatalf("%d votes of %d: said %v", votes, many, said)
			} else if leads {
				break
			}
		}
		if len(m.Log().L) != 1 {
			t.Errorf("of %d members: the log %v", many, m.Log())
		}
	}
}

func TestSayVoteThatDoesNotCount(t *testing.T) {
	for _, c := range []struct {
		name string
		x    api.Msg
	}{
		{"no", voted(3, 2, 5, false)},
		{"of an earlier term", voted(3, 2, 4, true)},
		{"of the first term", voted(3, 2, 1, true)},
		{"no, of an earlier term", voted(3, 2, 4, false)},
		{"the one who voted already", voted(4, 2, 5, true)},
	} {
		t.Run(c.name, func(t *testing.T) {
			m := candidate(t, 2, 5, api.Ballot{Term: 4}, logOf(1))
			m.Hear(voted(4, 2, 5, true))
			was := stateOf(m)
			wantMsgs(t, m.Hear(c.x))
			wantState(t, m, was)
			// Only the third vote, from another one, makes it the leader.
			m.Hear(voted(1, 2, 5, true))
			if m.Role() != api.Leader {
				t.Error("three of five don't do")
			}
		})
	}
}

func TestSayVoteOfALaterTerm(t *testing.T) {
	m := candidate(t, 2, 3, api.Ballot{Term: 4}, logOf(1))
	wantMsgs(t, m.Hear(voted(3, 2, 6, true)))
	wantState(t, m, state{role: api.Follower, ballot: api.Ballot{Term: 6}, log: row(1)})
}

func TestSayVoteIsOfNoUseToOtherRoles(t *testing.T) {
	m := begin(t, 2, 3, api.Ballot{Term: 5, Vote: 2}, logOf(1))
	wantMsgs(t, m.Hear(voted(3, 2, 5, true)))
	wantMsgs(t, m.Hear(voted(1, 2, 5, true)))
	wantState(t, m, state{role: api.Follower, ballot: api.Ballot{Term: 5, Vote: 2}, log: row(1)})
	m, _ = leader(t, 2, 3, api.Ballot{Term: 5}, logOf(1))
	m.Hear(added(1, 2, 6, true, 2))
	was := stateOf(m)
	wantMsgs(t, m.Hear(voted(3, 2, 6, true)))
	wantState(t, m, was)
	// What it knows of the others stays: it doesn't become leader anew.
	wantMsgs(t, m.Beat(), addition(2, 1, 6, 2, 6, 2), addition(2, 3, 6, 1, 1, 2, own(6)))
}

func TestToBecomeLeader(t *testing.T) {
	l := logOf(1, 1, 3)
	m, said := leader(t, 2, 3, api.Ballot{Term: 4}, l)
	wantMsgs(t, said, addition(2, 1, 5, 3, 3, 0, own(5)), addition(2, 3, 5, 3, 3, 0, own(5)))
	wantState(t, m, state{role: api.Leader, ballot: api.Ballot{Term: 5, Vote: 2}, log: append(l.L, own(5))})
}

func TestToBecomeLeaderWithAFullLog(t *testing.T) {
	l := logOf(times(63, 2)...)
	m, said := leader(t, 1, 2, api.Ballot{Term: 4}, l)
	wantMsgs(t, said, addition(1, 2, 5, 63, 2, 0, own(5)))
	wantState(t, m, state{role: api.Leader, ballot: api.Ballot{Term: 5, Vote: 1}, log: append(l.L, own(5))})
	l = logOf(times(64, 2)...)
	m, said = leader(t, 1, 2, api.Ballot{Term: 4}, l)
	wantMsgs(t, said, addition(1, 2, 5, 64, 2, 0))
	wantState(t, m, state{role: api.Leader, ballot: api.Ballot{Term: 5, Vote: 1}, log: l.L})
	// Nothing of it can be settled: it is of an earlier term.
	m.Hear(added(2, 1, 5, true, 64))
	wantState(t, m, state{role: api.Leader, ballot: api.Ballot{Term: 5, Vote: 1}, log: l.L})
}

func TestToBecomeLeaderTellsWhatIsSettled(t *testing.T) {
	m := begin(t, 2, 3, api.Ballot{}, api.Log{})
	m.Hear(addition(1, 2, 3, 0, 0, 2, row(1, 2, 3)...))
	m.Timeout()
	wantMsgs(t, m.Hear(voted(3, 2, 4, true)),
		addition(2, 1, 4, 3, 3, 2, own(4)), addition(2, 3, 4, 3, 3, 2, own(4)))
	wantState(t, m, state{role: api.Leader, settled: 2, ballot: api.Ballot{Term: 4, Vote: 2}, log: append(row(1, 2, 3), own(4))})
}

func TestToBecomeLeaderAgainForgetsTheMatches(t *testing.T) {
	m, _ := leader(t, 1, 3, api.Ballot{}, api.Log{})
	m.Propose(api.Cmd{A: 1})
	m.Propose(api.Cmd{A: 2})
	m.Hear(added(2, 1, 1, true, 1))
	m.Hear(added(3, 1, 1, false, 0))
	m.Hear(voted(3, 1, 2, false)) // a later term
	m.Timeout()
	said := m.Hear(voted(3, 1, 3, true))
	wantMsgs(t, said, addition(1, 2, 3, 3, 1, 1, own(3)), addition(1, 3, 3, 3, 1, 1, own(3)))
	// Were the Match of 2 still 1, the Next would be 2 now.
	wantMsgs(t, m.Hear(added(2, 1, 3, true, 0)), addition(1, 2, 3, 0, 0, 1, m.Log().L...))
	if m.Settled() != 1 {
		t.Errorf("settled %d, want 1", m.Settled())
	}
}

func TestAskAdd(t *testing.T) {
	few, b := row(1, 1, 3), api.Ballot{Term: 4, Vote: 3}
	later := api.Ballot{Term: 5}
	for _, c := range []struct {
		name    string
		x       api.Msg
		yes     bool
		index   int
		b       api.Ballot
		log     []api.Entry
		settled int
	}{
		{"a beat", addition(1, 2, 4, 3, 3, 0), true, 3, b, few, 0},
		{"a beat that settles", addition(1, 2, 4, 3, 3, 2), true, 3, b, few, 2},
		{"a beat that settles all", addition(1, 2, 4, 3, 3, 3), true, 3, b, few, 3},
		{"a beat that settles more than it tells", addition(1, 2, 4, 2, 1, 9), true, 2, b, few, 2},
		{"a beat at the beginning", addition(1, 2, 4, 0, 0, 9), true, 0, b, few, 0},
		{"a negative Commit", addition(1, 2, 4, 3, 3, -1), true, 3, b, few, 0},
		{"the least Commit", addition(1, 2, 4, 3, 3, least), true, 3, b, few, 0},
		{"the greatest Commit", addition(1, 2, 4, 3, 3, greatest), true, 3, b, few, 3},
		{"an entry", addition(1, 2, 4, 3, 3, 0, row(4)...), true, 4, b, slices.Concat(few, row(4)), 0},
		{"an entry that is settled", addition(1, 2, 4, 3, 3, 4, row(4)...), true, 4, b, slices.Concat(few, row(4)), 4},
		{"an entry, and settled ahead of it", addition(1, 2, 4, 3, 3, 3, row(4)...), true, 4, b, slices.Concat(few, row(4)), 3},
		{"an entry of an earlier term than its own", addition(1, 2, 4, 3, 3, 0, row(3)...), true, 4, b, slices.Concat(few, row(3)), 0},
		{"entries that it has", addition(1, 2, 4, 0, 0, 9, row(1, 1)...), true, 2, b, few, 2},
		{"all that it has", addition(1, 2, 4, 0, 0, 9, row(1, 1, 3)...), true, 3, b, few, 3},
		{"another entry in the place of one", addition(1, 2, 4, 2, 1, 0, row(4)...), true, 3, b, slices.Concat(few[:2], row(4)), 0},
		{"other entries from the first on", addition(1, 2, 4, 0, 0, 1, row(2, 2)...), true, 2, b, row(2, 2), 1},
		{"a later term", addition(1, 2, 5, 3, 3, 4, row(5)...), true, 4, later, slices.Concat(few, row(5)), 4},
		{"a later term, and nothing new", addition(1, 2, 5, 3, 3, 3), true, 3, later, few, 3},
		{"an earlier term", addition(1, 2, 3, 3, 3, 3), false, 0, b, few, 0},
		{"an earlier term, with an entry", addition(1, 2, 3, 3, 3, 3, row(3)...), false, 0, b, few, 0},
		{"an earlier term, with nothing that fits", addition(1, 2, 1, 7, 9, 3, row(9, 1)...), false, 0, b, few, 0},
		{"a gap", addition(1, 2, 4, 4, 3, 4, row(4)...), false, 3, b, few, 0},
		{"another term at the index", addition(1, 2, 4, 3, 2, 3, row(4)...), false, 3, b, few, 0},
		{"a term at the index 0", addition(1, 2, 4, 0, 1, 3, row(4)...), false, 3, b, few, 0},
		{"a negative index", addition(1, 2, 4, -1, 0, 3, row(4)...), false, 3, b, few, 0},
		{"the least index", addition(1, 2, 4, least, 0, 3, row(4)...), false, 3, b, few, 0},
		{"the greatest index", addition(1, 2, 4, greatest, 3, 3, row(4)...), false, 3, b, few, 0},
		{"the greatest index alone", addition(1, 2, 4, greatest, 3, greatest), false, 3, b, few, 0},
		{"entries whose terms decrease", addition(1, 2, 4, 3, 3, 3, row(4, 3)...), false, 3, b, few, 0},
		{"an entry of an earlier term than the index", addition(1, 2, 4, 3, 3, 3, row(2)...), false, 3, b, few, 0},
		{"an entry of the term 0", addition(1, 2, 4, 0, 0, 3, row(0)...), false, 3, b, few, 0},
		{"an entry of a later term than the message", addition(1, 2, 4, 3, 3, 3, row(5)...), false, 3, b, few, 0},
		{"the last entry is of a later term", addition(1, 2, 4, 3, 3, 3, row(4, 4, 5)...), false, 3, b, few, 0},
		{"the last entry of many is of a later term", addition(1, 2, 4, 2, 1, 3, row(3, 4, 9)...), false, 3, b, few, 0},
		{"an entry of a term too great", addition(1, 2, 4, 3, 3, 3, row(greatest)...), false, 3, b, few, 0},
		{"a later term, and a gap", addition(1, 2, 5, 9, 3, 3), false, 3, later, few, 0},
		{"a later term, and an entry of one still later", addition(1, 2, 5, 3, 3, 3, row(6)...), false, 3, later, few, 0},
		{"up to 64 entries", addition(1, 2, 4, 3, 3, 70, row(times(61, 4)...)...), true, 64, b, slices.Concat(few, row(times(61, 4)...)), 64},
		{"more than 64 entries", addition(1, 2, 4, 3, 3, 3, row(times(62, 4)...)...), false, 3, b, few, 0},
	} {
		t.Run(c.name, func(t *testing.T) {
			m := begin(t, 2, 3, b, logOf(1, 1, 3))
			wantMsgs(t, m.Hear(c.x), added(2, 1, c.b.Term, c.yes, c.index))
			wantState(t, m, state{role: api.Follower, settled: c.settled, ballot: c.b, log: c.log})
			// Of a Candidate it makes the same, but in an earlier term.
			if c.x.Term >= 4 {
				m = candidate(t, 2, 3, api.Ballot{Term: 3}, logOf(1, 1, 3))
				wantMsgs(t, m.Hear(c.x), added(2, 1, c.b.Term, c.yes, c.index))
				if c.b == b {
					c.b.Vote = 2
				}
				wantState(t, m, state{role: api.Follower, settled: c.settled, ballot: c.b, log: c.log})
			}
		})
	}
}

func TestAskAddOfAnEarlierTermLeavesTheRole(t *testing.T) {
	m := candidate(t, 2, 3, api.Ballot{Term: 4}, logOf(1))
	was := stateOf(m)
	wantMsgs(t, m.Hear(addition(1, 2, 4, 1, 1, 1, row(4)...)), added(2, 1, 5, false, 0))
	wantState(t, m, was)
	m.Hear(voted(3, 2, 5, true))
	was = stateOf(m)
	wantMsgs(t, m.Hear(addition(1, 2, 4, 1, 1, 1, row(4)...)), added(2, 1, 5, false, 0))
	wantState(t, m, was)
}

func TestAskAddOfALeadersOwnTerm(t *testing.T) {
	m, _ := leader(t, 2, 3, api.Ballot{Term: 4}, logOf(1))
	was := stateOf(m)
	wantMsgs(t, m.Hear(addition(1, 2, 5, 1, 1, 2, row(5)...)))
	wantMsgs(t, m.Hear(addition(1, 2, 5, 9, 1, 2, row(5)...)))
	wantState(t, m, was)
}

func TestAskAddNeverUnsettles(t *testing.T) {
	m := begin(t, 2, 3, api.Ballot{Term: 4}, logOf(1, 1, 3))
	m.Hear(addition(1, 2, 4, 3, 3, 3))
	for _, x := range []api.Msg{
		addition(1, 2, 4, 3, 3, 2), addition(1, 2, 4, 3, 3, least), addition(1, 2, 4, 0, 0, 9),
		addition(1, 2, 4, 1, 1, 9), addition(1, 2, 4, 0, 0, 0, row(1)...), addition(1, 2, 4, 0, 0, 1, row(2)...),
	} {
		if said := m.Hear(x); len(said) != 1 || !said[0].Yes || m.Settled() != 3 {
			t.Errorf("%+v: said %+v, settled %d", x, said, m.Settled())
		}
	}
}

func TestAskAddOfAMessageThatComesLate(t *testing.T) {
	m := begin(t, 2, 3, api.Ballot{}, api.Log{})
	early := addition(1, 2, 1, 0, 0, 0, row(1)...)
	m.Hear(early)
	m.Hear(addition(1, 2, 1, 0, 0, 2, row(1, 1, 1)...))
	wantMsgs(t, m.Hear(early), added(2, 1, 1, true, 1))
	wantState(t, m, state{role: api.Follower, settled: 2, ballot: api.Ballot{Term: 1}, log: row(1, 1, 1)})
}

func TestSayAddOfYes(t *testing.T) {
	// The log of the leader has the terms 1 1 5 5 5: the member has told that
	// it has the first two.
	for _, c := range []struct {
		name    string
		index   int
		next    int
		settled int
		says    bool
	}{
		{"what it has already", 2, 3, 0, true},
		{"less than it has: a message that comes late", 1, 3, 0, true},
		{"the index 0", 0, 3, 0, true},
		{"one more", 3, 4, 3, true},
		{"two more", 4, 5, 4, true},
		{"all", 5, 6, 5, false},
		{"more than there is", 6, 3, 0, false},
		{"more than there is by far", greatest, 3, 0, false},
		{"a negative index", -1, 3, 0, false},
		{"the least index", least, 3, 0, false},
	} {
		t.Run(c.name, func(t *testing.T) {
			m, _ := leader(t, 2, 3, api.Ballot{Term: 4}, logOf(1, 1))
			m.Propose(api.Cmd{A: 1})
			m.Propose(api.Cmd{A: 2})
			m.Hear(added(3, 2, 5, true, 2))
			l := m.Log().L
			wantTerm := append([]int{0}, 1, 1, 5, 5, 5)[c.next-1]
			next := addition(2, 3, 5, c.next-1, wantTerm, c.settled, l[c.next-1:]...)
			said := m.Hear(added(3, 2, 5, true, c.index))
			if c.says {
				wantMsgs(t, said, next)
			} else {
				wantMsgs(t, said)
			}
			wantState(t, m, state{role: api.Leader, settled: c.settled, ballot: api.Ballot{Term: 5, Vote: 2}, log: l})
			wantMsgs(t, m.Beat(), addition(2, 1, 5, 2, 1, c.settled, l[2:]...), next)
		})
	}
}

func TestSayAddOfNo(t *testing.T) {
	// The log of the leader has 6 entries, of which the last is its own: the
	// Next of each is 6 at first.
	terms := []int{0, 1, 1, 2, 3, 4, 5}
	for _, c := range []struct {
		name  string
		index []int
		next  int
	}{
		{"the log is as long", []int{6}, 5},
		{"the log is longer", []int{9}, 5},
		{"the greatest index", []int{greatest}, 5},
		{"the log is one shorter", []int{5}, 5},
		{"the log is two shorter", []int{4}, 5},
		{"the log is three shorter", []int{3}, 4},
		{"the log has one entry", []int{1}, 2},
		{"the log is empty", []int{0}, 1},
		{"a negative index", []int{-1}, 1},
		{"the least index", []int{least}, 1},
		{"twice", []int{6, 6}, 4},
		{"five times", []int{6, 6, 6, 6, 6}, 1},
		{"six times", []int{6, 6, 6, 6, 6, 6}, 1},
		{"the greatest index at the beginning", []int{0, greatest}, 1},
		{"the least index at the beginning", []int{0, least}, 1},
		{"from the middle on", []int{2, 2}, 2},
	} {
		t.Run(c.name, func(t *testing.T) {
			m, _ := leader(t, 1, 3, api.Ballot{Term: 4}, logOf(terms[1:6]...))
			l := m.Log().L
			var said []api.Msg
			for _, index := range c.index {
				said = m.Hear(added(2, 1, 5, false, index))
			}
			want := addition(1, 2, 5, c.next-1, terms[c.next-1], 0, l[c.next-1:]...)
			wantMsgs(t, said, want)
			wantMsgs(t, m.Beat(), want, addition(1, 3, 5, 5, 4, 0, own(5)))
			wantState(t, m, state{role: api.Leader, ballot: api.Ballot{Term: 5, Vote: 1}, log: l})
		})
	}
}

func TestSayAddOfNoLeavesTheMatch(t *testing.T) {
	m, _ := leader(t, 1, 5, api.Ballot{}, api.Log{})
	m.Propose(api.Cmd{})
	m.Hear(added(2, 1, 1, true, 2))
	m.Hear(added(2, 1, 1, false, 0))
	// The Match of 2 is 2 still: with that of 3 it makes a majority.
	m.Hear(added(3, 1, 1, true, 2))
	if m.Settled() != 2 {
		t.Errorf("settled %d, want 2", m.Settled())
	}
	// And it doesn't go back: a late answer makes the Next 3 again.
	wantMsgs(t, m.Hear(added(2, 1, 1, true, 0)))
	wantMsgs(t, m.Beat()[:1], addition(1, 2, 1, 2, 1, 2))
}

func TestSayAddToOthersThanTheLeader(t *testing.T) {
	b := api.Ballot{Term: 4}
	for _, yes := range []bool{false, true} {
		m := begin(t, 2, 3, b, logOf(1, 1))
		was := stateOf(m)
		wantMsgs(t, m.Hear(added(1, 2, 4, yes, 1)))
		wantState(t, m, was)
		m.Timeout()
		was = stateOf(m)
		wantMsgs(t, m.Hear(added(1, 2, 5, yes, 1)))
		wantState(t, m, was)
		m.Hear(voted(3, 2, 5, true))
		was = stateOf(m)
		beat := m.Beat()
		// Of an earlier term.
		wantMsgs(t, m.Hear(added(1, 2, 4, yes, 1)))
		wantMsgs(t, m.Hear(added(1, 2, 4, yes, 3)))
		wantState(t, m, was)
		wantMsgs(t, m.Beat(), beat...)
	}
}

func TestSayAddSettlesOnlyTheLeadersOwnTerm(t *testing.T) {
	m, _ := leader(t, 1, 3, api.Ballot{Term: 4}, logOf(1, 2, 4))
	for _, c := range []struct{ index, settled int }{{1, 0}, {3, 0}, {4, 4}} {
		m.Hear(added(2, 1, 5, true, c.index))
		if m.Settled() != c.settled {
			t.Errorf("the index %d: settled %d, want %d", c.index, m.Settled(), c.settled)
		}
	}
}

func TestSayAddSettlesByAMajority(t *testing.T) {
	for many := 2; many <= 16; many++ {
		m, _ := leader(t, 1, many, api.Ballot{}, api.Log{})
		for from := 2; from <= many; from++ {
			m.Hear(added(from, 1, 1, true, 1))
			want := 0
			if 2*from > many {
				want = 1
			}
			if m.Settled() != want {
				t.Errorf("%d of %d have it: settled %d", from, many, m.Settled())
			}
		}
	}
}

// slow is a member by the chapter's words, with nothing of the other layers.
type slow struct {
	id, many, role, settled, term, vote int
	log                                 []api.Entry
	votes                               map[int]bool
	match, next                         map[int]int
}

func (s *slow) termAt(i int) int {
	if i == 0 {
		return 0
	}
	return s.log[i-1].Term
}

func (s *slow) others(each func(to int) api.Msg) (out []api.Msg) {
	for to := 1; to <= s.many; to++ {
		if to != s.id {
			out = append(out, each(to))
		}
	}
	return out
}

func (s *slow) addition(to int) api.Msg {
	var l []api.Entry
	for i := s.next[to]; i < s.next[to]+8 && i <= len(s.log); i++ {
		l = append(l, s.log[i-1])
	}
	return addition(s.id, to, s.term, s.next[to]-1, s.termAt(s.next[to]-1), s.settled, l...)
}

// commit tries each index from the last one on.
func (s *slow) commit() {
	for i := len(s.log); i > s.settled; i-- {
		have := 0
		for _, n := range s.match {
			if n >= i {
				have++
			}
		}
		if 2*have > s.many && s.log[i-1].Term == s.term {
			s.settled = i
		}
	}
}

func (s *slow) lead() []api.Msg {
	s.role, s.match, s.next = api.Leader, map[int]int{}, map[int]int{}
	for n := 1; n <= s.many; n++ {
		s.next[n], s.match[n] = len(s.log)+1, 0
	}
	if len(s.log) < 64 {
		s.log = append(slices.Clone(s.log), own(s.term))
	}
	s.match[s.id] = len(s.log)
	s.commit()
	return s.others(s.addition)
}

func (s *slow) Timeout() []api.Msg {
	if s.role == api.Leader || s.term == 1<<30 {
		return nil
	}
	s.term, s.vote = s.term+1, s.id
	if s.many == 1 {
		return s.lead()
	}
	s.role, s.votes = api.Candidate, map[int]bool{s.id: true}
	return s.others(func(to int) api.Msg { return plea(s.id, to, s.term, len(s.log), s.termAt(len(s.log))) })
}

func (s *slow) Beat() []api.Msg {
	if s.role != api.Leader {
		return nil
	}
	return s.others(s.addition)
}

func (s *slow) Propose(c api.Cmd) (int, []api.Msg, api.Errno) {
	if s.role != api.Leader {
		return 0, nil, api.ErrState
	}
	if len(s.log) == 64 {
		return 0, nil, api.ErrFull
	}
	s.log = append(slices.Clone(s.log), api.Entry{Term: s.term, Cmd: c})
	s.match[s.id] = len(s.log)
	s.commit()
	return len(s.log), s.others(s.addition), api.OK
}

func (s *slow) Hear(x api.Msg) []api.Msg {
	if x.To != s.id || x.From == s.id || x.From < 1 || x.From > s.many || x.Term < 1 || x.Term > 1<<30 {
		return nil
	}
	if x.Kind != api.AskVote && x.Kind != api.SayVote && x.Kind != api.AskAdd && x.Kind != api.SayAdd {
		return nil
	}
	if x.Term > s.term {
		s.term, s.vote, s.role = x.Term, 0, api.Follower
	}
	switch {
	case x.Kind == api.AskVote:
		mine := s.termAt(len(s.log))
		fresh := x.LogTerm > mine || x.LogTerm == mine && x.Index >= len(s.log)
		yes := x.Term == s.term && (s.vote == 0 || s.vote == x.From) && fresh
		if yes {
			s.vote = x.From
		}
		return []api.Msg{voted(s.id, x.From, s.term, yes)}
	case x.Kind == api.SayVote && s.role == api.Candidate && x.Term == s.term && x.Yes:
		s.votes[x.From] = true
		if 2*len(s.votes) > s.many {
			return s.lead()
		}
	case x.Kind == api.AskAdd && x.Term < s.term:
		return []api.Msg{added(s.id, x.From, s.term, false, 0)}
	case x.Kind == api.AskAdd && s.role != api.Leader:
		s.role = api.Follower
		l, ok := s.withAdded(x)
		if !ok {
			return []api.Msg{added(s.id, x.From, s.term, false, len(s.log))}
		}
		s.log = l
		sum := x.Index + len(x.L)
		s.settled = max(s.settled, min(sum, x.Commit))
		return []api.Msg{added(s.id, x.From, s.term, true, sum)}
	case x.Kind == api.SayAdd && s.role == api.Leader && x.Term == s.term:
		return s.hearAdded(x)
	}
	return nil
}

// withAdded is the log behind an addition, false: it can't be added.
func (s *slow) withAdded(x api.Msg) ([]api.Entry, bool) {
	if x.Index < 0 || x.Index > len(s.log) || s.termAt(x.Index) != x.LogTerm {
		return nil, false
	}
	term := max(x.LogTerm, 1)
	for _, e := range x.L {
		if e.Term < term || e.Term > x.Term {
			return nil, false
		}
		term = e.Term
	}
	for i, e := range x.L {
		at := x.Index + i
		if at == len(s.log) || s.log[at].Term != e.Term {
			l := append(slices.Clone(s.log[:at]), x.L[i:]...)
			return l, len(l) <= 64
		}
	}
	return s.log, true
}

func (s *slow) hearAdded(x api.Msg) []api.Msg {
	if !x.Yes {
		to := s.next[x.From] - 1
		if x.Index < to {
			to = x.Index + 1
		}
		s.next[x.From] = max(to, 1)
		return []api.Msg{s.addition(x.From)}
	}
	if x.Index < 0 || x.Index > len(s.log) {
		return nil
	}
	s.match[x.From] = max(s.match[x.From], x.Index)
	s.next[x.From] = s.match[x.From] + 1
	s.commit()
	if s.next[x.From] > len(s.log) {
		return nil
	}
	return []api.Msg{s.addition(x.From)}
}

func (s *slow) state() state {
	return state{role: s.role, settled: s.settled, ballot: api.Ballot{Term: s.term, Vote: s.vote}, log: s.log}
}

// choice chooses of what is given to a test, so that a fuzz test may steer it.
type choice func(n int) int

func (c choice) of(from ...int) int { return from[c(len(from))] }

// terms is some terms, most often such as may stand behind one another.
func (c choice) terms(term, own int) []int {
	n := c.of(0, 0, 1, 1, 2, 3, 8, 9)
	if c(40) == 0 {
		n = c.of(55, 60, 61, 62, 63, 64, 65)
	}
	var out []int
	for range n {
		switch c(60) {
		case 0:
			term = c.of(0, -1, own+1, 1<<30, 1<<30+1, greatest, 1)
		case 1, 2, 3, 4, 5, 6, 7, 8:
			term++
		case 9, 10, 11, 12:
			term = own
		}
		out = append(out, max(term, 1-c(2)*c(2)*c(2)))
	}
	return out
}

// message is one that may be good for a member in that state, or may not.
func (c choice) message(id, many int, s state) api.Msg {
	n := len(s.log)
	x := api.Msg{Kind: c(4), From: 1 + c(many), To: id, Term: s.ballot.Term, Yes: c(3) > 0}
	if x.From == id {
		x.From = 1 + c(many)
	}
	x.Term += c.of(0, 0, 0, 0, 0, 0, 0, 0, 0, 0, 0, 1, -1, -2)
	x.Index = c.of(n, n, n, n-1, n-2, n+1, 0, c(n+1), c(n+1), c(n+1))
	if 1 <= x.Index && x.Index <= n && c(8) > 0 {
		x.LogTerm = s.log[x.Index-1].Term
	} else {
		x.LogTerm = c.of(0, s.ballot.Term, 1, c(4))
	}
	x.Commit = c.of(s.settled, s.settled+1, x.Index, n, n+2, 0, c(n+1))
	if x.Kind == api.AskAdd {
		x.L = row(c.terms(x.LogTerm, x.Term)...)
		if 0 <= x.Index && x.Index <= n && c(4) == 0 {
			x.L = append(slices.Clone(s.log[x.Index:min(n, x.Index+c(9))]), x.L...)
		}
	}
	if c(12) == 0 {
		wrong := c.of(numbers...)
		for _, p := range []*int{&x.Kind, &x.From, &x.To, &x.Term, &x.Index, &x.LogTerm, &x.Commit}[c(7):][:1] {
			*p = wrong
		}
	}
	return x
}

// follow lets a member and the slow one go the same way, some steps long, and
// holds what they say and have against each other, and against P7.5.
func follow(t testing.TB, c choice, id, many int, b api.Ballot, l api.Log, steps int) {
	m := begin(t, id, many, b, l)
	s := &slow{id: id, many: many, term: b.Term, vote: b.Vote, log: l.L}
	for range steps {
		was := stateOf(m)
		var did string
		var got, want []api.Msg
		switch what := c(20); {
		case what == 0:
			did, got, want = "Timeout", m.Timeout(), s.Timeout()
		case what == 1:
			did, got, want = "Beat", m.Beat(), s.Beat()
		case what <= 3:
			cmd := api.Cmd{Client: c(3), Seq: c(9), Kind: c(8), A: c(99)}
			index, said, err := m.Propose(cmd)
			wantIndex, wantSaid, wantErr := s.Propose(cmd)
			if index != wantIndex || err != wantErr {
				t.Fatalf("Propose: got %d, %v, want %d, %v", index, err, wantIndex, wantErr)
			}
			did, got, want = "Propose", said, wantSaid
		default:
			x := c.message(id, many, was)
			did, got, want = fmt.Sprintf("Hear(%+v)", x), m.Hear(x), s.Hear(x)
		}
		now := stateOf(m)
		if !sameMsgs(got, want) || !now.same(s.state()) {
			t.Fatalf("the member %d of %d, %+v: %s: said %+v, want %+v; now %+v, want %+v",
				id, many, was, did, got, want, now, s.state())
		}
		if told := keeps(was, now); told != "" {
			t.Fatalf("the member %d of %d, %+v: %s: %s: now %+v", id, many, was, did, told, now)
		}
	}
}

// keeps tells what of P7.5 does not hold between two states of a member.
func keeps(was, now state) string {
	switch {
	case now.ballot.Term < was.ballot.Term:
		return "the term decreases"
	case now.settled < was.settled:
		return "Settled decreases"
	case now.ballot.Term == was.ballot.Term && was.ballot.Vote != 0 && now.ballot.Vote != was.ballot.Vote:
		return "the vote is changed"
	case was.role == api.Leader && (len(now.log) < len(was.log) || !sameEntries(now.log[:len(was.log)], was.log)) && now.role == api.Leader:
		return "a leader removes entries"
	}
	return ""
}

func TestByTheWords(t *testing.T) {
	r := rand.New(rand.NewPCG(7, 1))
	c := choice(r.IntN)
	for range 4000 {
		many := c.of(1, 2, 3, 3, 4, 5, 16)
		id := 1 + c(many)
		var terms []int
		term := 1
		for range c.of(0, 0, 1, 3, 6, 20, 58, 62, 63, 64) {
			term += c(5) / 4
			terms = append(terms, term)
		}
		b := api.Ballot{Term: term + c(3), Vote: c(many + 1)}
		if c(30) == 0 {
			b.Term = 1<<30 - c(3)
		}
		follow(t, c, id, many, b, logOf(terms...), 60)
	}
}

// TestAllOneMessage holds each message of small numbers against the words, for
// a member of each role.
func TestAllOneMessage(t *testing.T) {
	small := []int{-1, 0, 1, 2, 3, 4}
	logs := [][]int{nil, {1}, {2}, {1, 1}, {1, 2}, {2, 2}}
	for role := range 3 {
		for _, old := range logs {
			for _, x := range allMessages(small, logs) {
				m := begin(t, 1, 3, api.Ballot{Term: 2}, logOf(old...))
				s := &slow{id: 1, many: 3, term: 2, log: row(old...)}
				if role != api.Follower {
					m.Timeout()
					s.Timeout()
				}
				if role == api.Leader {
					m.Hear(voted(3, 1, 3, true))
					s.Hear(voted(3, 1, 3, true))
				}
				got, want := m.Hear(x), s.Hear(x)
				if !sameMsgs(got, want) || !stateOf(m).same(s.state()) {
					t.Fatalf("the role %d, the log %v: Hear(%+v): said %+v, want %+v; now %+v, want %+v",
						role, old, x, got, want, stateOf(m), s.state())
				}
				if !sameMsgs(m.Beat(), s.Beat()) {
					t.Fatalf("the role %d, the log %v: a beat behind Hear(%+v)", role, old, x)
				}
			}
		}
	}
}

func allMessages(small []int, logs [][]int) (out []api.Msg) {
	for _, term := range []int{1, 2, 3, 4} {
		for _, index := range small {
			for _, yes := range []bool{false, true} {
				out = append(out, voted(2, 1, term, yes), added(2, 1, term, yes, index))
			}
			for _, logTerm := range small {
				out = append(out, plea(2, 1, term, index, logTerm))
				for _, commit := range []int{-1, 0, 1, 2, 3} {
					for _, l := range append(logs, []int{3}, []int{3, 3}, []int{2, 3}, []int{2, 1}, []int{0}) {
						out = append(out, addition(2, 1, term, index, logTerm, commit, row(l...)...))
					}
				}
			}
		}
	}
	return out
}

// P7.5

func TestATermHasOneVote(t *testing.T) {
	m := begin(t, 2, 5, api.Ballot{}, api.Log{})
	for term := 1; term <= 3; term++ {
		for _, from := range []int{3, 1, 4, 5, 3} {
			wantMsgs(t, m.Hear(plea(from, 2, term, 9, 9)), voted(2, from, term, from == 3))
			if m.Ballot() != (api.Ballot{Term: term, Vote: 3}) {
				t.Fatalf("in the term %d: %v", term, m.Ballot())
			}
		}
		// What a leader of the term says leaves the vote, too.
		m.Hear(addition(4, 2, term, 0, 0, 0))
		if m.Ballot() != (api.Ballot{Term: term, Vote: 3}) {
			t.Fatalf("in the term %d: %v", term, m.Ballot())
		}
	}
}

func TestEarlierTermsChangeNothing(t *testing.T) {
	for kind := range 4 {
		for term := 1; term < 6; term++ {
			m := begin(t, 2, 3, api.Ballot{Term: 6, Vote: 3}, logOf(1, 6))
			was := stateOf(m)
			m.Hear(api.Msg{Kind: kind, From: 1, To: 2, Term: term, Index: 2, LogTerm: 6, Commit: 2, Yes: true})
			wantState(t, m, was)
		}
	}
}

func TestALeaderKeepsItsEntries(t *testing.T) {
	m, _ := leader(t, 1, 3, api.Ballot{Term: 2}, logOf(1, 2))
	m.Propose(api.Cmd{A: 1})
	l := m.Log().L
	for _, x := range allMessages([]int{-1, 0, 1, 2, 3, 4}, [][]int{nil, {1}, {2}, {3, 3}}) {
		if x.Term > 3 {
			continue
		}
		m.Hear(x)
		if m.Role() != api.Leader || !sameEntries(m.Log().L, l) {
			t.Fatalf("Hear(%+v): the log %v", x, m.Log())
		}
	}
}

// group is some members, and the messages that are under way.
type group struct {
	members []*Member
	way     []api.Msg
	settled []api.Entry // by the first member that tells it
	leaders map[int]int // by term
}

func newGroup(t testing.TB, many int) *group {
	g := &group{leaders: map[int]int{}}
	for id := 1; id <= many; id++ {
		g.members = append(g.members, begin(t, id, many, api.Ballot{}, api.Log{}))
	}
	return g
}

// deliver lets the receiver of the message i hear it.
func (g *group) deliver(i int) {
	x := g.way[i]
	g.way = slices.Delete(g.way, i, i+1)
	g.way = append(g.way, g.members[x.To-1].Hear(x)...)
}

// quiet delivers all messages, in their order, till there are none.
func (g *group) quiet(t testing.TB) {
	t.Helper()
	for range 10000 {
		if len(g.way) == 0 {
			return
		}
		g.deliver(0)
	}
	t.Fatal("the group talks on and on")
}

// look holds what the members have settled against what was settled before.
func (g *group) look(t testing.TB) {
	t.Helper()
	for _, m := range g.members {
		b, l := m.Ballot(), m.Log().L
		if m.Role() == api.Leader {
			if n := g.leaders[b.Term]; n != 0 && n != b.Vote {
				t.Fatalf("the term %d has the leaders %d and %d", b.Term, n, b.Vote)
			}
			g.leaders[b.Term] = b.Vote
		}
		if m.Settled() > len(l) {
			t.Fatalf("settled %d of %d entries", m.Settled(), len(l))
		}
		for i := range m.Settled() {
			if i == len(g.settled) {
				g.settled = append(g.settled, l[i])
			}
			if g.settled[i] != l[i] {
				t.Fatalf("two settle the entries %v and %v at %d", g.settled[i], l[i], i+1)
			}
		}
	}
}

func TestAGroupAgrees(t *testing.T) {
	for many := 1; many <= 16; many++ {
		g := newGroup(t, many)
		g.way = append(g.way, g.members[many/2].Timeout()...)
		g.quiet(t)
		l := []api.Entry{own(1)}
		for i := 1; i < 64; i++ {
			c := api.Cmd{Client: 1, Seq: i, Kind: api.Write, A: i}
			index, said, err := g.members[many/2].Propose(c)
			if index != i+1 || err != api.OK {
				t.Fatalf("got %d, %v", index, err)
			}
			l = append(l, api.Entry{Term: 1, Cmd: c})
			g.way = append(g.way, said...)
			if i%9 == 0 || i == 63 {
				g.quiet(t)
			}
		}
		// A beat tells the others that all of it is settled.
		g.way = append(g.way, g.members[many/2].Beat()...)
		g.quiet(t)
		for id, m := range g.members {
			role := api.Follower
			if id == many/2 {
				role = api.Leader
			}
			wantState(t, m, state{role: role, settled: 64, ballot: api.Ballot{Term: 1, Vote: many/2 + 1}, log: l})
		}
	}
}

func TestAMemberThatWasAwayCatchesUp(t *testing.T) {
	g := newGroup(t, 3)
	// The member 3 has entries of a term in which it led alone.
	g.members[2] = begin(t, 3, 3, api.Ballot{Term: 2, Vote: 3}, logOf(times(30, 2)...))
	g.members[0] = begin(t, 1, 3, api.Ballot{Term: 3, Vote: 1}, logOf(append(times(20, 1), times(20, 3)...)...))
	g.members[1] = begin(t, 2, 3, api.Ballot{Term: 3, Vote: 1}, logOf(times(20, 1)...))
	g.way = g.members[0].Timeout()
	g.quiet(t)
	g.way = g.members[0].Beat()
	g.quiet(t)
	for _, m := range g.members {
		if m.Settled() != 41 || !sameEntries(m.Log().L, g.members[0].Log().L) {
			t.Errorf("settled %d, the log %v", m.Settled(), m.Log())
		}
	}
}

// step lets one thing of many happen to the group.
func (g *group) step(t testing.TB, c choice) {
	id := 1 + c(len(g.members))
	m := g.members[id-1]
	switch what := c(100); {
	case what < 4:
		g.way = append(g.way, m.Timeout()...)
	case what < 10:
		g.way = append(g.way, m.Beat()...)
	case what < 18:
		_, said, _ := m.Propose(api.Cmd{Client: id, Seq: c(1000)})
		g.way = append(g.way, said...)
	case what < 20:
		// A crash: the ballot and the log are all that lasts.
		g.members[id-1] = begin(t, id, len(g.members), m.Ballot(), m.Log())
	case len(g.way) == 0:
	case what < 25:
		i := c(len(g.way))
		g.way = slices.Delete(g.way, i, i+1)
	case what < 32:
		g.way = append(g.way, g.way[c(len(g.way))])
	default:
		g.deliver(c(len(g.way)))
	}
}

func TestAGroupNeverSettlesTwoThings(t *testing.T) {
	r := rand.New(rand.NewPCG(7, 2))
	c := choice(r.IntN)
	settled := 0
	for range 400 {
		g := newGroup(t, c.of(1, 2, 3, 3, 4, 5))
		for range 600 {
			g.step(t, c)
			g.look(t)
			if len(g.way) > 60 {
				g.way = g.way[len(g.way)-60:]
			}
		}
		settled += len(g.settled)
	}
	if settled < 400 {
		t.Errorf("only %d entries were settled at all", settled)
	}
}

// R3

// roomy is entries with more of them behind, in the same memory.
func roomy(l []api.Entry) (whole, entries []api.Entry) {
	whole = append(slices.Clone(l), row(7, 8, 9)...)
	return whole, whole[:len(l)]
}

func TestNewKeepsACopyOfTheLog(t *testing.T) {
	whole, l := roomy(row(1, 1, 3))
	was := slices.Clone(whole)
	m := begin(t, 1, 1, api.Ballot{Term: 3}, api.Log{L: l})
	m.Timeout()
	m.Propose(api.Cmd{A: 5})
	if !sameEntries(whole, was) {
		t.Errorf("the entries are now %v", whole)
	}
	clear(whole)
	want := append(row(1, 1, 3), own(4), api.Entry{Term: 4, Cmd: api.Cmd{A: 5}})
	if !sameEntries(m.Log().L, want) {
		t.Errorf("the log is now %v", m.Log())
	}
}

func TestLogIsACopy(t *testing.T) {
	m, _ := leader(t, 1, 3, api.Ballot{Term: 3}, logOf(1, 1, 3))
	want := append(row(1, 1, 3), own(4))
	l := m.Log().L
	clear(l)
	l = m.Log().L
	l = append(l, row(9, 9, 9)...)
	clear(l)
	m.Propose(api.Cmd{A: 1})
	want = append(want, api.Entry{Term: 4, Cmd: api.Cmd{A: 1}})
	if !sameEntries(m.Log().L, want) {
		t.Errorf("the log is now %v, want %v", m.Log().L, want)
	}
	// What was told before doesn't change with the member.
	l = m.Log().L
	m.Hear(addition(2, 1, 9, 0, 0, 0, row(9, 9)...))
	if !sameEntries(l, want) {
		t.Errorf("the log that was told is now %v", l)
	}
}

func TestMessagesAreCopies(t *testing.T) {
	m, said := leader(t, 1, 3, api.Ballot{Term: 3}, logOf(1, 1, 3))
	said = append(said, m.Beat()...)
	said = append(said, m.Hear(added(2, 1, 4, false, 0))...)
	said = append(said, m.Hear(added(2, 1, 4, true, 1))...)
	_, more, _ := m.Propose(api.Cmd{A: 1})
	said = append(said, more...)
	want := slices.Clone(m.Log().L)
	for i := range said {
		// Each has memory of its own: the next one is as it was said.
		for _, x := range said[i+1:] {
			if n := x.Index + len(x.L); !sameEntries(x.L, want[x.Index:n]) {
				t.Fatalf("the message %+v", x)
			}
		}
		l := append(said[i].L, row(9, 9, 9)...)
		clear(l)
		clear(said[i].L)
	}
	if !sameEntries(m.Log().L, want) {
		t.Errorf("the log is now %v", m.Log().L)
	}
}

func TestWhatIsHeardIsCopied(t *testing.T) {
	whole, l := roomy(row(1, 1, 3))
	was := slices.Clone(whole)
	m := begin(t, 2, 2, api.Ballot{}, api.Log{})
	m.Hear(addition(1, 2, 3, 0, 0, 0, l...))
	m.Hear(addition(1, 2, 3, 3, 3, 0, row(3)...))
	// The same entries once more: they are there already.
	m.Hear(addition(1, 2, 3, 0, 0, 0, l...))
	m.Timeout()
	m.Hear(voted(1, 2, 4, true))
	if !sameEntries(whole, was) {
		t.Errorf("the entries are now %v", whole)
	}
	clear(whole)
	if want := append(row(1, 1, 3), row(3)[0], own(4)); !sameEntries(m.Log().L, want) {
		t.Errorf("the log is now %v", m.Log().L)
	}
}

func TestMembersShareNothing(t *testing.T) {
	l := logOf(1, 1)
	a, _ := leader(t, 1, 2, api.Ballot{Term: 1}, l)
	b := begin(t, 2, 2, api.Ballot{Term: 1}, l)
	was := stateOf(b)
	a.Propose(api.Cmd{A: 1})
	a.Hear(added(2, 1, 2, true, 3))
	wantState(t, b, was)
}

// P1: nothing that a member hears makes it panic, or go on for long.

func FuzzMember(f *testing.F) {
	f.Add(uint8(1), uint8(1), []byte{0, 1, 2})
	f.Add(uint8(2), uint8(3), []byte{0, 9, 9, 9, 1, 1, 4, 200, 3, 2, 77})
	f.Add(uint8(3), uint8(5), []byte("a follower, a candidate, and a leader"))
	f.Fuzz(func(t *testing.T, id, many uint8, b []byte) {
		many = 1 + many%16
		id = 1 + id%many
		c := choice(func(n int) int {
			if len(b) == 0 {
				return 0
			}
			v := int(b[0]) % n
			b = b[1:]
			return v
		})
		follow(t, c, int(id), int(many), api.Ballot{}, api.Log{}, 40)
	})
}

func FuzzHear(f *testing.F) {
	f.Add(0, 1, 2, 1, 0, 0, 0, true, []byte{1, 2})
	f.Add(2, 3, 2, 4, greatest, least, greatest, false, []byte{})
	f.Fuzz(func(t *testing.T, kind, from, to, term, index, logTerm, commit int, yes bool, b []byte) {
		var terms []int
		for _, v := range b {
			terms = append(terms, int(int8(v)))
		}
		x := api.Msg{Kind: kind, From: from, To: to, Term: term, Index: index, LogTerm: logTerm, Commit: commit, Yes: yes, L: row(terms...)}
		for role := range 3 {
			m := begin(t, 2, 3, api.Ballot{Term: 3}, logOf(1, 1, 3))
			s := &slow{id: 2, many: 3, term: 3, log: row(1, 1, 3)}
			if role != api.Follower {
				m.Timeout()
				s.Timeout()
			}
			if role == api.Leader {
				m.Hear(voted(1, 2, 4, true))
				s.Hear(voted(1, 2, 4, true))
			}
			if got, want := m.Hear(x), s.Hear(x); !sameMsgs(got, want) || !stateOf(m).same(s.state()) {
				t.Fatalf("the role %d: Hear(%+v): said %+v, want %+v", role, x, got, want)
			}
		}
	})
}
