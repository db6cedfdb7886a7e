package vote

import (
	"math"
	"slices"
	"testing"

	"suture/api"
)

const (
	least    = math.MinInt
	greatest = math.MaxInt
)

// numbers are terms, votes and indices at which something turns.
var numbers = []int{least, least + 1, -1 << 40, -17, -2, -1, 0, 1, 2, 3, 4, 15, 16, 17, 18, 63, 64, 65,
	1<<30 - 1, 1 << 30, 1<<30 + 1, 1<<30 + 2, 1 << 32, 1<<32 + 1, 1 << 40, 1<<40 + 1, greatest - 1, greatest}

// logOf is a log whose entries have these terms.
func logOf(base, baseTerm int, terms ...int) api.Log {
	l := api.Log{Base: base, BaseTerm: baseTerm}
	for i, term := range terms {
		l.L = append(l.L, api.Entry{Term: term, Cmd: api.Cmd{Client: 1, Seq: i + 1, Kind: api.Write, A: term}})
	}
	return l
}

// request is one for a vote, of a member whose log ends with index and of.
func request(from, term, index, of int) api.Msg {
	return api.Msg{Kind: api.AskVote, From: from, To: 9, Term: term, Index: index, LogTerm: of}
}

// logs are those of the member that is asked, with what they end with.
var logs = []struct {
	name        string
	log         api.Log
	index, term int
}{
	{"the empty log", api.Log{}, 0, 0},
	{"no entries, a slice of none", api.Log{L: []api.Entry{}}, 0, 0},
	{"one entry", logOf(0, 0, 1), 1, 1},
	{"the terms 1 1 2", logOf(0, 0, 1, 1, 2), 3, 2},
	{"a Base", logOf(5, 3), 5, 3},
	{"a Base of the term 0", logOf(5, 0), 5, 0},
	{"a Base, and entries", logOf(5, 3, 3, 4), 7, 4},
	{"64 entries", logOf(0, 0, slices.Repeat([]int{2}, 64)...), 64, 2},
	{"the greatest Base, its term, and entries", logOf(1<<40, 1<<30, 1<<30, 1<<30), 1<<40 + 2, 1 << 30},
	{"a log that may not be: decreasing terms", logOf(0, 0, 2, 1), 0, 0},
	{"a log that may not be: Base -1", logOf(-1, 0, 1, 1), 0, 0},
	{"a log that may not be: BaseTerm at Base 0", logOf(0, 3, 3), 0, 0},
	{"a log that may not be: 65 entries", logOf(0, 0, slices.Repeat([]int{2}, 65)...), 0, 0},
	{"a log that may not be: Base 2^40 + 1", logOf(1<<40+1, 3), 0, 0},
	{"a log that may not be: the greatest term", logOf(0, 0, greatest), 0, 0},
}

// The slow calls say the chapter's words once more: each condition stands
// alone, and all of them are asked.

func slowMay(b api.Ballot) bool {
	wrong := 0
	for _, is := range []bool{b.Term <= -1, b.Term >= 1073741825, b.Vote <= -1, b.Vote >= 17} {
		if is {
			wrong++
		}
	}
	return wrong == 0
}

func slowSee(b api.Ballot, term int) api.Ballot {
	if b.Term >= term || term >= 1073741825 {
		return b
	}
	b.Term, b.Vote = term, 0
	return b
}

// slowReasons is how many reasons there are to refuse a request, of a member
// with b whose log ends with index and term.
func slowReasons(b api.Ballot, index, term int, ask api.Msg) int {
	x := slowSee(b, ask.Term)
	free := x.Vote == 0 || x.Vote == ask.From
	member := slices.Contains([]int{1, 2, 3, 4, 5, 6, 7, 8, 9, 10, 11, 12, 13, 14, 15, 16}, ask.From)
	newer := slices.Compare([]int{ask.LogTerm, ask.Index}, []int{term, index}) >= 0
	n := 0
	for _, holds := range []bool{x.Term == ask.Term, free, member, newer} {
		if !holds {
			n++
		}
	}
	return n
}

func slowGrant(b api.Ballot, index, term int, ask api.Msg) (api.Ballot, bool) {
	x := slowSee(b, ask.Term)
	if slowReasons(b, index, term, ask) > 0 {
		return x, false
	}
	return api.Ballot{Term: ask.Term, Vote: ask.From}, true
}

// P5.1

func TestMay(t *testing.T) {
	for _, c := range []struct {
		b    api.Ballot
		want bool
	}{
		{api.Ballot{}, true},
		{api.Ballot{Term: 1}, true},
		{api.Ballot{Term: 1, Vote: 1}, true},
		{api.Ballot{Term: 0, Vote: 1}, true},
		{api.Ballot{Term: 7, Vote: 16}, true},
		{api.Ballot{Term: 1 << 30, Vote: 16}, true},
		{api.Ballot{Term: 1 << 30}, true},
		{api.Ballot{Term: 7, Vote: 17}, false},
		{api.Ballot{Term: 7, Vote: -1}, false},
		{api.Ballot{Term: 7, Vote: least}, false},
		{api.Ballot{Term: 7, Vote: greatest}, false},
		{api.Ballot{Term: -1}, false},
		{api.Ballot{Term: -1, Vote: 1}, false},
		{api.Ballot{Term: 1<<30 + 1}, false},
		{api.Ballot{Term: 1<<30 + 1, Vote: 1}, false},
		{api.Ballot{Term: least}, false},
		{api.Ballot{Term: greatest}, false},
		{api.Ballot{Term: -1, Vote: -1}, false},
		{api.Ballot{Term: greatest, Vote: 17}, false},
	} {
		if got := May(c.b); got != c.want {
			t.Errorf("May(%v) = %v", c.b, got)
		}
	}
}

func TestMayOfEachVote(t *testing.T) {
	for vote := -40; vote <= 40; vote++ {
		if got, want := May(api.Ballot{Term: 3, Vote: vote}), vote >= 0 && vote <= 16; got != want {
			t.Errorf("May of the vote %d = %v", vote, got)
		}
	}
}

func TestSee(t *testing.T) {
	for _, c := range []struct {
		name string
		b    api.Ballot
		term int
		want api.Ballot
	}{
		{"the first term", api.Ballot{}, 1, api.Ballot{Term: 1}},
		{"no term", api.Ballot{}, 0, api.Ballot{}},
		{"the next term", api.Ballot{Term: 3, Vote: 2}, 4, api.Ballot{Term: 4}},
		{"a much later term", api.Ballot{Term: 3, Vote: 2}, 1000, api.Ballot{Term: 1000}},
		{"the greatest term", api.Ballot{Term: 3, Vote: 2}, 1 << 30, api.Ballot{Term: 1 << 30}},
		{"the greatest term, of the one ahead", api.Ballot{Term: 1<<30 - 1, Vote: 2}, 1 << 30, api.Ballot{Term: 1 << 30}},
		{"the same term", api.Ballot{Term: 3, Vote: 2}, 3, api.Ballot{Term: 3, Vote: 2}},
		{"the same term, no vote", api.Ballot{Term: 3}, 3, api.Ballot{Term: 3}},
		{"the term 0 with a vote", api.Ballot{Vote: 2}, 0, api.Ballot{Vote: 2}},
		{"the greatest term again", api.Ballot{Term: 1 << 30, Vote: 2}, 1 << 30, api.Ballot{Term: 1 << 30, Vote: 2}},
		{"the term ahead", api.Ballot{Term: 3, Vote: 2}, 2, api.Ballot{Term: 3, Vote: 2}},
		{"the term 0", api.Ballot{Term: 3, Vote: 2}, 0, api.Ballot{Term: 3, Vote: 2}},
		{"a negative term", api.Ballot{Term: 3, Vote: 2}, -4, api.Ballot{Term: 3, Vote: 2}},
		{"the least term", api.Ballot{Term: 3, Vote: 2}, least, api.Ballot{Term: 3, Vote: 2}},
		{"2^30 + 1", api.Ballot{Term: 3, Vote: 2}, 1<<30 + 1, api.Ballot{Term: 3, Vote: 2}},
		{"2^30 + 1, of 2^30", api.Ballot{Term: 1 << 30, Vote: 2}, 1<<30 + 1, api.Ballot{Term: 1 << 30, Vote: 2}},
		{"2^32 + 4", api.Ballot{Term: 3, Vote: 2}, 1<<32 + 4, api.Ballot{Term: 3, Vote: 2}},
		{"the greatest number", api.Ballot{Term: 3, Vote: 2}, greatest, api.Ballot{Term: 3, Vote: 2}},
		{"a wrong vote, the same term", api.Ballot{Term: 3, Vote: 17}, 3, api.Ballot{Term: 3, Vote: 17}},
		{"a wrong vote, a later term", api.Ballot{Term: 3, Vote: -1}, 4, api.Ballot{Term: 4}},
		{"a ballot of a negative term", api.Ballot{Term: -5, Vote: 2}, 1, api.Ballot{Term: 1}},
		{"a ballot of a negative term, a greater one", api.Ballot{Term: -5, Vote: 2}, -3, api.Ballot{Term: -3}},
		{"a ballot of the least term", api.Ballot{Term: least, Vote: 2}, 1 << 30, api.Ballot{Term: 1 << 30}},
		{"a ballot of a term too great", api.Ballot{Term: 1<<30 + 1, Vote: 2}, 4, api.Ballot{Term: 1<<30 + 1, Vote: 2}},
		{"a ballot of a term too great, a greater one", api.Ballot{Term: 1<<30 + 1, Vote: 2}, 1<<30 + 2, api.Ballot{Term: 1<<30 + 1, Vote: 2}},
		{"a ballot of the greatest number", api.Ballot{Term: greatest, Vote: 2}, least, api.Ballot{Term: greatest, Vote: 2}},
	} {
		if got := See(c.b, c.term); got != c.want {
			t.Errorf("%s: See(%v, %d) = %v, want %v", c.name, c.b, c.term, got, c.want)
		}
	}
}

// P5.2

func TestGrantOfTheExamples(t *testing.T) {
	steps := []struct {
		ask  api.Msg
		want api.Ballot
		yes  bool
	}{
		{request(2, 1, 0, 0), api.Ballot{Term: 1, Vote: 2}, true},
		{request(3, 1, 0, 0), api.Ballot{Term: 1, Vote: 2}, false},
		{request(3, 2, 0, 0), api.Ballot{Term: 2, Vote: 3}, true},
	}
	b := api.Ballot{}
	for _, c := range steps {
		got, yes := Grant(b, api.Log{}, c.ask)
		if got != c.want || yes != c.yes {
			t.Errorf("Grant(%v, %v) = %v, %v, want %v, %v", b, c.ask, got, yes, c.want, c.yes)
		}
		b = got
	}
}

func TestGrant(t *testing.T) {
	l := logOf(5, 3, 3, 4) // ends with the index 7, of the term 4
	none, two := api.Ballot{Term: 6}, api.Ballot{Term: 6, Vote: 2}
	for _, c := range []struct {
		name string
		b    api.Ballot
		ask  api.Msg
		want api.Ballot
		yes  bool
	}{
		{"no vote yet", none, request(2, 6, 7, 4), two, true},
		{"the same one again", two, request(2, 6, 7, 4), two, true},
		{"another one", two, request(3, 6, 7, 4), two, false},
		{"another one, with a newer log", two, request(3, 6, 99, 5), two, false},
		{"another one in a later term", two, request(3, 7, 7, 4), api.Ballot{Term: 7, Vote: 3}, true},
		{"the same one in a later term", two, request(2, 7, 7, 4), api.Ballot{Term: 7, Vote: 2}, true},
		{"the greatest term", two, request(3, 1<<30, 7, 4), api.Ballot{Term: 1 << 30, Vote: 3}, true},
		{"the first member", none, request(1, 6, 7, 4), api.Ballot{Term: 6, Vote: 1}, true},
		{"the last member", none, request(16, 6, 7, 4), api.Ballot{Term: 6, Vote: 16}, true},
		{"more entries", none, request(2, 6, 8, 4), two, true},
		{"a greater term, fewer entries", none, request(2, 6, 1, 5), two, true},
		{"a greater term, the index 0", none, request(2, 6, 0, 5), two, true},

		{"an earlier term", none, request(2, 5, 7, 4), none, false},
		{"an earlier term, of the one that has the vote", two, request(2, 5, 7, 4), two, false},
		{"the term 0", none, request(2, 0, 7, 4), none, false},
		{"a negative term", none, request(2, -6, 7, 4), none, false},
		{"2^30 + 1", two, request(2, 1<<30+1, 7, 4), two, false},
		{"2^32 + 6", none, request(2, 1<<32+6, 7, 4), none, false},
		{"the greatest number as the term", two, request(2, greatest, 7, 4), two, false},
		{"member 0", none, request(0, 6, 7, 4), none, false},
		{"member 0 in a later term", two, request(0, 7, 7, 4), api.Ballot{Term: 7}, false},
		{"member -1", none, request(-1, 6, 7, 4), none, false},
		{"member 17", none, request(17, 6, 7, 4), none, false},
		{"member 17 in a later term", two, request(17, 7, 7, 4), api.Ballot{Term: 7}, false},
		{"the least number as the member", none, request(least, 6, 7, 4), none, false},
		{"the greatest number as the member", none, request(greatest, 6, 7, 4), none, false},
		{"fewer entries", none, request(2, 6, 6, 4), none, false},
		{"a term less, as many entries", none, request(2, 6, 7, 3), none, false},
		{"a term less, more entries", none, request(2, 6, 64, 3), none, false},
		{"no entries", none, request(2, 6, 0, 0), none, false},
		{"fewer entries, in a later term", two, request(3, 9, 6, 4), api.Ballot{Term: 9}, false},
		{"fewer entries, of the one that has the vote", two, request(2, 6, 6, 4), two, false},

		{"another one, an earlier term, fewer entries", two, request(3, 5, 6, 4), two, false},
		{"member 17 with an older log, in a later term", two, request(17, 7, 6, 4), api.Ballot{Term: 7}, false},
		{"member 0 with an older log, in a term too great", two, request(0, 1<<30+1, 0, 0), two, false},

		{"a ballot with the vote 17, which asks again", api.Ballot{Term: 6, Vote: 17}, request(17, 6, 7, 4), api.Ballot{Term: 6, Vote: 17}, false},
		{"a ballot with the vote -1, which asks again", api.Ballot{Term: 6, Vote: -1}, request(-1, 6, 7, 4), api.Ballot{Term: 6, Vote: -1}, false},
		{"a ballot with the vote 17, another one", api.Ballot{Term: 6, Vote: 17}, request(2, 6, 7, 4), api.Ballot{Term: 6, Vote: 17}, false},
		{"a ballot with the vote -1, another one", api.Ballot{Term: 6, Vote: -1}, request(2, 6, 7, 4), api.Ballot{Term: 6, Vote: -1}, false},
		{"a ballot with the vote 17, a later term", api.Ballot{Term: 6, Vote: 17}, request(2, 7, 7, 4), api.Ballot{Term: 7, Vote: 2}, true},
		{"a ballot of a negative term", api.Ballot{Term: -6}, request(2, -6, 7, 4), api.Ballot{Term: -6, Vote: 2}, true},
		{"a ballot of a term too great", api.Ballot{Term: 1<<30 + 1}, request(2, 1<<30+1, 7, 4), api.Ballot{Term: 1<<30 + 1, Vote: 2}, true},
		{"a ballot of a term too great, a greater one", api.Ballot{Term: 1<<30 + 1}, request(2, 1<<30+2, 7, 4), api.Ballot{Term: 1<<30 + 1}, false},
	} {
		got, yes := Grant(c.b, l, c.ask)
		if got != c.want || yes != c.yes {
			t.Errorf("%s: Grant(%v, %v) = %v, %v, want %v, %v", c.name, c.b, c.ask, got, yes, c.want, c.yes)
		}
	}
}

func TestGrantGoesByTheEndOfTheLog(t *testing.T) {
	for _, c := range logs {
		for index := c.index - 2; index <= c.index+2; index++ {
			for of := c.term - 2; of <= c.term+2; of++ {
				ask := request(2, 7, index, of)
				got, yes := Grant(api.Ballot{Term: 6, Vote: 3}, c.log, ask)
				want := api.Ballot{Term: 7}
				newer := of > c.term || of == c.term && index >= c.index
				if newer {
					want.Vote = 2
				}
				if got != want || yes != newer {
					t.Errorf("%s: of %d, %d: Grant = %v, %v, want %v, %v", c.name, index, of, got, yes, want, newer)
				}
			}
		}
	}
}

func TestGrantOfEachMember(t *testing.T) {
	for from := -40; from <= 40; from++ {
		for vote := -40; vote <= 40; vote++ {
			b := api.Ballot{Term: 6, Vote: vote}
			want, is := slowGrant(b, 0, 0, request(from, 6, 0, 0))
			if got, yes := Grant(b, api.Log{}, request(from, 6, 0, 0)); got != want || yes != is {
				t.Errorf("Grant(%v) to %d = %v, %v, want %v, %v", b, from, got, yes, want, is)
			}
		}
	}
}

func TestGrantLooksAtNothingElse(t *testing.T) {
	l := logOf(0, 0, 1, 1, 2)
	for _, term := range []int{5, 6, 7} {
		plain := request(2, term, 3, 2)
		want, is := Grant(api.Ballot{Term: 6}, l, plain)
		for _, n := range numbers {
			for _, ask := range []api.Msg{
				{Kind: n, From: 2, To: 9, Term: term, Index: 3, LogTerm: 2},
				{From: 2, To: n, Term: term, Index: 3, LogTerm: 2},
				{From: 2, Term: term, Index: 3, LogTerm: 2, Commit: n},
				{From: 2, Term: term, Index: 3, LogTerm: 2, Yes: n > 0, L: logOf(0, 0, n).L},
			} {
				if got, yes := Grant(api.Ballot{Term: 6}, l, ask); got != want || yes != is {
					t.Errorf("Grant to %v = %v, %v, want %v, %v", ask, got, yes, want, is)
				}
			}
		}
	}
}

// checkGrant holds what Grant answers against the slow call, and against P5.3.
func checkGrant(t *testing.T, b api.Ballot, l api.Log, index, term int, ask api.Msg) {
	got, yes := Grant(b, l, ask)
	want, is := slowGrant(b, index, term, ask)
	if got != want || yes != is {
		t.Fatalf("Grant(%v, %v, %v) = %v, %v, want %v, %v", b, l, ask, got, yes, want, is)
	}
	checkKept(t, b, got)
	if yes && (got.Term != ask.Term || got.Vote != ask.From) {
		t.Fatalf("Grant(%v, %v, %v) = %v, which is no vote for it", b, l, ask, got)
	}
	if again, still := Grant(got, l, ask); again != got || still != yes {
		t.Fatalf("Grant(%v, %v, %v) = %v, %v, and then %v, %v", b, l, ask, got, yes, again, still)
	}
}

// checkKept asks what P5.3 says of a ballot and the one behind it.
func checkKept(t *testing.T, b, next api.Ballot) {
	if next.Term < b.Term || next.Term == b.Term && b.Vote != 0 && next.Vote != b.Vote {
		t.Fatalf("of %v became %v", b, next)
	}
	if May(b) && !May(next) {
		t.Fatalf("of %v became %v, which may not be", b, next)
	}
}

func TestNumbersThatTurn(t *testing.T) {
	for _, term := range numbers {
		for _, vote := range numbers {
			b := api.Ballot{Term: term, Vote: vote}
			if got, want := May(b), slowMay(b); got != want {
				t.Errorf("May(%v) = %v", b, got)
			}
			for _, next := range append([]int{term - 1, term + 1}, numbers...) {
				got := See(b, next)
				if want := slowSee(b, next); got != want {
					t.Errorf("See(%v, %d) = %v, want %v", b, next, got, want)
				}
				checkKept(t, b, got)
				for _, from := range append([]int{vote}, numbers...) {
					checkGrant(t, b, api.Log{}, 0, 0, request(from, next, 0, 0))
				}
			}
		}
	}
}

func TestNumbersThatTurnAtTheEndOfTheLog(t *testing.T) {
	for _, c := range logs {
		for _, index := range append([]int{c.index - 1, c.index, c.index + 1}, numbers...) {
			for _, of := range append([]int{c.term - 1, c.term, c.term + 1}, numbers...) {
				for _, term := range []int{-1, 5, 6, 7, 1 << 30, 1<<30 + 1} {
					for _, from := range []int{0, 2, 3, 17} {
						for _, vote := range []int{0, 2, 17} {
							checkGrant(t, api.Ballot{Term: 6, Vote: vote}, c.log, c.index, c.term, request(from, term, index, of))
						}
					}
				}
			}
		}
	}
}

// Each set of reasons to refuse is there at least once, so that none of them
// hides behind another one.
func TestAllReasonsAtOnce(t *testing.T) {
	seen := map[int]int{}
	for _, term := range []int{5, 6, 7, 1<<30 + 1} {
		for _, vote := range []int{0, 2, 17} {
			for _, from := range []int{0, 2, 17} {
				for _, index := range []int{2, 3} {
					b, ask := api.Ballot{Term: 6, Vote: vote}, request(from, term, index, 2)
					checkGrant(t, b, logOf(0, 0, 1, 1, 2), 3, 2, ask)
					seen[slowReasons(b, 3, 2, ask)]++
				}
			}
		}
	}
	for n := range 5 {
		if seen[n] == 0 {
			t.Errorf("no request with %d reasons to refuse it", n)
		}
	}
}

// P5.3

// step is a ballot that a member came to, and what was granted on the way.
type step struct {
	b       api.Ballot
	granted map[int]int // term: candidate
}

// follow asks in all orders for the votes of some candidates in some terms,
// and sees to it that in one term at most one has it.
func follow(t *testing.T, s step, l api.Log, asks []api.Msg, left int) {
	if left == 0 {
		return
	}
	for _, ask := range asks {
		next, yes := Grant(s.b, l, ask)
		checkKept(t, s.b, next)
		to := s.granted[ask.Term]
		if yes && to != 0 && to != ask.From {
			t.Fatalf("in the term %d the vote was given to %d, then to %d", ask.Term, to, ask.From)
		}
		if !yes && to == ask.From && next.Term == ask.Term {
			t.Fatalf("in the term %d the vote was given to %d, then not", ask.Term, to)
		}
		if yes {
			s.granted[ask.Term] = ask.From
		}
		follow(t, step{next, s.granted}, l, asks, left-1)
		s.granted[ask.Term] = to
	}
}

func TestAtMostOneInATerm(t *testing.T) {
	var asks []api.Msg
	for term := 1; term <= 3; term++ {
		for from := 1; from <= 3; from++ {
			asks = append(asks, request(from, term, from, 2))
		}
	}
	for _, l := range []api.Log{{}, logOf(0, 0, 1, 2), logOf(0, 0, 1, 1, 2)} {
		follow(t, step{granted: map[int]int{}}, l, asks, 5)
	}
}

// A candidate that has the votes of a majority is the only one of its term,
// whatever the members see between.
func TestOneMajorityInATerm(t *testing.T) {
	// The order in which three candidates come to each of five members, as the
	// digits of a number.
	orders := [][]int{{1, 2, 3}, {1, 3, 2}, {2, 1, 3}, {2, 3, 1}, {3, 1, 2}, {3, 2, 1}}
	for n := range 6 * 6 * 6 * 6 * 6 {
		votes, rest := [4]int{}, n
		for range 5 {
			b := api.Ballot{Term: 1, Vote: 4}
			for _, from := range orders[rest%6] {
				next, yes := Grant(b, api.Log{}, request(from, 2, 0, 0))
				b = See(next, 1)
				if yes {
					votes[from]++
				}
			}
			rest /= 6
		}
		if votes[1]+votes[2]+votes[3] != 5 {
			t.Fatalf("five members gave the votes %v", votes[1:])
		}
	}
}

// R3: the log and the request stay as they are.

func TestGrantLeavesItsArgumentsAlone(t *testing.T) {
	l, ask := logOf(5, 3, 3, 4), request(2, 6, 7, 4)
	ask.L = logOf(0, 0, 8, 9).L
	keptLog, keptAsk := slices.Clone(l.L), slices.Clone(ask.L)
	for _, term := range []int{5, 6, 7} {
		ask.Term = term
		Grant(api.Ballot{Term: 6}, l, ask)
		if !slices.Equal(l.L, keptLog) || !slices.Equal(ask.L, keptAsk) {
			t.Errorf("the arguments were changed to %v and %v", l, ask)
		}
	}
}

// P1: no ballot, no log and no request make a call panic.

func FuzzGrant(f *testing.F) {
	f.Add(0, 0, []byte{1, 1, 2}, 2, 1, 3, 2)
	f.Add(6, 2, []byte{}, 2, 6, 0, 0)
	f.Add(1<<30, 16, []byte{4}, 16, 1<<30+1, 1, 4)
	f.Add(least, greatest, []byte{2, 1}, greatest, least, least, greatest)
	f.Fuzz(func(t *testing.T, term, vote int, terms []byte, from, asked, index, of int) {
		var l api.Log
		last, lastTerm := 0, 0
		for _, c := range terms[:min(len(terms), 64)] {
			lastTerm = max(lastTerm, int(c), 1)
			l.L = append(l.L, api.Entry{Term: lastTerm})
			last++
		}
		b := api.Ballot{Term: term, Vote: vote}
		if May(b) != slowMay(b) || See(b, asked) != slowSee(b, asked) {
			t.Fatalf("May(%v) = %v, See of %d = %v", b, May(b), asked, See(b, asked))
		}
		checkGrant(t, b, l, last, lastTerm, request(from, asked, index, of))
	})
}
