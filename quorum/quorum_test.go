package quorum

import (
	"math"
	"math/bits"
	"slices"
	"testing"

	"suture/api"
)

const (
	least    = math.MinInt
	greatest = math.MaxInt
)

// numbers are counts, indices and terms at which something turns.
var numbers = []int{least, least + 1, -1 << 40, -65, -2, -1, 0, 1, 2, 3, 4, 5, 15, 16, 17, 63, 64, 65,
	1<<30 - 1, 1 << 30, 1<<30 + 1, 1 << 32, 1<<32 + 1, 1<<40 - 1, 1 << 40, 1<<40 + 1, 1<<40 + 64, 1<<40 + 65,
	greatest - 1, greatest}

// logOf is a log whose entries have these terms.
func logOf(base, baseTerm int, terms ...int) api.Log {
	l := api.Log{Base: base, BaseTerm: baseTerm}
	for i, term := range terms {
		l.L = append(l.L, api.Entry{Term: term, Cmd: api.Cmd{Client: 1, Seq: i + 1, Kind: api.Write, A: term}})
	}
	return l
}

// logs are the leader's, with whether they are valid.
var logs = []struct {
	name  string
	log   api.Log
	valid bool
}{
	{"the empty log", api.Log{}, true},
	{"no entries, a slice of none", api.Log{L: []api.Entry{}}, true},
	{"one entry", logOf(0, 0, 1), true},
	{"the terms 1 1 2", logOf(0, 0, 1, 1, 2), true},
	{"the terms 1 3 3 4 4 6", logOf(0, 0, 1, 3, 3, 4, 4, 6), true},
	{"a Base", logOf(5, 3), true},
	{"a Base of the term 0", logOf(5, 0), true},
	{"a Base, and entries", logOf(5, 3, 3, 4), true},
	{"a Base of the term 0, and entries", logOf(5, 0, 1, 2), true},
	{"64 entries", logOf(0, 0, slices.Repeat([]int{2}, 64)...), true},
	{"the greatest Base, its term, and entries", logOf(1<<40, 1<<30, 1<<30, 1<<30), true},
	{"the greatest Base, and 64 entries", logOf(1<<40, 2, slices.Repeat([]int{2}, 64)...), true},
	{"a log that may not be: decreasing terms", logOf(0, 0, 2, 1), false},
	{"a log that may not be: the term 0", logOf(0, 0, 0, 1), false},
	{"a log that may not be: Base -1", logOf(-1, 0, 1, 1), false},
	{"a log that may not be: the least Base", logOf(least, 0, 1, 1), false},
	{"a log that may not be: the greatest Base", logOf(greatest, 1, 1, 1), false},
	{"a log that may not be: BaseTerm at Base 0", logOf(0, 3, 3), false},
	{"a log that may not be: BaseTerm -1", logOf(5, -1, 3), false},
	{"a log that may not be: 65 entries", logOf(0, 0, slices.Repeat([]int{2}, 65)...), false},
	{"a log that may not be: Base 2^40 + 1", logOf(1<<40+1, 3, 3), false},
	{"a log that may not be: the greatest term", logOf(0, 0, greatest), false},
}

// The slow calls say the chapter's words once more, and try all numbers that
// may be the answer.

func slowHeld(match []int, i int) int {
	less := 0
	for _, m := range match {
		if m < i {
			less++
		}
	}
	return len(match) - less
}

// slowMost tries the elements alone: how many are at least a number changes
// at them only.
func slowMost(match []int) int {
	if len(match) == 0 {
		return 0
	}
	best := slices.Min(match)
	for _, m := range match {
		if m > best && slowHeld(match, m) > len(match)/2 {
			best = m
		}
	}
	return best
}

// slowTerms is the terms that a log tells, by their indices.
func slowTerms(l api.Log, valid bool) map[int]int {
	if !valid {
		return map[int]int{0: 0}
	}
	terms := map[int]int{l.Base: l.BaseTerm}
	for n, e := range l.L {
		terms[l.Base+1+n] = e.Term
	}
	return terms
}

func slowCommit(l api.Log, valid bool, match []int, term, settled int) int {
	best, most := settled, slowMost(match)
	for i, there := range slowTerms(l, valid) {
		if there == term && i > best && i <= most {
			best = i
		}
	}
	return best
}

// check holds what the calls answer against the slow ones, and against P6.3.
func check(t *testing.T, l api.Log, valid bool, match []int, term, settled int) {
	t.Helper()
	got := Commit(l, match, term, settled)
	if want := slowCommit(l, valid, match, term, settled); got != want {
		t.Fatalf("Commit(%v, %v, %d, %d) = %d, want %d", l, match, term, settled, got, want)
	}
	if got < settled {
		t.Fatalf("Commit(%v, %v, %d, %d) = %d, which is less", l, match, term, settled, got)
	}
	if got > settled && len(match) > 0 && slowHeld(match, got) <= len(match)/2 {
		t.Fatalf("Commit(%v, %v, %d, %d) = %d, which no majority has", l, match, term, settled, got)
	}
	if again := Commit(l, match, term, got); again != got {
		t.Fatalf("Commit(%v, %v, %d, %d) = %d, and behind it %d", l, match, term, settled, got, again)
	}
}

// eachOf calls do with each list of n numbers of some.
func eachOf(some []int, n int, do func([]int)) {
	eachBehind(nil, some, n, do)
}

func eachBehind(list, some []int, n int, do func([]int)) {
	if n == 0 {
		do(list)
		return
	}
	for _, x := range some {
		eachBehind(append(slices.Clone(list), x), some, n-1, do)
	}
}

// P6.1

func TestMajority(t *testing.T) {
	for _, c := range []struct{ n, want int }{
		{1, 1}, {2, 2}, {3, 2}, {4, 3}, {5, 3}, {6, 4}, {7, 4}, {8, 5}, {15, 8}, {16, 9}, {17, 9},
		{0, 1}, {-1, 1}, {-2, 1}, {-3, 1}, {-4, 1}, {-5, 1}, {-1000, 1}, {least, 1}, {least + 1, 1},
		{1 << 30, 1<<29 + 1}, {1<<30 + 1, 1<<29 + 1}, {1<<31 - 1, 1 << 30}, {1 << 32, 1<<31 + 1},
		{1 << 40, 1<<39 + 1}, {greatest - 1, 1 << 62}, {greatest, 1 << 62},
	} {
		if got := Majority(c.n); got != c.want {
			t.Errorf("Majority(%d) = %d, want %d", c.n, got, c.want)
		}
	}
}

func TestMajorityIsTheLeastThatIsMoreThanHalf(t *testing.T) {
	for n := 1; n <= 1000; n++ {
		k := Majority(n)
		if 2*k <= n || 2*(k-1) > n {
			t.Errorf("Majority(%d) = %d", n, k)
		}
	}
}

func TestHeld(t *testing.T) {
	for _, c := range []struct {
		name  string
		match []int
		i     int
		want  int
	}{
		{"none", nil, 0, 0},
		{"none, a slice of none", []int{}, 0, 0},
		{"none, the least number", nil, least, 0},
		{"one that is more", []int{5}, 4, 1},
		{"one that is it", []int{5}, 5, 1},
		{"one that is less", []int{5}, 6, 0},
		{"some", []int{5, 3, 7}, 5, 2},
		{"all", []int{5, 3, 7}, 3, 3},
		{"nobody", []int{5, 3, 7}, 8, 0},
		{"the same ones", []int{4, 4, 4, 4}, 4, 4},
		{"the same ones, one more", []int{4, 4, 4, 4}, 5, 0},
		{"the index 0", []int{0, 0, -1}, 0, 2},
		{"a negative index", []int{0, -3, -2, -1}, -2, 3},
		{"the least number", []int{least, 0, greatest}, least, 3},
		{"one above the least number", []int{least, 0, greatest}, least + 1, 2},
		{"the greatest number", []int{least, 0, greatest, greatest - 1}, greatest, 1},
		{"17 members", slices.Repeat([]int{2}, 17), 2, 17},
	} {
		if got := Held(c.match, c.i); got != c.want {
			t.Errorf("%s: Held(%v, %d) = %d, want %d", c.name, c.match, c.i, got, c.want)
		}
	}
}

func TestMost(t *testing.T) {
	for _, c := range []struct {
		name  string
		match []int
		want  int
	}{
		{"none", nil, 0},
		{"none, a slice of none", []int{}, 0},
		{"one", []int{5}, 5},
		{"one, negative", []int{-5}, -5},
		{"one, the least number", []int{least}, least},
		{"one, the greatest number", []int{greatest}, greatest},
		{"two: both are needed", []int{5, 3}, 3},
		{"two, the other way round", []int{3, 5}, 3},
		{"three", []int{5, 3, 7}, 5},
		{"three, increasing", []int{3, 5, 7}, 5},
		{"three, decreasing", []int{7, 5, 3}, 5},
		{"three, two the same at the top", []int{3, 7, 7}, 7},
		{"three, two the same at the bottom", []int{3, 7, 3}, 3},
		{"four: three are needed", []int{9, 1, 5, 3}, 3},
		{"four, three the same", []int{9, 9, 1, 9}, 9},
		{"four, two the same at the top", []int{9, 9, 1, 2}, 2},
		{"five", []int{9, 1, 5, 3, 7}, 5},
		{"five, three at the top", []int{0, 8, 8, 0, 8}, 8},
		{"five, two at the top", []int{0, 8, 0, 0, 8}, 0},
		{"six: four are needed", []int{6, 5, 4, 3, 2, 1}, 3},
		{"all the same", []int{4, 4, 4, 4}, 4},
		{"nobody has anything", []int{0, 0, 0}, 0},
		{"negative ones", []int{-1, -2, -3}, -2},
		{"below 0 and above", []int{-7, 7, -7, -6}, -7},
		{"the ends", []int{least, greatest, 0}, 0},
		{"the ends, two", []int{greatest, least}, least},
		{"the greatest number twice", []int{greatest, least, greatest}, greatest},
		{"greater than 2^32", []int{1<<32 + 1, 1, 1 << 32}, 1 << 32},
		{"16 members", []int{16, 1, 15, 2, 14, 3, 13, 4, 12, 5, 11, 6, 10, 7, 9, 8}, 8},
		{"17 members", []int{17, 16, 1, 15, 2, 14, 3, 13, 4, 12, 5, 11, 6, 10, 7, 9, 8}, 9},
	} {
		if got := Most(c.match); got != c.want {
			t.Errorf("%s: Most(%v) = %d, want %d", c.name, c.match, got, c.want)
		}
	}
}

func TestSmallMatches(t *testing.T) {
	for n := range 7 {
		eachOf([]int{-1, 0, 1, 2, 3}, n, func(match []int) {
			most := Most(match)
			if want := slowMost(match); most != want {
				t.Fatalf("Most(%v) = %d, want %d", match, most, want)
			}
			for i := -2; i <= 4; i++ {
				held := Held(match, i)
				if want := slowHeld(match, i); held != want {
					t.Fatalf("Held(%v, %d) = %d, want %d", match, i, held, want)
				}
				// What a majority has, and nothing else, is at most Most.
				if n > 0 && (held >= Majority(n)) != (i <= most) {
					t.Fatalf("of %v %d have %d, and a majority %d", match, held, i, most)
				}
			}
		})
	}
}

func TestMatchesThatTurn(t *testing.T) {
	for n := range 4 {
		eachOf(numbers, n, func(match []int) {
			if got, want := Most(match), slowMost(match); got != want {
				t.Fatalf("Most(%v) = %d, want %d", match, got, want)
			}
			for _, i := range numbers {
				if got, want := Held(match, i), slowHeld(match, i); got != want {
					t.Fatalf("Held(%v, %d) = %d, want %d", match, i, got, want)
				}
			}
		})
	}
}

func TestManyMembers(t *testing.T) {
	for _, n := range []int{99, 100, 4095, 4096, 100001} {
		match := make([]int, n)
		for i := range match {
			match[i] = i * 7919 % n
		}
		// The numbers from 0 to n-1, each once: so many are above.
		want := n - (n/2 + 1)
		if got := Most(match); got != want {
			t.Errorf("Most of %d = %d, want %d", n, got, want)
		}
		if got := Held(match, want); got != n/2+1 {
			t.Errorf("Held of %d = %d", n, got)
		}
	}
}

// P6.2

func TestCommitOfTheExamples(t *testing.T) {
	l, match := logOf(0, 0, 1, 1, 2), []int{3, 3, 1}
	settled := Commit(l, match, 2, 0)
	if settled != 3 {
		t.Errorf("Commit = %d", settled)
	}
	if settled = Commit(l, match, 1, settled); settled != 3 {
		t.Errorf("then Commit = %d", settled)
	}
}

func TestCommit(t *testing.T) {
	l := logOf(0, 0, 1, 1, 2, 2, 4) // the indices 1 to 5
	for _, c := range []struct {
		name          string
		l             api.Log
		match         []int
		term, settled int
		want          int
	}{
		{"all have all", l, []int{5, 5, 5}, 4, 0, 5},
		{"a majority has all", l, []int{5, 0, 5}, 4, 0, 5},
		{"only the leader has it", l, []int{5, 4, 4}, 4, 0, 0},
		{"only the leader has it, something settled", l, []int{5, 4, 4}, 4, 3, 3},
		{"half have it", l, []int{5, 5, 4, 4}, 4, 3, 3},
		{"more than half have it", l, []int{5, 5, 4, 5}, 4, 3, 5},
		{"the last of the term", l, []int{5, 5, 5}, 2, 0, 4},
		{"the last of the term that a majority has", l, []int{3, 3, 1}, 2, 0, 3},
		{"the last of the first term", l, []int{5, 5, 5}, 1, 0, 2},
		{"the first of the first term", l, []int{1, 1, 0}, 1, 0, 1},
		{"an earlier term, settled in between", l, []int{5, 5, 5}, 1, 1, 2},
		{"an earlier term, all of it settled", l, []int{5, 5, 5}, 1, 2, 2},
		{"an earlier term, more settled", l, []int{5, 5, 5}, 1, 3, 3},
		{"entries of earlier terms alone", l, []int{4, 4, 4}, 4, 0, 0},
		{"a term that no entry has, below others", l, []int{5, 5, 5}, 3, 0, 0},
		{"a term that no entry has, above all", l, []int{5, 5, 5}, 5, 0, 0},
		{"a term that no entry has, something settled", l, []int{5, 5, 5}, 3, 2, 2},
		{"the term 0", l, []int{5, 5, 5}, 0, 0, 0},
		{"the term -1", l, []int{5, 5, 5}, -1, 0, 0},
		{"the least term", l, []int{5, 5, 5}, least, 0, 0},
		{"the greatest term", l, []int{5, 5, 5}, greatest, 0, 0},
		{"2^32 + 4", l, []int{5, 5, 5}, 1<<32 + 4, 0, 0},

		{"one member", l, []int{5}, 4, 0, 5},
		{"no members", l, nil, 4, 0, 0},
		{"no members, something settled", l, nil, 4, 2, 2},
		{"nobody has anything", l, []int{0, 0, 0}, 4, 0, 0},
		{"negative matches", l, []int{-1, -1, -1}, 4, 0, 0},
		{"the least matches", l, []int{least, least, least}, 1, 0, 0},
		{"more than there is", l, []int{6, 6, 6}, 4, 0, 5},
		{"more than there is, of an earlier term", l, []int{9, 9, 9}, 2, 0, 4},
		{"the greatest matches", l, []int{greatest, greatest, greatest}, 1, 0, 2},
		{"2^32 + 3", l, []int{1<<32 + 3, 1<<32 + 3}, 4, 0, 5},

		{"settled is all", l, []int{5, 5, 5}, 4, 5, 5},
		{"settled is all but the last", l, []int{5, 5, 5}, 4, 4, 5},
		{"settled is more than there is", l, []int{9, 9, 9}, 4, 7, 7},
		{"settled is more than a majority has", l, []int{3, 3, 3}, 2, 4, 4},
		{"settled is what a majority has", l, []int{3, 3, 3}, 2, 3, 3},
		{"settled is the greatest number", l, []int{greatest}, 4, greatest, greatest},
		{"settled is negative", l, []int{5, 5, 5}, 4, -1, 5},
		{"settled is negative, no such term", l, []int{5, 5, 5}, 3, -1, -1},
		{"settled is the least number", l, []int{5, 5, 5}, 2, least, 4},
		{"settled is the least number, no such term", l, []int{5, 5, 5}, 3, least, least},
		{"settled and matches are the least number", l, []int{least, least}, 1, least, least},
		{"settled is the least number, matches one more", l, []int{least + 1, least + 1}, 1, least, least},

		{"the empty log", api.Log{}, []int{5, 5, 5}, 1, 0, 0},
		{"the empty log, something settled", api.Log{}, []int{5, 5, 5}, 1, 3, 3},
		{"the empty log, the term 0", api.Log{}, []int{5, 5, 5}, 0, 0, 0},
		{"the empty log, the term 0, negative settled", api.Log{}, []int{5, 5, 5}, 0, -3, 0},
		{"the empty log, the term 0, no members", api.Log{}, nil, 0, -3, 0},
		{"the empty log, the term 0, negative matches", api.Log{}, []int{-1, -1}, 0, -3, -3},

		{"a Base", logOf(5, 3, 3, 4), []int{7, 7, 6}, 4, 0, 7},
		{"a Base, an entry behind it", logOf(5, 3, 3, 4), []int{7, 7, 6}, 3, 5, 6},
		{"a Base, which a majority has", logOf(5, 3, 3, 4), []int{7, 5, 5}, 3, 0, 5},
		{"a Base, which is settled", logOf(5, 3, 3, 4), []int{7, 5, 5}, 3, 5, 5},
		{"a Base, less than which a majority has", logOf(5, 3, 3, 4), []int{7, 4, 4}, 3, 0, 0},
		{"a Base, less than which a majority has, the term 0", logOf(5, 3, 3, 4), []int{7, 4, 4}, 0, 0, 0},
		{"a Base, the term ahead of it", logOf(5, 3, 3, 4), []int{7, 7, 7}, 2, 0, 0},
		{"a Base, the term ahead of it, the least settled", logOf(5, 3, 3, 4), []int{7, 7, 7}, 2, least, least},
		{"a Base alone", logOf(5, 3), []int{9, 9, 9}, 3, 2, 5},
		{"a Base of the term 0", logOf(5, 0, 1), []int{6, 6, 6}, 0, 2, 5},
		{"the greatest Base", logOf(1<<40, 7, 7, 8), []int{1<<40 + 1, 1<<40 + 2}, 7, 0, 1<<40 + 1},
		{"the greatest term", logOf(0, 0, 1<<30), []int{1, 1}, 1 << 30, 0, 1},

		{"a log that may not be", logOf(0, 0, 2, 1), []int{2, 2}, 1, 0, 0},
		{"a log that may not be, something settled", logOf(0, 0, 2, 1), []int{2, 2}, 2, 1, 1},
		{"a log that may not be, the term 0", logOf(5, -1, 2), []int{6, 6}, 0, -1, 0},
	} {
		if got := Commit(c.l, c.match, c.term, c.settled); got != c.want {
			t.Errorf("%s: Commit(%v, %v, %d, %d) = %d, want %d", c.name, c.l, c.match, c.term, c.settled, got, c.want)
		}
	}
}

func TestCommitOfEachLog(t *testing.T) {
	for _, c := range logs {
		last := c.log.Base + len(c.log.L)
		for _, term := range []int{-1, 0, 1, 2, 3, 4, 5, 6, 1 << 30} {
			for settled := c.log.Base - 2; settled <= c.log.Base+4; settled++ {
				for match := last - 3; match <= last+1; match++ {
					check(t, c.log, c.valid, []int{match, match, 0}, term, settled)
					check(t, c.log, c.valid, []int{match, 0, greatest}, term, settled)
					check(t, c.log, c.valid, []int{match}, term, settled)
				}
			}
		}
	}
}

func TestNumbersThatTurn(t *testing.T) {
	for _, c := range logs {
		for _, term := range numbers {
			for _, settled := range numbers {
				for _, match := range numbers {
					check(t, c.log, c.valid, []int{match}, term, settled)
				}
				check(t, c.log, c.valid, nil, term, settled)
			}
		}
	}
}

func TestSmallLogs(t *testing.T) {
	for n := range 4 {
		eachOf([]int{1, 2, 3}, n, func(terms []int) {
			valid := slices.IsSorted(terms)
			eachOf([]int{0, 1, 2, 3, 4}, 3, func(match []int) {
				for term := range 5 {
					for settled := -1; settled <= 4; settled++ {
						check(t, logOf(0, 0, terms...), valid, match, term, settled)
					}
				}
			})
		})
	}
}

// All four bounds of the index hold at once: each of them is at least once
// the one that decides, whichever others there are.
func TestEachBoundDecides(t *testing.T) {
	l := logOf(0, 0, 2, 2, 2, 3)
	for _, c := range []struct {
		name          string
		match         int
		term, settled int
		want          int
	}{
		{"the term", 4, 2, 0, 3},
		{"the match", 2, 2, 0, 2},
		{"the last index", 9, 3, 0, 4},
		{"settled", 2, 2, 2, 2},
		{"settled, above the match", 1, 2, 3, 3},
		{"settled, above the last index", 9, 3, 5, 5},
		{"settled, where the term would be lower", 4, 2, 3, 3},
		{"settled, where match and term would be lower", 2, 2, 4, 4},
	} {
		if got := Commit(l, []int{c.match, c.match, c.match}, c.term, c.settled); got != c.want {
			t.Errorf("%s: Commit = %d, want %d", c.name, got, c.want)
		}
	}
}

// P6.3

func TestTwoMajoritiesMeet(t *testing.T) {
	for n := 1; n <= 9; n++ {
		k := Majority(n)
		for a := range 1 << n {
			if bits.OnesCount(uint(a)) < k {
				continue
			}
			for b := range 1 << n {
				if bits.OnesCount(uint(b)) >= k && a&b == 0 {
					t.Fatalf("of %d the majorities %b and %b have nobody in common", n, a, b)
				}
			}
		}
	}
}

// A leader hears in all orders how far its members are: what is settled never
// decreases, and a majority has every entry up to it, even where a member is
// said to have less than before.
func TestSettledNeverDecreases(t *testing.T) {
	l := logOf(0, 0, 1, 1, 2, 2)
	eachOf([]int{0, 2, 3, 4}, 5, func(heard []int) {
		for _, term := range []int{1, 2, 3} {
			match, settled := []int{4, 0, 0}, 0
			for at, index := range heard {
				match[1+at%2] = index
				next := Commit(l, match, term, settled)
				if next < settled {
					t.Fatalf("settled was %d, and then %d", settled, next)
				}
				if next > settled && Held(match, next) < Majority(3) {
					t.Fatalf("%d is settled with %v", next, match)
				}
				settled = next
			}
		}
	})
}

// An entry of an earlier term is settled with one of the leader's own alone:
// a majority that has it may still lose it.
func TestAnEarlierTermWaits(t *testing.T) {
	match := []int{2, 2, 2, 0, 0}
	if got := Commit(logOf(0, 0, 1, 2), match, 4, 0); got != 0 {
		t.Errorf("Commit = %d", got)
	}
	match = []int{3, 3, 3, 0, 0}
	if got := Commit(logOf(0, 0, 1, 2, 4), match, 4, 0); got != 3 {
		t.Errorf("Commit = %d", got)
	}
}

// R3: the matches and the log stay as they are, and so does what lies behind
// them in the same memory.

func TestTheArgumentsStay(t *testing.T) {
	whole := []int{5, 3, 7, 1, 9, 8, 0, -1}
	kept := slices.Clone(whole)
	l := logOf(0, 0, 1, 1, 2, 2, 2, 3)
	l.L = l.L[:5]
	keptLog := slices.Clone(l.L[:6])
	for n := range len(whole) {
		match := whole[:n]
		Held(match, 3)
		Most(match)
		for _, term := range []int{1, 2, 3} {
			Commit(l, match, term, 0)
		}
		if !slices.Equal(whole, kept) || !slices.Equal(l.L[:6], keptLog) {
			t.Fatalf("the arguments were changed to %v and %v", whole, l.L[:6])
		}
	}
}

// R5: the order of the matches, and calls ahead, change nothing.
func TestTheOrderOfTheMatchesDoesNotCount(t *testing.T) {
	l := logOf(0, 0, 1, 1, 2, 2, 2)
	eachOf([]int{0, 2, 3, 5}, 5, func(match []int) {
		back := slices.Clone(match)
		slices.Reverse(back)
		if Most(match) != Most(back) || Held(match, 3) != Held(back, 3) || Commit(l, match, 2, 1) != Commit(l, back, 2, 1) {
			t.Fatalf("%v and %v differ", match, back)
		}
	})
}

// P1: no log, no matches and no numbers make a call panic, or go on for long.

func FuzzCommit(f *testing.F) {
	f.Add(0, 0, []byte{1, 1, 2}, 3, 3, 1, []byte{}, 2, 0)
	f.Add(5, 3, []byte{3, 4}, 7, 7, 6, []byte{5, 5}, 4, 0)
	f.Add(1<<40, 1<<30, []byte{}, least, greatest, 0, []byte{1}, 0, least)
	f.Add(greatest, least, []byte{2, 1}, greatest, least, least, []byte{9}, least, greatest)
	f.Fuzz(func(t *testing.T, base, baseTerm int, terms []byte, a, b, c int, more []byte, term, settled int) {
		l := api.Log{Base: base, BaseTerm: baseTerm}
		valid := base >= 0 && base <= 1<<40 && baseTerm >= 0 && baseTerm <= 1<<30 && (base > 0 || baseTerm == 0)
		valid = valid && len(terms) <= 64
		ahead := max(baseTerm, 1)
		for _, x := range terms {
			valid = valid && int(x) >= ahead
			ahead = max(ahead, int(x))
			l.L = append(l.L, api.Entry{Term: int(x)})
		}
		match := []int{a, b, c}
		for _, x := range more {
			match = append(match, base+int(x))
		}
		if Most(match) != slowMost(match) || Held(match, settled) != slowHeld(match, settled) {
			t.Fatalf("Most(%v) = %d, Held of %d = %d", match, Most(match), settled, Held(match, settled))
		}
		if got := Majority(a); got < 1 || a >= 1 && got-1 != a/2 {
			t.Fatalf("Majority(%d) = %d", a, got)
		}
		check(t, l, valid, match, term, settled)
		check(t, l, valid, match[:2], term, settled)
		check(t, l, valid, nil, term, settled)
	})
}
