package entries

import (
	"math"
	"slices"
	"testing"

	"suture/api"
)

// row is entries of these terms, each with a command of its own, so that it is
// seen which of two entries of one term stands in a log.
func row(client int, terms ...int) []api.Entry {
	var l []api.Entry
	for i, term := range terms {
		l = append(l, api.Entry{Term: term, Cmd: api.Cmd{Client: client, Seq: i + 1, Kind: api.Write, A: term, B: -i, C: 7}})
	}
	return l
}

// old and added are the clients of the entries of a log, and of those that are
// added to it.
const (
	old   = 1
	added = 2
)

func logOf(base, baseTerm int, terms ...int) api.Log {
	return api.Log{Base: base, BaseTerm: baseTerm, L: row(old, terms...)}
}

// times is n times the same term.
func times(n, term int) []int { return slices.Repeat([]int{term}, n) }

func cloned(l api.Log) api.Log {
	l.L = slices.Clone(l.L)
	return l
}

func same(l, m api.Log) bool {
	return l.Base == m.Base && l.BaseTerm == m.BaseTerm && slices.Equal(l.L, m.L)
}

// nothing tells whether l is the zero value that stands beside an error.
func nothing(l api.Log) bool { return same(l, api.Log{}) && l.L == nil }

const (
	least    = math.MinInt
	greatest = math.MaxInt
)

// numbers are indices, terms and counts at which something turns.
var numbers = []int{least, least + 1, -1 << 40, -65, -64, -2, -1, 0, 1, 2, 3, 4, 5, 6, 7, 8, 9, 10,
	63, 64, 65, 66, 1<<30 - 1, 1 << 30, 1<<30 + 1, 1 << 32, 1<<40 - 1, 1 << 40, 1<<40 + 1, 1<<40 + 64, 1<<40 + 65,
	greatest - 65, greatest - 64, greatest - 1, greatest}

var validLogs = []struct {
	name string
	log  api.Log
}{
	{"the empty log", api.Log{}},
	{"no entries, a slice of none", api.Log{L: []api.Entry{}}},
	{"the chapter's", logOf(0, 0, 1, 1, 2)},
	{"one entry", logOf(0, 0, 1)},
	{"one entry of the greatest term", logOf(0, 0, 1<<30)},
	{"terms that leave some out", logOf(0, 0, 3, 9, 9, 100)},
	{"63 entries", logOf(0, 0, times(63, 4)...)},
	{"64 entries", logOf(0, 0, times(64, 4)...)},
	{"64 entries behind a Base", logOf(5, 4, times(64, 4)...)},
	{"a Base of the term 0", logOf(1, 0)},
	{"a Base of the term 0, and entries", logOf(7, 0, 1, 2)},
	{"a Base", logOf(5, 3)},
	{"a Base, and entries of its term", logOf(5, 3, 3, 3, 4)},
	{"a Base, and entries of a greater term", logOf(5, 3, 8, 9)},
	{"the greatest Base", logOf(1<<40, 1)},
	{"the greatest Base, and entries", logOf(1<<40, 1, 2, 3)},
	{"the greatest Base, its term, and 64 entries", logOf(1<<40, 1<<30, times(64, 1<<30)...)},
}

var wrongLogs = []struct {
	name string
	log  api.Log
}{
	{"Base -1", logOf(-1, 0)},
	{"Base -1, a term and entries", logOf(-1, 1, 1, 2)},
	{"the least Base", logOf(least, 0, 1)},
	{"Base 2^40 + 1", logOf(1<<40+1, 1, 1)},
	{"the greatest number as Base", logOf(greatest, 1, 1, 1)},
	{"BaseTerm 1 at Base 0", logOf(0, 1)},
	{"BaseTerm 1 at Base 0, and entries", logOf(0, 1, 1, 2)},
	{"BaseTerm 2^30 at Base 0", logOf(0, 1<<30)},
	{"BaseTerm -1", logOf(5, -1, 1)},
	{"BaseTerm -1 at Base 0", logOf(0, -1, 1)},
	{"the least BaseTerm", logOf(5, least)},
	{"BaseTerm 2^30 + 1", logOf(5, 1<<30+1)},
	{"the greatest number as BaseTerm", logOf(5, greatest)},
	{"65 entries", logOf(0, 0, times(65, 1)...)},
	{"65 entries behind a Base", logOf(9, 1, times(65, 1)...)},
	{"1000 entries", logOf(0, 0, times(1000, 1)...)},
	{"a term 0", logOf(0, 0, 0)},
	{"a term 0 behind a Base of the term 0", logOf(5, 0, 0, 1)},
	{"a term -1", logOf(0, 0, -1)},
	{"the least term", logOf(0, 0, least, 1)},
	{"a term 2^30 + 1", logOf(0, 0, 1<<30+1)},
	{"a term 2^30 + 1 at the end", logOf(5, 3, 3, 4, 1<<30+1)},
	{"the greatest number as a term", logOf(0, 0, 1, greatest)},
	{"a first term less than BaseTerm", logOf(5, 3, 2)},
	{"a first term less than BaseTerm, then greater ones", logOf(5, 3, 2, 3, 4)},
	{"a decreasing term", logOf(0, 0, 2, 1)},
	{"a decreasing term in the middle", logOf(0, 0, 1, 3, 2, 3)},
	{"a decreasing term at the end of 64", logOf(0, 0, append(times(63, 5), 4)...)},
	{"a term 0 in the middle", logOf(0, 0, 1, 0, 1)},
	{"a term 0 at the end", logOf(0, 0, 1, 0)},
}

// The slow calls turn the chapter's words round: entries are looked up by
// their index, and each condition stands alone.

func slowMay(l api.Log) bool {
	wrong := 0
	if !(0 <= l.Base && l.Base <= 1099511627776) {
		wrong++
	}
	if !(0 <= l.BaseTerm && l.BaseTerm <= 1073741824) {
		wrong++
	}
	if l.Base == 0 && l.BaseTerm > 0 {
		wrong++
	}
	if len(l.L) >= 65 {
		wrong++
	}
	for i, e := range l.L {
		if e.Term < 1 || e.Term > 1073741824 || e.Term < l.BaseTerm || i > 0 && e.Term < l.L[i-1].Term {
			wrong++
		}
	}
	return wrong == 0
}

// byIndex is the entries of l; they are told apart from none by their term.
func byIndex(l api.Log) map[int]api.Entry {
	m := map[int]api.Entry{}
	for i, e := range l.L {
		m[l.Base+1+i] = e
	}
	return m
}

func slowLast(l api.Log) (int, int) {
	if !slowMay(l) {
		return 0, 0
	}
	index, term := l.Base, l.BaseTerm
	for i, e := range byIndex(l) {
		if i > index {
			index, term = i, e.Term
		}
	}
	return index, term
}

func slowTerm(l api.Log, i int) (int, bool) {
	if !slowMay(l) {
		return 0, i == 0
	}
	if e, ok := byIndex(l)[i]; ok {
		return e.Term, true
	}
	if i == l.Base {
		return l.BaseTerm, true
	}
	return 0, false
}

func slowFrom(l api.Log, i, most int) []api.Entry {
	var out []api.Entry
	if !slowMay(l) || i <= l.Base {
		return nil
	}
	m := byIndex(l)
	for e, ok := m[i]; ok && len(out) < most; e, ok = m[i] {
		out = append(out, e)
		i++
	}
	return out
}

func slowAddError(l api.Log, index, term int, more []api.Entry) api.Errno {
	arg := !slowMay(l)
	for i, e := range more {
		arg = arg || e.Term < 1 || e.Term > 1073741824 || e.Term < term || i > 0 && e.Term < more[i-1].Term
	}
	last, _ := slowLast(l)
	there, _ := slowTerm(l, index)
	for _, c := range []struct {
		applies bool
		err     api.Errno
	}{{arg, api.ErrArg}, {index < l.Base, api.ErrStale}, {index > last, api.ErrGap}, {there != term, api.ErrState}} {
		if c.applies {
			return c.err
		}
	}
	return api.OK
}

func slowAdd(l api.Log, index, term int, more []api.Entry) (api.Log, api.Errno) {
	if err := slowAddError(l, index, term, more); err != api.OK {
		return api.Log{}, err
	}
	m := byIndex(l)
	changed := false
	for i, e := range more {
		at := index + 1 + i
		if have, ok := m[at]; changed || !ok || have.Term != e.Term {
			if !changed {
				for j := at; j <= l.Base+len(l.L); j++ {
					delete(m, j)
				}
			}
			changed = true
			m[at] = e
		}
	}
	if len(m) > 64 {
		return api.Log{}, api.ErrFull
	}
	out := api.Log{Base: l.Base, BaseTerm: l.BaseTerm}
	for i := range len(m) {
		out.L = append(out.L, m[l.Base+1+i])
	}
	return out, api.OK
}

func slowPack(l api.Log, i int) (api.Log, api.Errno) {
	if i > 1099511627776 || !slowMay(l) {
		return api.Log{}, api.ErrArg
	}
	if i < l.Base {
		return api.Log{}, api.ErrStale
	}
	if last, _ := slowLast(l); i > last {
		return api.Log{}, api.ErrGap
	}
	term, _ := slowTerm(l, i)
	out := api.Log{Base: i, BaseTerm: term}
	m := byIndex(l)
	for j := i + 1; j <= l.Base+len(l.L); j++ {
		out.L = append(out.L, m[j])
	}
	return out, api.OK
}

// P4.1

func TestMay(t *testing.T) {
	for _, c := range validLogs {
		if !May(c.log) {
			t.Errorf("%s: May = false", c.name)
		}
	}
	for _, c := range wrongLogs {
		if May(c.log) {
			t.Errorf("%s: May = true", c.name)
		}
	}
}

func TestMayLooksAtEachEntry(t *testing.T) {
	for n := 1; n <= 64; n++ {
		for at := range n {
			for _, wrong := range []int{least, -1, 0, 4, 1<<30 + 1, greatest} {
				l := logOf(9, 3, times(n, 5)...)
				l.L[at].Term = wrong
				if want := wrong == 4 && at == 0; May(l) != want {
					t.Fatalf("%d entries of the term 5, the one at %d of the term %d: May = %v", n, at, wrong, !want)
				}
			}
		}
	}
}

func TestMayLooksAtNumbers(t *testing.T) {
	for _, base := range numbers {
		for _, term := range numbers {
			for _, l := range []api.Log{logOf(base, term), logOf(base, term, 1, 5), logOf(base, term, 1<<30), logOf(9, 3, base, term)} {
				if got, want := May(l), slowMay(l); got != want {
					t.Errorf("May(%v) = %v, want %v", l, got, want)
				}
			}
		}
	}
}

func TestLast(t *testing.T) {
	for _, c := range []struct {
		log         api.Log
		index, term int
	}{
		{api.Log{}, 0, 0},
		{logOf(0, 0, 1, 1, 2), 3, 2},
		{logOf(0, 0, 7), 1, 7},
		{logOf(5, 3), 5, 3},
		{logOf(5, 0), 5, 0},
		{logOf(5, 3, 3), 6, 3},
		{logOf(5, 3, 4, 9), 7, 9},
		{logOf(0, 0, times(64, 2)...), 64, 2},
		{logOf(1<<40, 1<<30), 1 << 40, 1 << 30},
		{logOf(1<<40, 1, times(64, 2)...), 1<<40 + 64, 2},
	} {
		if index, term := Last(c.log); index != c.index || term != c.term {
			t.Errorf("Last(%v) = %d, %d, want %d, %d", c.log, index, term, c.index, c.term)
		}
	}
}

func TestTerm(t *testing.T) {
	for _, c := range []struct {
		log     api.Log
		i, term int
		ok      bool
	}{
		{logOf(0, 0, 1, 1, 2), -1, 0, false},
		{logOf(0, 0, 1, 1, 2), 0, 0, true},
		{logOf(0, 0, 1, 1, 2), 1, 1, true},
		{logOf(0, 0, 1, 1, 2), 2, 1, true},
		{logOf(0, 0, 1, 1, 2), 3, 2, true},
		{logOf(0, 0, 1, 1, 2), 4, 0, false},
		{api.Log{}, 0, 0, true},
		{api.Log{}, 1, 0, false},
		{api.Log{}, -1, 0, false},
		{logOf(5, 3, 4, 9), 0, 0, false},
		{logOf(5, 3, 4, 9), 4, 0, false},
		{logOf(5, 3, 4, 9), 5, 3, true},
		{logOf(5, 3, 4, 9), 6, 4, true},
		{logOf(5, 3, 4, 9), 7, 9, true},
		{logOf(5, 3, 4, 9), 8, 0, false},
		{logOf(5, 0), 5, 0, true},
		{logOf(5, 0), 6, 0, false},
		{logOf(1<<40, 1, times(64, 2)...), 1<<40 + 64, 2, true},
		{logOf(1<<40, 1, times(64, 2)...), 1<<40 + 65, 0, false},
	} {
		if term, ok := Term(c.log, c.i); term != c.term || ok != c.ok {
			t.Errorf("Term(%v, %d) = %d, %v, want %d, %v", c.log, c.i, term, ok, c.term, c.ok)
		}
	}
}

func TestTermOfEachIndex(t *testing.T) {
	for _, c := range validLogs {
		for i := c.log.Base - 3; i <= c.log.Base+len(c.log.L)+3; i++ {
			term, ok := Term(c.log, i)
			if want, is := slowTerm(c.log, i); term != want || ok != is {
				t.Errorf("%s: Term of %d = %d, %v, want %d, %v", c.name, i, term, ok, want, is)
			}
		}
	}
}

func TestWrongLogsAreEmptyOnes(t *testing.T) {
	for _, c := range wrongLogs {
		if index, term := Last(c.log); index != 0 || term != 0 {
			t.Errorf("%s: Last = %d, %d, want 0, 0", c.name, index, term)
		}
		for _, i := range append([]int{c.log.Base, c.log.Base + 1, c.log.Base + len(c.log.L)}, numbers...) {
			if term, ok := Term(c.log, i); term != 0 || ok != (i == 0) {
				t.Errorf("%s: Term of %d = %d, %v, want 0, %v", c.name, i, term, ok, i == 0)
			}
			if l := From(c.log, i, 8); len(l) != 0 {
				t.Errorf("%s: From of %d = %v, want nothing", c.name, i, l)
			}
		}
	}
}

func TestNewer(t *testing.T) {
	for _, c := range []struct {
		index, term, otherIndex, otherTerm int
		want                               bool
	}{
		{0, 0, 0, 0, true},
		{3, 2, 3, 2, true},
		{4, 2, 3, 2, true},
		{2, 2, 3, 2, false},
		{0, 3, 64, 2, true},
		{64, 2, 0, 3, false},
		{3, 1, 3, 2, false},
		{3, 2, 3, 1, true},
		{-1, -1, -1, -1, true},
		{least, greatest, greatest, least, true},
		{greatest, least, least, greatest, false},
		{greatest, 1, least, 1, true},
		{least, 1, greatest, 1, false},
	} {
		if got := Newer(c.index, c.term, c.otherIndex, c.otherTerm); got != c.want {
			t.Errorf("Newer(%d, %d, %d, %d) = %v", c.index, c.term, c.otherIndex, c.otherTerm, got)
		}
	}
}

func TestNewerGoesByTermThenByIndex(t *testing.T) {
	for _, term := range numbers {
		for _, otherTerm := range numbers {
			for _, index := range numbers {
				for _, otherIndex := range numbers {
					want := slices.Compare([]int{term, index}, []int{otherTerm, otherIndex}) >= 0
					if got := Newer(index, term, otherIndex, otherTerm); got != want {
						t.Fatalf("Newer(%d, %d, %d, %d) = %v", index, term, otherIndex, otherTerm, got)
					}
				}
			}
		}
	}
}

// P4.2

func TestAddOfTheExamples(t *testing.T) {
	l := logOf(0, 0, 1, 1, 2)
	got, err := Add(l, 1, 1, row(added, 1, 3))
	want := api.Log{L: []api.Entry{l.L[0], l.L[1], row(added, 1, 3)[1]}}
	if err != api.OK || !same(got, want) {
		t.Errorf("Add = %v, %d, want %v", got, err, want)
	}
	for _, more := range [][]api.Entry{nil, {}, row(added, 2), row(added, 2, 3, 3)} {
		if got, err := Add(l, 2, 2, more); err != api.ErrState || !nothing(got) {
			t.Errorf("Add(2, 2, %v) = %v, %d, want ErrState", more, got, err)
		}
		for term := range 3 {
			if got, err := Add(l, 5, term, more); err != api.ErrGap || !nothing(got) {
				t.Errorf("Add(5, %d, %v) = %v, %d, want ErrGap", term, more, got, err)
			}
		}
	}
}

func TestAdd(t *testing.T) {
	for _, c := range []struct {
		name        string
		log         api.Log
		index, term int
		more        []int
		kept        int // entries of log that stay
		from        int // the first of more that is added
	}{
		{"nothing to the empty log", api.Log{}, 0, 0, nil, 0, 0},
		{"the first entry", api.Log{}, 0, 0, []int{1}, 0, 0},
		{"the first entries", api.Log{}, 0, 0, []int{1, 1, 5}, 0, 0},
		{"64 entries", api.Log{}, 0, 0, times(64, 9), 0, 0},
		{"at the end", logOf(0, 0, 1, 1, 2), 3, 2, []int{2, 3}, 3, 0},
		{"the greatest term", logOf(0, 0, 1, 1, 2), 3, 2, []int{1 << 30, 1 << 30}, 3, 0},
		{"nothing at the end", logOf(0, 0, 1, 1, 2), 3, 2, nil, 3, 0},
		{"nothing in the middle", logOf(0, 0, 1, 1, 2), 1, 1, nil, 3, 0},
		{"nothing at the beginning", logOf(0, 0, 1, 1, 2), 0, 0, nil, 3, 0},
		{"all is there", logOf(0, 0, 1, 1, 2), 0, 0, []int{1, 1, 2}, 3, 3},
		{"all is there, and more behind it", logOf(0, 0, 1, 1, 2), 0, 0, []int{1, 1}, 3, 2},
		{"one is there, and more behind it", logOf(0, 0, 1, 1, 2, 2), 1, 1, []int{1}, 4, 1},
		{"the last one is there", logOf(0, 0, 1, 1, 2), 2, 1, []int{2}, 3, 1},
		{"all is there, and one more comes", logOf(0, 0, 1, 1, 2), 0, 0, []int{1, 1, 2, 2}, 3, 3},
		{"some are there, and more come", logOf(0, 0, 1, 1, 2), 2, 1, []int{2, 4, 4}, 3, 1},
		{"the first one is another one", logOf(0, 0, 1, 1, 2), 0, 0, []int{2}, 0, 0},
		{"the first one is another one, of more", logOf(0, 0, 1, 1, 2), 0, 0, []int{2, 2, 2}, 0, 0},
		{"a later one is another one", logOf(0, 0, 1, 1, 2), 0, 0, []int{1, 2, 2}, 1, 1},
		{"an earlier leader's come late", logOf(0, 0, 1, 3, 3), 1, 1, []int{2}, 1, 0},
		{"another one, then one of the same term", logOf(0, 0, 1, 1, 3), 0, 0, []int{1, 2, 3}, 1, 1},
		{"another one, then one of the same term, and more", logOf(0, 0, 1, 3, 3, 3), 1, 1, []int{2, 3, 3, 4}, 1, 0},
		{"fewer take the place of many", logOf(0, 0, 1, 1, 1, 1, 1, 1), 2, 1, []int{2}, 2, 0},
		{"behind a Base", logOf(5, 3), 5, 3, []int{3, 4}, 0, 0},
		{"behind a Base of the term 0", logOf(5, 0), 5, 0, []int{1, 4}, 0, 0},
		{"behind an entry behind a Base", logOf(5, 3, 3, 4), 6, 3, []int{5}, 1, 0},
		{"at the end behind a Base", logOf(5, 3, 3, 4), 7, 4, []int{4, 5}, 2, 0},
		{"all is there behind a Base", logOf(5, 3, 3, 4, 4), 5, 3, []int{3, 4}, 3, 2},
		{"behind the greatest Base", logOf(1<<40, 1<<30), 1 << 40, 1 << 30, times(64, 1<<30), 0, 0},
		{"at the end behind the greatest Base", logOf(1<<40, 1, 2, 2), 1<<40 + 2, 2, []int{3}, 2, 0},
	} {
		more := row(added, c.more...)
		got, err := Add(c.log, c.index, c.term, more)
		want := api.Log{Base: c.log.Base, BaseTerm: c.log.BaseTerm, L: slices.Concat(c.log.L[:c.kept], more[c.from:])}
		if err != api.OK || !same(got, want) {
			t.Errorf("%s: Add = %v, %d, want %v", c.name, got, err, want)
		}
	}
}

func TestAddKeepsTheEntriesThatAreThere(t *testing.T) {
	l := logOf(0, 0, 1, 1, 2, 2)
	got, err := Add(l, 0, 0, row(added, 1, 1, 2))
	if err != api.OK || !same(got, l) {
		t.Errorf("Add = %v, %d, want %v", got, err, l)
	}
}

func TestAddRefuses(t *testing.T) {
	full := logOf(0, 0, times(64, 4)...)
	for _, c := range []struct {
		name        string
		log         api.Log
		index, term int
		more        []int
		want        api.Errno
	}{
		{"a term 0", logOf(0, 0, 1), 1, 1, []int{0}, api.ErrArg},
		{"a term 0 behind nothing", api.Log{}, 0, 0, []int{0}, api.ErrArg},
		{"a term -1", api.Log{}, 0, 0, []int{-1}, api.ErrArg},
		{"a term -1 behind the term -1", api.Log{}, 0, -1, []int{-1}, api.ErrArg},
		{"a term 2^30 + 1", logOf(0, 0, 1), 1, 1, []int{1<<30 + 1}, api.ErrArg},
		{"a term 2^30 + 1 at the end", logOf(0, 0, 1), 1, 1, []int{1, 2, 1<<30 + 1}, api.ErrArg},
		{"a term less than the one ahead", logOf(0, 0, 1, 2), 2, 2, []int{1}, api.ErrArg},
		{"a term less than the one ahead, then greater ones", logOf(0, 0, 1, 2), 2, 2, []int{1, 2, 3}, api.ErrArg},
		{"a decreasing term", logOf(0, 0, 1), 1, 1, []int{3, 2}, api.ErrArg},
		{"a decreasing term behind those that are there", logOf(0, 0, 1, 2, 3), 0, 0, []int{1, 2, 3, 2}, api.ErrArg},
		{"a decreasing term in the middle", logOf(0, 0, 1), 1, 1, []int{1, 3, 2, 3}, api.ErrArg},
		{"a term 2^30 + 1 of both", logOf(0, 0, 1), 1, 1<<30 + 1, []int{1<<30 + 1}, api.ErrArg},
		{"a decreasing term, and an index below Base", logOf(5, 3, 3), 4, 3, []int{4, 3}, api.ErrArg},
		{"a decreasing term, and an index behind the end", logOf(5, 3, 3), 7, 3, []int{4, 3}, api.ErrArg},
		{"a decreasing term, and another term ahead", logOf(5, 3, 3), 6, 2, []int{4, 3}, api.ErrArg},
		{"a decreasing term, and too many", full, 64, 4, []int{5, 4}, api.ErrArg},
		{"a term less than the one ahead, which is another one", logOf(0, 0, 1, 2), 2, 3, []int{2}, api.ErrArg},
		{"all at once", logOf(-1, 0, times(65, 1)...), -2, 9, times(65, 1), api.ErrArg},
		{"an index below Base", logOf(5, 3, 3), 4, 3, []int{3}, api.ErrStale},
		{"an index below Base, nothing added", logOf(5, 3, 3), 4, 3, nil, api.ErrStale},
		{"an index below Base, of the term 0", logOf(5, 3, 3), 0, 0, []int{1}, api.ErrStale},
		{"an index below Base, and another term", logOf(5, 3, 3), 4, 9, []int{9}, api.ErrStale},
		{"an index below Base, and too many", logOf(5, 3, 3), 4, 3, times(70, 3), api.ErrStale},
		{"the index -1", api.Log{}, -1, 0, []int{1}, api.ErrStale},
		{"the least index", logOf(1<<40, 1, 1), least, 1, []int{1}, api.ErrStale},
		{"an index behind the end", logOf(0, 0, 1, 1, 2), 4, 2, []int{2}, api.ErrGap},
		{"an index behind the end, nothing added", logOf(0, 0, 1, 1, 2), 4, 2, nil, api.ErrGap},
		{"an index behind the end, of the term 0", logOf(0, 0, 1, 1, 2), 4, 0, nil, api.ErrGap},
		{"an index behind the end, and another term", logOf(0, 0, 1, 1, 2), 4, 7, []int{7}, api.ErrGap},
		{"an index behind the end, and too many", full, 65, 4, []int{4}, api.ErrGap},
		{"an index behind no entries", api.Log{}, 1, 0, []int{1}, api.ErrGap},
		{"an index behind a Base without entries", logOf(5, 3), 6, 3, []int{3}, api.ErrGap},
		{"the greatest index", logOf(1<<40, 1, 1), greatest, 1, []int{1}, api.ErrGap},
		{"another term", logOf(0, 0, 1, 1, 2), 3, 1, []int{2}, api.ErrState},
		{"another term, greater", logOf(0, 0, 1, 1, 2), 3, 3, []int{3}, api.ErrState},
		{"another term, nothing added", logOf(0, 0, 1, 1, 2), 3, 3, nil, api.ErrState},
		{"another term of the index 0", logOf(0, 0, 1, 1, 2), 0, 1, []int{1}, api.ErrState},
		{"another term of Base", logOf(5, 3, 3), 5, 2, []int{3}, api.ErrState},
		{"the term of the next index", logOf(0, 0, 1, 2, 3), 2, 3, []int{3}, api.ErrState},
		{"another term, and too many", full, 64, 5, []int{5}, api.ErrState},
		{"the term -1, nothing added", api.Log{}, 0, -1, nil, api.ErrState},
		{"the greatest term, nothing added", logOf(0, 0, 1), 1, greatest, nil, api.ErrState},
		{"one more than 64", full, 64, 4, []int{4}, api.ErrFull},
		{"one more than 64, of another term", full, 64, 4, []int{5}, api.ErrFull},
		{"65 at once", api.Log{}, 0, 0, times(65, 1), api.ErrFull},
		{"65 at once, of which some are there", logOf(0, 0, 1, 1, 1), 0, 0, times(65, 1), api.ErrFull},
		{"65 at once, of which 64 are there", full, 0, 0, times(65, 4), api.ErrFull},
		{"64 behind one", logOf(0, 0, 1), 1, 1, times(64, 1), api.ErrFull},
		{"64 behind one, behind a Base", logOf(5, 1, 1), 6, 1, times(64, 1), api.ErrFull},
		{"65 in the place of 64 others", full, 0, 0, times(65, 5), api.ErrFull},
		{"65 behind the greatest Base", logOf(1<<40, 1), 1 << 40, 1, times(65, 1), api.ErrFull},
		{"1000 at once", api.Log{}, 0, 0, times(1000, 1), api.ErrFull},
	} {
		if got, err := Add(c.log, c.index, c.term, row(added, c.more...)); err != c.want || !nothing(got) {
			t.Errorf("%s: Add = %v, %d, want nothing, %d", c.name, got, err, c.want)
		}
	}
}

func TestAddRefusesWrongLogs(t *testing.T) {
	for _, c := range wrongLogs {
		for _, index := range []int{c.log.Base - 1, c.log.Base, c.log.Base + len(c.log.L), 0, 70, greatest} {
			for _, term := range []int{0, 1, c.log.BaseTerm} {
				for _, more := range [][]int{nil, {1}, {1 << 30}, {2, 1}, times(65, 1)} {
					if got, err := Add(c.log, index, term, row(added, more...)); err != api.ErrArg || !nothing(got) {
						t.Errorf("%s: Add(%d, %d, %v) = %v, %d, want nothing, ErrArg", c.name, index, term, more, got, err)
					}
				}
			}
		}
	}
}

func TestAddTakesUpTo64(t *testing.T) {
	for _, base := range []int{0, 1, 5, 1 << 40} {
		for kept := range 65 {
			l := logOf(base, 0, times(kept, 4)...)
			term := 4
			if kept == 0 {
				term = 0
			}
			for count := range 70 {
				more := row(added, times(count, 5)...)
				got, err := Add(l, base+kept, term, more)
				want, slow := slowAdd(l, base+kept, term, more)
				if err != slow || (err == api.ErrFull) != (kept+count > 64) || !same(got, want) {
					t.Fatalf("%d behind %d: Add = %d entries, %d", count, kept, len(got.L), err)
				}
			}
		}
	}
}

func TestAddToAFullLog(t *testing.T) {
	full := logOf(9, 2, times(64, 4)...)
	for at := range 65 {
		term := 4
		if at == 0 {
			term = 2
		}
		for count := range 70 {
			for _, next := range []int{4, 5} {
				more := row(added, times(count, next)...)
				got, err := Add(full, 9+at, term, more)
				want := api.OK
				if at+count > 64 {
					want = api.ErrFull
				}
				if err != want {
					t.Fatalf("%d of the term %d behind %d of 64: Add = %d, want %d", count, next, at, err, want)
				}
				size := at + count
				if next == 4 || count == 0 {
					size = 64
				}
				if err == api.OK && len(got.L) != size {
					t.Fatalf("%d of the term %d behind %d of 64: %d entries, want %d", count, next, at, len(got.L), size)
				}
			}
		}
	}
}

// P4.3

func TestFrom(t *testing.T) {
	five := logOf(0, 0, 1, 1, 2, 3, 3)
	behind := logOf(5, 3, 3, 4, 4)
	for _, c := range []struct {
		log      api.Log
		i, most  int
		from, to int // which of the log's entries
	}{
		{five, 1, 8, 0, 5},
		{five, 1, 5, 0, 5},
		{five, 1, 4, 0, 4},
		{five, 1, 1, 0, 1},
		{five, 1, 0, 0, 0},
		{five, 1, -1, 0, 0},
		{five, 1, least, 0, 0},
		{five, 1, greatest, 0, 5},
		{five, 3, 2, 2, 4},
		{five, 3, 3, 2, 5},
		{five, 3, 4, 2, 5},
		{five, 5, 8, 4, 5},
		{five, 5, greatest, 4, 5},
		{five, 6, 8, 0, 0},
		{five, 7, 8, 0, 0},
		{five, 0, 8, 0, 0},
		{five, -1, 8, 0, 0},
		{five, least, 8, 0, 0},
		{five, least, greatest, 0, 0},
		{five, greatest, 8, 0, 0},
		{five, greatest, greatest, 0, 0},
		{behind, 4, 8, 0, 0},
		{behind, 5, 8, 0, 0},
		{behind, 6, 8, 0, 3},
		{behind, 6, 2, 0, 2},
		{behind, 7, 1, 1, 2},
		{behind, 8, 8, 2, 3},
		{behind, 9, 8, 0, 0},
		{behind, 1, 8, 0, 0},
		{api.Log{}, 0, 8, 0, 0},
		{api.Log{}, 1, 8, 0, 0},
		{logOf(1<<40, 1, times(64, 1)...), 1<<40 + 64, 9, 63, 64},
		{logOf(1<<40, 1, times(64, 1)...), 1<<40 + 65, 9, 0, 0},
	} {
		if got := From(c.log, c.i, c.most); !slices.Equal(got, c.log.L[c.from:c.to]) {
			t.Errorf("From(%v, %d, %d) = %v", c.log, c.i, c.most, got)
		}
	}
}

func TestPack(t *testing.T) {
	for _, c := range []struct {
		name     string
		log      api.Log
		i        int
		baseTerm int
		gone     int
	}{
		{"nothing of the empty log", api.Log{}, 0, 0, 0},
		{"nothing", logOf(0, 0, 1, 1, 2), 0, 0, 0},
		{"one", logOf(0, 0, 1, 1, 2), 1, 1, 1},
		{"two", logOf(0, 0, 1, 1, 2), 2, 1, 2},
		{"all", logOf(0, 0, 1, 1, 2), 3, 2, 3},
		{"nothing behind a Base", logOf(5, 3, 4, 5), 5, 3, 0},
		{"nothing behind a Base of the term 0", logOf(5, 0, 4, 5), 5, 0, 0},
		{"one behind a Base", logOf(5, 3, 4, 5), 6, 4, 1},
		{"all behind a Base", logOf(5, 3, 4, 5), 7, 5, 2},
		{"nothing behind a Base without entries", logOf(5, 3), 5, 3, 0},
		{"all of 64", logOf(0, 0, times(64, 9)...), 64, 9, 64},
		{"63 of 64", logOf(0, 0, times(64, 9)...), 63, 9, 63},
		{"nothing behind the greatest Base", logOf(1<<40, 3, 4, 5), 1 << 40, 3, 0},
		{"up to the greatest index", logOf(1<<40-2, 3, 4, 5, 6, 7), 1 << 40, 5, 2},
	} {
		got, err := Pack(c.log, c.i)
		want := api.Log{Base: c.i, BaseTerm: c.baseTerm, L: c.log.L[c.gone:]}
		if err != api.OK || !same(got, want) {
			t.Errorf("%s: Pack = %v, %d, want %v", c.name, got, err, want)
		}
	}
}

func TestPackRefuses(t *testing.T) {
	for _, c := range []struct {
		name string
		log  api.Log
		i    int
		want api.Errno
	}{
		{"2^40 + 1", logOf(0, 0, 1), 1<<40 + 1, api.ErrArg},
		{"2^40 + 1, which there is", logOf(1<<40, 1, 1, 1), 1<<40 + 1, api.ErrArg},
		{"the last one of all, behind 2^40", logOf(1<<40-1, 1, 1, 1), 1<<40 + 1, api.ErrArg},
		{"the greatest index", logOf(0, 0, 1), greatest, api.ErrArg},
		{"below Base", logOf(5, 3, 3), 4, api.ErrStale},
		{"0, below Base", logOf(5, 3, 3), 0, api.ErrStale},
		{"-1", api.Log{}, -1, api.ErrStale},
		{"-1 of entries", logOf(0, 0, 1), -1, api.ErrStale},
		{"the least index", logOf(1<<40, 1, 1), least, api.ErrStale},
		{"below the greatest Base", logOf(1<<40, 1, 1), 1<<40 - 1, api.ErrStale},
		{"behind the end", logOf(0, 0, 1, 1, 2), 4, api.ErrGap},
		{"behind no entries", api.Log{}, 1, api.ErrGap},
		{"behind a Base without entries", logOf(5, 3), 6, api.ErrGap},
		{"behind a Base with entries", logOf(5, 3, 3, 3), 8, api.ErrGap},
		{"2^40, behind the end", logOf(0, 0, 1), 1 << 40, api.ErrGap},
	} {
		if got, err := Pack(c.log, c.i); err != c.want || !nothing(got) {
			t.Errorf("%s: Pack = %v, %d, want nothing, %d", c.name, got, err, c.want)
		}
	}
	for _, c := range wrongLogs {
		for _, i := range append([]int{c.log.Base - 1, c.log.Base, c.log.Base + 1, c.log.Base + len(c.log.L)}, numbers...) {
			if got, err := Pack(c.log, i); err != api.ErrArg || !nothing(got) {
				t.Errorf("%s: Pack of %d = %v, %d, want nothing, ErrArg", c.name, i, got, err)
			}
		}
	}
}

// All of it, against the slow calls.

func checkReads(t *testing.T, l api.Log, is []int) {
	if got, want := May(l), slowMay(l); got != want {
		t.Fatalf("May(%v) = %v", l, got)
	}
	index, term := Last(l)
	if i, want := slowLast(l); index != i || term != want {
		t.Fatalf("Last(%v) = %d, %d, want %d, %d", l, index, term, i, want)
	}
	for _, i := range is {
		term, ok := Term(l, i)
		if want, is := slowTerm(l, i); term != want || ok != is {
			t.Fatalf("Term(%v, %d) = %d, %v, want %d, %v", l, i, term, ok, want, is)
		}
		for _, most := range is {
			if got, want := From(l, i, most), slowFrom(l, i, most); !slices.Equal(got, want) {
				t.Fatalf("From(%v, %d, %d) = %v, want %v", l, i, most, got, want)
			}
		}
		checkPack(t, l, i)
	}
}

// checkPack holds what Pack answers against the slow call, and against P4.4.
func checkPack(t *testing.T, l api.Log, i int) {
	got, err := Pack(l, i)
	want, slow := slowPack(l, i)
	if err != slow || !same(got, want) || err != api.OK && !nothing(got) {
		t.Fatalf("Pack(%v, %d) = %v, %d, want %v, %d", l, i, got, err, want, slow)
	}
	if err != api.OK {
		return
	}
	index, term := Last(l)
	if at, of := Last(got); !May(got) || at != index || of != term {
		t.Fatalf("Pack(%v, %d) = %v, which ends with %d, %d", l, i, got, at, of)
	}
	if all := From(got, i+1, greatest); !slices.Equal(all, From(l, i+1, greatest)) {
		t.Fatalf("Pack(%v, %d) has the entries %v", l, i, all)
	}
}

// checkAdd holds what Add answers against the slow call, and against P4.4.
func checkAdd(t *testing.T, l api.Log, index, term int, more []api.Entry) {
	got, err := Add(l, index, term, more)
	want, slow := slowAdd(l, index, term, more)
	if err != slow || !same(got, want) || err != api.OK && !nothing(got) {
		t.Fatalf("Add(%v, %d, %d, %v) = %v, %d, want %v, %d", l, index, term, more, got, err, want, slow)
	}
	if err != api.OK {
		return
	}
	for i, e := range more {
		if of, ok := Term(got, index+1+i); !ok || of != e.Term {
			t.Fatalf("Add(%v, %d, %d, %v) = %v, without what was added at %d", l, index, term, more, got, index+1+i)
		}
	}
	if last, _ := Last(got); !May(got) || last < index+len(more) {
		t.Fatalf("Add(%v, %d, %d, %v) = %v, which ends with %d", l, index, term, more, got, last)
	}
	if again, err := Add(got, index, term, more); err != api.OK || !same(again, got) {
		t.Fatalf("Add(%v, %d, %d, %v) = %v, and then %v, %d", l, index, term, more, got, again, err)
	}
}

// sequences is all sequences of up to most of these terms.
func sequences(terms []int, most int) [][]int {
	all := [][]int{nil}
	for from := 0; from < len(all); from++ {
		for _, term := range terms {
			if len(all[from]) < most {
				all = append(all, append(slices.Clone(all[from]), term))
			}
		}
	}
	return all
}

func TestSequences(t *testing.T) {
	if n := len(sequences([]int{0, 1, 2}, 3)); n != 1+3+9+27 {
		t.Errorf("%d sequences", n)
	}
}

func TestAllShortLogs(t *testing.T) {
	var is []int
	for i := -2; i <= 8; i++ {
		is = append(is, i)
	}
	for base := -1; base <= 3; base++ {
		for baseTerm := -1; baseTerm <= 3; baseTerm++ {
			for _, terms := range sequences([]int{0, 1, 2, 3}, 4) {
				checkReads(t, logOf(base, baseTerm, terms...), is)
			}
		}
	}
}

func TestAllShortAdditions(t *testing.T) {
	additions := sequences([]int{0, 1, 2, 3}, 3)
	for base := -1; base <= 2; base++ {
		for baseTerm := 0; baseTerm <= 2; baseTerm++ {
			for _, terms := range sequences([]int{1, 2, 3}, 3) {
				l := logOf(base, baseTerm, terms...)
				for index := base - 1; index <= base+len(terms)+1; index++ {
					for term := -1; term <= 4; term++ {
						for _, more := range additions {
							checkAdd(t, l, index, term, row(added, more...))
						}
					}
				}
			}
		}
	}
}

func TestNumbersThatTurn(t *testing.T) {
	for _, c := range validLogs {
		is := append([]int{c.log.Base - 1, c.log.Base, c.log.Base + 1, c.log.Base + len(c.log.L)}, numbers...)
		checkReads(t, c.log, is)
		for _, index := range is {
			for _, term := range append([]int{c.log.BaseTerm}, numbers...) {
				for _, more := range [][]int{nil, {1}, {4, 4}, {1 << 30}, {term}, {term, term + 1}, times(64, 4), times(65, term)} {
					checkAdd(t, c.log, index, term, row(added, more...))
				}
			}
		}
	}
}

// P4.4

func TestLeadersOneAfterTheOther(t *testing.T) {
	l := api.Log{}
	add := func(index, term int, more ...int) {
		t.Helper()
		before := cloned(l)
		got, err := Add(l, index, term, row(added, more...))
		if err != api.OK {
			t.Fatalf("Add(%v, %d, %d, %v) = %d", before, index, term, more, err)
		}
		checkAdd(t, l, index, term, row(added, more...))
		l = got
	}
	pack := func(i int) {
		t.Helper()
		checkPack(t, l, i)
		got, err := Pack(l, i)
		if err != api.OK {
			t.Fatalf("Pack(%v, %d) = %d", l, i, err)
		}
		l = got
	}
	add(0, 0, 1, 1, 1)
	add(2, 1, 1, 2, 2)
	pack(2)
	add(3, 1, 4)
	add(2, 1, 1)
	add(4, 4, 4, 5)
	pack(6)
	add(6, 5)
	add(6, 5, 9)
	if want := (api.Log{Base: 6, BaseTerm: 5, L: row(added, 9)}); !same(l, want) {
		t.Errorf("the log is %v, want %v", l, want)
	}
	if _, err := Add(l, 5, 4, row(added, 5)); err != api.ErrStale {
		t.Errorf("Add ahead of Base = %d, want ErrStale", err)
	}
}

// R3: arguments stay as they are, and answers share nothing with them.

// roomy is entries with room behind them, which is filled, so that it is seen
// when something is written there.
func roomy(l []api.Entry) (whole, entries []api.Entry) {
	whole = append(slices.Clone(l), row(9, 90, 91, 92, 93)...)
	return whole, whole[:len(l)]
}

func TestAddLeavesItsArgumentsAlone(t *testing.T) {
	for _, c := range []struct {
		name        string
		index, term int
		more        []int
	}{
		{"at the end", 6, 2, []int{2, 3}},
		{"all is there", 3, 1, []int{1, 1, 2}},
		{"some are there", 4, 1, []int{1, 2, 2, 2}},
		{"others are there", 4, 1, []int{3}},
		{"none stays", 3, 1, []int{3, 3, 3}},
		{"nothing", 6, 2, nil},
		{"a refused one", 9, 2, []int{2}},
	} {
		whole, entries := roomy(row(old, 1, 1, 2))
		wholeMore, more := roomy(row(added, c.more...))
		kept, keptMore := slices.Clone(whole), slices.Clone(wholeMore)
		l := api.Log{Base: 3, BaseTerm: 1, L: entries}
		first, err := Add(l, c.index, c.term, more)
		second, again := Add(l, c.index, c.term, more)
		result := cloned(first)
		if err != again || !same(first, second) {
			t.Errorf("%s: Add = %v, %d, then %v, %d", c.name, first, err, second, again)
		}
		for i := range first.L {
			first.L[i].Term = -1
		}
		first.L = append(first.L, row(8, 80, 81, 82, 83, 84)...)
		if !slices.Equal(whole, kept) || !slices.Equal(wholeMore, keptMore) {
			t.Errorf("%s: the arguments were changed to %v and %v", c.name, whole, wholeMore)
		}
		for i := range whole {
			whole[i].Term = -2
		}
		for i := range wholeMore {
			wholeMore[i].Term = -2
		}
		if !same(second, result) {
			t.Errorf("%s: the answer became %v, it was %v", c.name, second, result)
		}
	}
}

func TestFromAndPackLeaveTheLogAlone(t *testing.T) {
	for i := 3; i <= 7; i++ {
		for _, call := range []struct {
			name   string
			answer func(l api.Log) []api.Entry
		}{
			{"From", func(l api.Log) []api.Entry { return From(l, i, 2) }},
			{"Pack", func(l api.Log) []api.Entry { p, _ := Pack(l, i); return p.L }},
		} {
			whole, entries := roomy(row(old, 1, 1, 2))
			kept := slices.Clone(whole)
			l := api.Log{Base: 3, BaseTerm: 1, L: entries}
			first, second := call.answer(l), call.answer(l)
			result := slices.Clone(first)
			for j := range first {
				first[j].Term = -1
			}
			_ = append(first, row(8, 80, 81, 82, 83, 84)...)
			if !slices.Equal(whole, kept) {
				t.Errorf("%s of %d: the log was changed to %v", call.name, i, whole)
			}
			for j := range whole {
				whole[j].Term = -2
			}
			if !slices.Equal(second, result) {
				t.Errorf("%s of %d: the answer became %v, it was %v", call.name, i, second, result)
			}
		}
	}
}

func TestReadsLeaveTheLogAlone(t *testing.T) {
	whole, entries := roomy(row(old, 1, 1, 2))
	kept := slices.Clone(whole)
	for _, l := range []api.Log{{L: entries}, {Base: 3, BaseTerm: 1, L: entries}, {Base: -1, L: entries}} {
		May(l)
		Last(l)
		Term(l, 2)
	}
	if !slices.Equal(whole, kept) {
		t.Errorf("the log was changed to %v", whole)
	}
}

// P1: no log, no number and no entries make a call panic.

// termsOf makes terms of bytes: small ones, and some that can't be.
func termsOf(b []byte) []int {
	var terms []int
	for _, c := range b {
		switch {
		case c < 250:
			terms = append(terms, int(c)/8)
		case c < 253:
			terms = append(terms, 1<<30+int(c)-251)
		default:
			terms = append(terms, []int{-1, least, greatest}[c-253])
		}
	}
	return terms
}

func FuzzLog(f *testing.F) {
	f.Add(0, 0, []byte{8, 8, 16}, 1, 1, 2, []byte{8, 24})
	f.Add(5, 3, []byte{24, 24, 32}, 6, 3, 8, []byte{24, 32, 40})
	f.Add(1<<40, 1<<30, []byte{251, 251}, 1<<40+2, 1<<30, greatest, []byte{251})
	f.Add(1<<40+1, 0, []byte{252, 253, 254, 255}, greatest, least, -1, []byte{255, 254})
	f.Add(least, greatest, []byte{}, least, greatest, least, []byte{0})
	f.Add(0, 0, make([]byte, 65), 0, 0, 0, make([]byte, 65))
	f.Add(2, 1, slices.Repeat([]byte{9}, 64), 66, 1, 64, slices.Repeat([]byte{9}, 64))
	f.Fuzz(func(t *testing.T, base, baseTerm int, terms []byte, index, term, most int, more []byte) {
		l := logOf(base, baseTerm, termsOf(terms)...)
		kept := cloned(l)
		checkReads(t, l, []int{index, term, most})
		checkAdd(t, l, index, term, row(added, termsOf(more)...))
		if !same(l, kept) {
			t.Fatalf("%v was changed to %v", kept, l)
		}
	})
}
