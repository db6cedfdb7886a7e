package replica

import (
	"maps"
	"math"
	"math/rand/v2"
	"slices"
	"testing"

	"suture/api"
)

const (
	least       = math.MinInt
	greatest    = math.MaxInt
	lastChunk   = 1 << 20
	lastVersion = 1 << 30
)

// numbers are those at which something turns, for a chunk, a version or room.
var numbers = []int{least, least + 1, -1 << 40, -1 << 32, -1 << 30, -1 << 20, -2, -1, 0, 1, 2, 3, 4, 5, 9, 10, 11, 15, 16, 17, 255, 256,
	1<<20 - 1, 1 << 20, 1<<20 + 1, 1<<30 - 1, 1 << 30, 1<<30 + 1, 1<<31 - 1, 1 << 31, 1 << 32, 1<<32 + 1, 1<<32 + 10, 1<<40 - 1,
	1 << 40, 1<<40 + 1, greatest - 1, greatest}

var sums = []uint32{0, 1, 2, 7, 1 << 31, math.MaxUint32}

type list = []api.Replica

func held(chunk, version int, sum uint32) api.Replica {
	return api.Replica{Chunk: chunk, Version: version, Sum: sum}
}

func temp(chunk, version int, sum uint32) api.Replica {
	return api.Replica{Chunk: chunk, Version: version, Sum: sum, Temp: true}
}

func bad(chunk, version int, sum uint32) api.Replica {
	return api.Replica{Chunk: chunk, Version: version, Sum: sum, Bad: true}
}

// both is what no valid list has: being installed, and Bad.
func both(chunk, version int, sum uint32) api.Replica {
	return api.Replica{Chunk: chunk, Version: version, Sum: sum, Temp: true, Bad: true}
}

// many is the replicas of n chunks, 10 20 30 and so on, of the version 5 and
// the sum of the chunk's number, one after the other held, being installed,
// Bad, and held with another one of the version 8 being installed.
func many(n int) list {
	var l list
	for i := range n {
		chunk := 10 * (i + 1)
		switch i % 4 {
		case 0:
			l = append(l, held(chunk, 5, uint32(chunk)))
		case 1:
			l = append(l, temp(chunk, 5, uint32(chunk)))
		case 2:
			l = append(l, bad(chunk, 5, uint32(chunk)))
		case 3:
			l = append(l, held(chunk, 5, uint32(chunk)), temp(chunk, 8, uint32(chunk+1)))
		}
	}
	return l
}

// with is l with another replica at the place i.
func with(l list, i int, r api.Replica) list {
	l = slices.Clone(l)
	l[i] = r
	return l
}

// The slow calls say the chapter's words once more, in another way: each two
// replicas are held against each other, and what a chunk has is kept by its
// number.

func slowChunk(n int) bool { return !(n <= 0 || n >= 1048577) }

func slowVersion(n int) bool { return !(n <= 0 || n >= 1073741825) }

func slowMay(l list) bool {
	wrong := 0
	for i, r := range l {
		if !slowChunk(r.Chunk) || !slowVersion(r.Version) || r == both(r.Chunk, r.Version, r.Sum) {
			wrong++
		}
		for _, behind := range l[i+1:] {
			if behind.Chunk < r.Chunk {
				wrong++
			}
			if behind.Chunk == r.Chunk && (r.Temp || !behind.Temp || behind.Version <= r.Version) {
				wrong++
			}
		}
	}
	return wrong == 0
}

// has is what a chunk has: one that is held, one that is being installed.
type has struct{ held, temp *api.Replica }

func byChunk(l list) map[int]has {
	m := map[int]has{}
	if !slowMay(l) {
		return m
	}
	for _, r := range l {
		h := m[r.Chunk]
		if r.Temp {
			h.temp = &r
		} else {
			h.held = &r
		}
		m[r.Chunk] = h
	}
	return m
}

// inOrder is the replicas of m, by ascending chunks.
func inOrder(m map[int]has) list {
	var l list
	for _, chunk := range slices.Sorted(maps.Keys(m)) {
		for _, r := range []*api.Replica{m[chunk].held, m[chunk].temp} {
			if r != nil {
				l = append(l, *r)
			}
		}
	}
	return l
}

// slowBeginErrors is all errors of Begin that apply, the first one first.
func slowBeginErrors(l list, x api.Replica, room int) []api.Errno {
	var all []api.Errno
	if !slowChunk(x.Chunk) || !slowVersion(x.Version) {
		all = append(all, api.ErrArg)
	}
	h := byChunk(l)[x.Chunk]
	if h.held != nil && !(h.held.Version < x.Version) {
		all = append(all, api.ErrStale)
	}
	if h.temp != nil && !(h.temp.Version < x.Version) {
		all = append(all, api.ErrThere)
	}
	if h.temp == nil && !(len(inOrder(byChunk(l))) < room) {
		all = append(all, api.ErrFull)
	}
	return all
}

func slowBegin(l list, x api.Replica, room int) (list, api.Errno) {
	if all := slowBeginErrors(l, x, room); len(all) > 0 {
		return nil, all[0]
	}
	m := byChunk(l)
	r := temp(x.Chunk, x.Version, x.Sum)
	m[x.Chunk] = has{m[x.Chunk].held, &r}
	return inOrder(m), api.OK
}

func slowCommit(l list, chunk, version int) (list, api.Errno) {
	m := byChunk(l)
	was := m[chunk].temp
	if was == nil || was.Version != version {
		return nil, api.ErrNone
	}
	r := held(was.Chunk, was.Version, was.Sum)
	m[chunk] = has{&r, nil}
	return inOrder(m), api.OK
}

func slowAbort(l list, chunk int) list {
	m := byChunk(l)
	m[chunk] = has{m[chunk].held, nil}
	return inOrder(m)
}

func slowRemove(l list, chunk int) (list, api.Errno) {
	m := byChunk(l)
	if m[chunk].held == nil {
		return nil, api.ErrNone
	}
	m[chunk] = has{nil, m[chunk].temp}
	return inOrder(m), api.OK
}

func slowSpoil(l list, chunk int) (list, api.Errno) {
	m := byChunk(l)
	was := m[chunk].held
	if was == nil {
		return nil, api.ErrNone
	}
	r := bad(was.Chunk, was.Version, was.Sum)
	m[chunk] = has{&r, m[chunk].temp}
	return inOrder(m), api.OK
}

func slowScrub(l list) (list, []int) {
	m := byChunk(l)
	var chunks []int
	for _, chunk := range slices.Sorted(maps.Keys(m)) {
		if h := m[chunk]; h.held != nil && h.held.Bad {
			chunks = append(chunks, chunk)
			m[chunk] = has{nil, h.temp}
		}
	}
	return inOrder(m), chunks
}

func slowRestart(l list) list {
	m := byChunk(l)
	for chunk, h := range m {
		m[chunk] = has{h.held, nil}
	}
	return inOrder(m)
}

func slowHas(l list, chunk, version int, sum uint32) bool {
	r := byChunk(l)[chunk].held
	return r != nil && r.Version == version && r.Sum == sum && !r.Bad
}

// check holds what all calls answer against the slow ones, and against P10.5.
// x is of the chunk and the version that the other calls are asked about.
func check(t testing.TB, l list, x api.Replica, room int) {
	t.Helper()
	chunk, version, sum := x.Chunk, x.Version, x.Sum
	if got, want := May(l), slowMay(l); got != want {
		t.Fatalf("May(%v) = %v", l, got)
	}
	if got, want := Has(l, chunk, version, sum), slowHas(l, chunk, version, sum); got != want {
		t.Fatalf("Has(%v, %d, %d, %d) = %v", l, chunk, version, sum, got)
	}
	same := func(name string, got list, err api.Errno, want list, wantErr api.Errno) {
		t.Helper()
		if !slices.Equal(got, want) || err != wantErr {
			t.Fatalf("%s of %v with %v, %d = %v, %d, want %v, %d", name, l, x, room, got, err, want, wantErr)
		}
		if err != api.OK && got != nil {
			t.Fatalf("%s of %v with %v, %d = %v, %d, and not nothing", name, l, x, room, got, err)
		}
		if !May(got) {
			t.Fatalf("%s: of %v became %v, which may not be", name, l, got)
		}
	}
	checkCalls(l, x, room, same)
	got, chunks := Scrub(l)
	want, wantChunks := slowScrub(l)
	same("Scrub", got, api.OK, want, api.OK)
	if !slices.Equal(chunks, wantChunks) {
		t.Fatalf("Scrub of %v tells %v, want %v", l, chunks, wantChunks)
	}
	checkSteps(t, l, x, room)
}

// checkCalls hands what the calls that answer a list answer, and what the slow
// ones answer, to same.
func checkCalls(l list, x api.Replica, room int, same func(string, list, api.Errno, list, api.Errno)) {
	got, err := Begin(l, x, room)
	want, wantErr := slowBegin(l, x, room)
	same("Begin", got, err, want, wantErr)
	got, err = Commit(l, x.Chunk, x.Version)
	want, wantErr = slowCommit(l, x.Chunk, x.Version)
	same("Commit", got, err, want, wantErr)
	same("Abort", Abort(l, x.Chunk), api.OK, slowAbort(l, x.Chunk), api.OK)
	got, err = Remove(l, x.Chunk)
	want, wantErr = slowRemove(l, x.Chunk)
	same("Remove", got, err, want, wantErr)
	got, err = Spoil(l, x.Chunk)
	want, wantErr = slowSpoil(l, x.Chunk)
	same("Spoil", got, err, want, wantErr)
	same("Restart", Restart(l), api.OK, slowRestart(l), api.OK)
}

// steps are the calls that make one list of another, asked about x and room.
var steps = []struct {
	name string
	do   func(l list, x api.Replica, room int) (list, api.Errno)
}{
	{"Begin", func(l list, x api.Replica, room int) (list, api.Errno) { return Begin(l, x, room) }},
	{"Commit", func(l list, x api.Replica, _ int) (list, api.Errno) { return Commit(l, x.Chunk, x.Version) }},
	{"Abort", func(l list, x api.Replica, _ int) (list, api.Errno) { return Abort(l, x.Chunk), api.OK }},
	{"Remove", func(l list, x api.Replica, _ int) (list, api.Errno) { return Remove(l, x.Chunk) }},
	{"Spoil", func(l list, x api.Replica, _ int) (list, api.Errno) { return Spoil(l, x.Chunk) }},
	{"Scrub", func(l list, _ api.Replica, _ int) (list, api.Errno) { l, _ = Scrub(l); return l, api.OK }},
	{"Restart", func(l list, _ api.Replica, _ int) (list, api.Errno) { return Restart(l), api.OK }},
}

// checkSteps asks what P10.5 says of a list and those that the calls make of
// it.
func checkSteps(t testing.TB, l list, x api.Replica, room int) {
	t.Helper()
	for _, step := range steps {
		next, err := step.do(l, x, room)
		if err != api.OK || !May(l) {
			continue
		}
		if step.name == "Begin" && len(l) <= room && len(next) > room {
			t.Fatalf("Begin of %v in %v led to %v, for which there is no room in %d", x, l, next, room)
		}
		if step.name != "Begin" && len(next) > len(l) {
			t.Fatalf("%s of %v led to %v, which is more", step.name, l, next)
		}
		now := byChunk(next)
		for chunk, h := range byChunk(l) {
			if h.held != nil {
				checkHeld(t, step.name, *h.held, now[chunk].held, chunk == x.Chunk)
			}
		}
	}
}

// checkHeld asks what may have become of a held replica; asked tells whether
// the call was about its chunk.
func checkHeld(t testing.TB, step string, was api.Replica, now *api.Replica, asked bool) {
	t.Helper()
	if now == nil {
		if !(step == "Remove" && asked) && !(step == "Scrub" && was.Bad) {
			t.Fatalf("%s: %v is gone", step, was)
		}
		return
	}
	if *now == was || step == "Spoil" && asked && *now == bad(was.Chunk, was.Version, was.Sum) {
		return
	}
	if step != "Commit" || !asked || now.Version <= was.Version {
		t.Fatalf("%s: %v became %v", step, was, *now)
	}
}

// lists are lists, with whether they are valid.
var lists = []struct {
	name  string
	l     list
	valid bool
}{
	{"none", nil, true},
	{"none, a slice of none", list{}, true},
	{"a held one", list{held(1, 1, 7)}, true},
	{"one being installed", list{temp(1, 1, 7)}, true},
	{"a Bad one", list{bad(1, 1, 7)}, true},
	{"the last chunk", list{held(lastChunk, 1, 7)}, true},
	{"the last version", list{held(1, lastVersion, 7)}, true},
	{"the last chunk, the last version, being installed", list{temp(lastChunk, lastVersion, 7)}, true},
	{"a version above the last chunk", list{held(1, lastChunk+1, 7)}, true},
	{"the sum 0", list{held(1, 1, 0)}, true},
	{"the greatest sum", list{held(1, 1, math.MaxUint32)}, true},
	{"a held one, one being installed", list{held(4, 1, 7), temp(4, 2, 7)}, true},
	{"a Bad one, one being installed", list{bad(4, 1, 7), temp(4, 2, 7)}, true},
	{"the last version being installed", list{held(4, lastVersion-1, 7), temp(4, lastVersion, 7)}, true},
	{"the first version, the last one being installed", list{held(4, 1, 7), temp(4, lastVersion, 7)}, true},
	{"two chunks", list{held(4, 3, 7), held(5, 2, 6)}, true},
	{"two chunks being installed", list{temp(4, 3, 7), temp(5, 2, 6)}, true},
	{"two chunks, the first one being installed", list{temp(4, 3, 7), held(5, 3, 7)}, true},
	{"two chunks, both with both", list{held(4, 3, 7), temp(4, 5, 7), bad(5, 2, 7), temp(5, 4, 7)}, true},
	{"two chunks, far apart", list{held(1, 3, 7), held(lastChunk, 3, 7)}, true},
	{"17 of them", many(14), true},
	{"50 of them", many(40), true},

	{"the zero value", make(list, 1), false},
	{"three zero values", make(list, 3), false},
	{"the chunk 0", list{held(0, 1, 7)}, false},
	{"the chunk -1", list{held(-1, 1, 7)}, false},
	{"the least chunk", list{held(least, 1, 7)}, false},
	{"the chunk 2^20 + 1", list{held(lastChunk+1, 1, 7)}, false},
	{"the chunk 2^32 + 1", list{held(1<<32+1, 1, 7)}, false},
	{"the greatest chunk", list{held(greatest, 1, 7)}, false},
	{"the version 0", list{held(1, 0, 7)}, false},
	{"the version 0, being installed", list{temp(1, 0, 7)}, false},
	{"the version -1", list{held(1, -1, 7)}, false},
	{"the least version", list{held(1, least, 7)}, false},
	{"the version 2^30 + 1", list{held(1, lastVersion+1, 7)}, false},
	{"the version 2^30 + 1, being installed", list{held(1, 1, 7), temp(1, lastVersion+1, 7)}, false},
	{"the version 2^32 + 1", list{held(1, 1<<32+1, 7)}, false},
	{"the greatest version", list{held(1, greatest, 7)}, false},
	{"a Bad one being installed", list{both(1, 1, 7)}, false},
	{"a Bad one being installed, behind a held one", list{held(4, 1, 7), both(4, 2, 7)}, false},
	{"a Bad one being installed, behind others", list{held(4, 1, 7), held(5, 1, 7), both(6, 2, 7)}, false},
	{"two held", list{held(4, 1, 7), held(4, 2, 7)}, false},
	{"two held, the same", list{held(4, 1, 7), held(4, 1, 7)}, false},
	{"two held, one of them Bad", list{bad(4, 1, 7), held(4, 2, 7)}, false},
	{"two held, the second Bad", list{held(4, 1, 7), bad(4, 2, 7)}, false},
	{"two being installed", list{temp(4, 1, 7), temp(4, 2, 7)}, false},
	{"two being installed, the same", list{temp(4, 1, 7), temp(4, 1, 7)}, false},
	{"the held one behind the other", list{temp(4, 2, 7), held(4, 1, 7)}, false},
	{"the held one behind the other, and greater", list{temp(4, 1, 7), held(4, 2, 7)}, false},
	{"the same version being installed", list{held(4, 2, 7), temp(4, 2, 8)}, false},
	{"a lower version being installed", list{held(4, 2, 7), temp(4, 1, 7)}, false},
	{"a lower version behind a Bad one", list{bad(4, 2, 7), temp(4, 1, 7)}, false},
	{"the same version behind a Bad one", list{bad(4, 2, 7), temp(4, 2, 8)}, false},
	{"two held, one being installed", list{held(4, 1, 7), held(4, 2, 7), temp(4, 3, 7)}, false},
	{"one held, two being installed", list{held(4, 1, 7), temp(4, 2, 7), temp(4, 3, 7)}, false},
	{"a held one behind both", list{held(4, 1, 7), temp(4, 2, 7), held(4, 3, 7)}, false},
	{"decreasing chunks", list{held(5, 1, 7), held(4, 1, 7)}, false},
	{"decreasing chunks, increasing versions", list{held(5, 1, 7), temp(4, 2, 7)}, false},
	{"decreasing chunks at last", list{held(4, 1, 7), held(6, 1, 7), held(5, 1, 7)}, false},
	{"a chunk's two with another between", list{held(4, 1, 7), held(5, 1, 7), temp(4, 2, 7)}, false},
	{"the last chunk twice", list{held(lastChunk, 1, 7), held(lastChunk, 2, 7)}, false},
	{"the chunk 0 ahead of others", list{held(0, 1, 7), held(4, 1, 7)}, false},
	{"the chunk 2^20 + 1 behind others", list{held(4, 1, 7), held(lastChunk+1, 1, 7)}, false},
	{"the version 0 ahead of another", list{held(4, 0, 7), temp(4, 1, 7)}, false},
	{"all of it wrong", list{both(5, 0, 7), held(-1, 9, 7), both(-1, 9, 7)}, false},
}

// P10.1

func TestMay(t *testing.T) {
	for _, c := range lists {
		if got := May(c.l); got != c.valid {
			t.Errorf("%s: May(%v) = %v", c.name, c.l, got)
		}
		if slowMay(c.l) != c.valid {
			t.Errorf("%s: the slow call says something else", c.name)
		}
	}
}

// The chapter sets no bound for how many there are.
func TestMayOfEachLength(t *testing.T) {
	for n := range 70 {
		if !May(many(n)) {
			t.Errorf("the replicas of %d chunks may not be", n)
		}
	}
}

// Each replica is looked at, whichever place it has.
func TestMayLooksAtEachPlace(t *testing.T) {
	for n := 1; n <= 12; n++ {
		l := many(n)
		for i, r := range l {
			for _, x := range numbers {
				for _, other := range []api.Replica{
					{Chunk: x, Version: r.Version, Sum: r.Sum, Temp: r.Temp, Bad: r.Bad},
					{Chunk: r.Chunk, Version: x, Sum: r.Sum, Temp: r.Temp, Bad: r.Bad},
					{Chunk: x, Version: x, Sum: r.Sum, Temp: r.Temp, Bad: r.Bad},
				} {
					changed := with(l, i, other)
					if got, want := May(changed), slowMay(changed); got != want {
						t.Errorf("May(%v) = %v", changed, got)
					}
				}
			}
			if May(with(l, i, both(r.Chunk, r.Version, r.Sum))) {
				t.Errorf("of %v, the one in the place %d is Bad and being installed, and they may be", l, i)
			}
			for _, sum := range sums {
				r.Sum = sum
				if !May(with(l, i, r)) {
					t.Errorf("of %v, the sum %d in the place %d may not be", l, sum, i)
				}
			}
		}
	}
}

// Two of one chunk are a held one and one being installed, in this order and
// with increasing versions, wherever they stand.
func TestMayOfOneChunksTwo(t *testing.T) {
	makes := []func(int, int, uint32) api.Replica{held, temp, bad, both}
	for i, first := range makes {
		for j, second := range makes {
			for _, a := range []int{1, 2, 3, lastVersion - 1, lastVersion} {
				for _, b := range []int{1, 2, 3, lastVersion - 1, lastVersion} {
					l := list{first(4, a, 7), second(4, b, 7)}
					want := (i == 0 || i == 2) && j == 1 && a < b
					if got := May(l); got != want {
						t.Errorf("May(%v) = %v", l, got)
					}
					l = slices.Concat(list{held(2, 9, 7), temp(3, 9, 7)}, l, list{held(5, 1, 7)})
					if got := May(l); got != want {
						t.Errorf("May(%v) = %v", l, got)
					}
				}
			}
		}
	}
}

func TestHas(t *testing.T) {
	l := list{held(3, 5, 70), bad(4, 5, 70), temp(5, 5, 70), held(8, 2, 0), temp(8, 4, 9), bad(9, 2, 0), temp(9, 4, 9),
		held(lastChunk, lastVersion, math.MaxUint32)}
	for _, c := range []struct {
		name           string
		chunk, version int
		sum            uint32
		want           bool
	}{
		{"a held one", 3, 5, 70, true},
		{"a held one with the sum 0, beside one being installed", 8, 2, 0, true},
		{"the last chunk, the last version, the greatest sum", lastChunk, lastVersion, math.MaxUint32, true},

		{"another sum", 3, 5, 71, false},
		{"the sum 0", 3, 5, 0, false},
		{"a lower version", 3, 4, 70, false},
		{"a greater version", 3, 6, 70, false},
		{"the version 0", 3, 0, 70, false},
		{"a version below 0", 3, -5, 70, false},
		{"2^32 + the version", 3, 1<<32 + 5, 70, false},
		{"another chunk", 2, 5, 70, false},
		{"2^32 + the chunk", 1<<32 + 3, 5, 70, false},
		{"a Bad one", 4, 5, 70, false},
		{"one being installed", 5, 5, 70, false},
		{"one being installed, beside a held one", 8, 4, 9, false},
		{"the held one's version, the other one's sum", 8, 2, 9, false},
		{"the other one's version, the held one's sum", 8, 4, 0, false},
		{"a Bad one beside one being installed", 9, 2, 0, false},
		{"one being installed beside a Bad one", 9, 4, 9, false},
		{"a chunk behind all", lastChunk - 1, 1, 0, false},
		{"the chunk 0", 0, 0, 0, false},
		{"the chunk -1", -1, 5, 70, false},
		{"the least chunk", least, least, 0, false},
		{"the greatest chunk", greatest, greatest, 0, false},
	} {
		if got := Has(l, c.chunk, c.version, c.sum); got != c.want {
			t.Errorf("%s: Has(%d, %d, %d) = %v", c.name, c.chunk, c.version, c.sum, got)
		}
	}
}

func TestHasOfEachReplica(t *testing.T) {
	for n := range 20 {
		l := many(n)
		for _, r := range l {
			if got, want := Has(l, r.Chunk, r.Version, r.Sum), !r.Temp && !r.Bad; got != want {
				t.Errorf("of %d: Has of %v = %v", n, r, got)
			}
			if Has(l, r.Chunk+1, r.Version, r.Sum) || Has(l, r.Chunk, r.Version+1, r.Sum) || Has(l, r.Chunk, r.Version, r.Sum+1) {
				t.Errorf("of %d: Has tells %v for another one", n, r)
			}
		}
	}
}

func TestHasInWrongLists(t *testing.T) {
	for _, c := range lists {
		if c.valid {
			continue
		}
		for _, r := range append(slices.Clone(c.l), held(0, 0, 0), held(4, 1, 7)) {
			if Has(c.l, r.Chunk, r.Version, r.Sum) {
				t.Errorf("%s: Has of %v", c.name, r)
			}
		}
	}
}

// P10.2

func TestExamples(t *testing.T) {
	begun, err := Begin(nil, api.Replica{Chunk: 1, Version: 1}, 1)
	if !slices.Equal(begun, list{temp(1, 1, 0)}) || err != api.OK {
		t.Errorf("Begin = %v, %d", begun, err)
	}
	if got := Restart(begun); len(got) != 0 {
		t.Errorf("after Begin, Restart = %v", got)
	}
	done, err := Commit(begun, 1, 1)
	if !slices.Equal(done, list{held(1, 1, 0)}) || err != api.OK {
		t.Errorf("Commit = %v, %d", done, err)
	}
	if got := Restart(done); !slices.Equal(got, list{held(1, 1, 0)}) {
		t.Errorf("after Begin and Commit, Restart = %v", got)
	}
}

func TestBegin(t *testing.T) {
	l := list{held(3, 5, 70), temp(5, 5, 71), bad(8, 5, 72), held(9, 5, 73), temp(9, 8, 74)}
	for _, c := range []struct {
		name string
		l    list
		x    api.Replica
		room int
		want list
	}{
		{"the first one of all", nil, held(1, 1, 7), 1, list{temp(1, 1, 7)}},
		{"the first one of all, a slice of none", list{}, held(1, 1, 7), 1, list{temp(1, 1, 7)}},
		{"the last chunk, the last version", nil, held(lastChunk, lastVersion, 7), 1, list{temp(lastChunk, lastVersion, 7)}},
		{"much room", nil, held(1, 1, 7), greatest, list{temp(1, 1, 7)}},
		{"the sum 0", nil, held(1, 1, 0), 1, list{temp(1, 1, 0)}},
		{"the greatest sum", nil, held(1, 1, math.MaxUint32), 1, list{temp(1, 1, math.MaxUint32)}},
		{"one said to be installed", nil, temp(1, 1, 7), 1, list{temp(1, 1, 7)}},
		{"one said to be Bad", nil, bad(1, 1, 7), 1, list{temp(1, 1, 7)}},
		{"one said to be both", nil, both(1, 1, 7), 1, list{temp(1, 1, 7)}},

		{"a chunk ahead of all", l, held(1, 1, 7), 6, list{temp(1, 1, 7), l[0], l[1], l[2], l[3], l[4]}},
		{"a chunk just ahead of all", l, held(2, 1, 7), 6, list{temp(2, 1, 7), l[0], l[1], l[2], l[3], l[4]}},
		{"a chunk between two", l, held(4, 1, 7), 6, list{l[0], temp(4, 1, 7), l[1], l[2], l[3], l[4]}},
		{"a chunk just ahead of one", l, held(7, 1, 7), 6, list{l[0], l[1], temp(7, 1, 7), l[2], l[3], l[4]}},
		{"a chunk just behind all", l, held(10, 1, 7), 6, list{l[0], l[1], l[2], l[3], l[4], temp(10, 1, 7)}},
		{"the last chunk", l, held(lastChunk, 1, 7), 6, list{l[0], l[1], l[2], l[3], l[4], temp(lastChunk, 1, 7)}},

		{"behind a held one", l, held(3, 6, 7), 6, list{l[0], temp(3, 6, 7), l[1], l[2], l[3], l[4]}},
		{"behind a held one, with its sum", l, held(3, 6, 70), 6, list{l[0], temp(3, 6, 70), l[1], l[2], l[3], l[4]}},
		{"behind a held one, the last version", l, held(3, lastVersion, 7), 6, list{l[0], temp(3, lastVersion, 7), l[1], l[2], l[3], l[4]}},
		{"behind a Bad one", l, held(8, 6, 7), 6, list{l[0], l[1], l[2], temp(8, 6, 7), l[3], l[4]}},

		{"in place of one being installed", l, held(5, 6, 7), 6, list{l[0], temp(5, 6, 7), l[2], l[3], l[4]}},
		{"in place of the one beside a held one", l, held(9, 9, 7), 6, list{l[0], l[1], l[2], l[3], temp(9, 9, 7)}},
		{"in place of one, with its sum", l, held(9, 9, 74), 6, list{l[0], l[1], l[2], l[3], temp(9, 9, 74)}},
		{"in place of one, said to be Bad", l, both(9, 9, 7), 6, list{l[0], l[1], l[2], l[3], temp(9, 9, 7)}},
		{"in place of one, the last version", l, held(9, lastVersion, 7), 6, list{l[0], l[1], l[2], l[3], temp(9, lastVersion, 7)}},
		{"full: in place of one", l, held(5, 6, 7), 5, list{l[0], temp(5, 6, 7), l[2], l[3], l[4]}},
		{"full: in place of the one beside a held one", l, held(9, 9, 7), 5, list{l[0], l[1], l[2], l[3], temp(9, 9, 7)}},
		{"no room at all: in place of one", l, held(5, 6, 7), 0, list{l[0], temp(5, 6, 7), l[2], l[3], l[4]}},
		{"the least room: in place of one", l, held(5, 6, 7), least, list{l[0], temp(5, 6, 7), l[2], l[3], l[4]}},
	} {
		got, err := Begin(c.l, c.x, c.room)
		if !slices.Equal(got, c.want) || err != api.OK {
			t.Errorf("%s: Begin(%v, %v, %d) = %v, %d, want %v", c.name, c.l, c.x, c.room, got, err, c.want)
		}
	}
}

func TestBeginRefuses(t *testing.T) {
	l := list{held(3, 5, 70), temp(5, 5, 71), bad(8, 5, 72), held(9, 5, 73), temp(9, 8, 74)}
	for _, c := range []struct {
		name string
		x    api.Replica
		room int
		want api.Errno
	}{
		{"the chunk 0", held(0, 1, 7), 9, api.ErrArg},
		{"the chunk -1", held(-1, 1, 7), 9, api.ErrArg},
		{"the chunk -3", held(-3, 9, 7), 9, api.ErrArg},
		{"the least chunk", held(least, 1, 7), 9, api.ErrArg},
		{"the chunk 2^20 + 1", held(lastChunk+1, 1, 7), 9, api.ErrArg},
		{"the chunk 2^32 + 3", held(1<<32+3, 9, 7), 9, api.ErrArg},
		{"the greatest chunk", held(greatest, 1, 7), 9, api.ErrArg},
		{"the version 0", held(1, 0, 7), 9, api.ErrArg},
		{"the version -1", held(1, -1, 7), 9, api.ErrArg},
		{"the least version", held(1, least, 7), 9, api.ErrArg},
		{"the version 2^30 + 1", held(1, lastVersion+1, 7), 9, api.ErrArg},
		{"the version 2^30 + 1, in place of one", held(5, lastVersion+1, 7), 9, api.ErrArg},
		{"the greatest version", held(1, greatest, 7), 9, api.ErrArg},
		{"the zero value", api.Replica{}, 9, api.ErrArg},

		{"the held one's version", held(3, 5, 7), 9, api.ErrStale},
		{"the held one itself", held(3, 5, 70), 9, api.ErrStale},
		{"the held one itself, being installed", temp(3, 5, 70), 9, api.ErrStale},
		{"a version below the held one's", held(3, 4, 7), 9, api.ErrStale},
		{"the first version", held(3, 1, 7), 9, api.ErrStale},
		{"a Bad one's version", held(8, 5, 72), 9, api.ErrStale},
		{"a version below a Bad one's", held(8, 4, 72), 9, api.ErrStale},

		{"the version being installed", held(5, 5, 7), 9, api.ErrThere},
		{"the one being installed itself", temp(5, 5, 71), 9, api.ErrThere},
		{"a version below the one being installed", held(5, 4, 7), 9, api.ErrThere},
		{"the first version, where one is being installed", held(5, 1, 7), 9, api.ErrThere},
		{"beside a held one, the version being installed", held(9, 8, 7), 9, api.ErrThere},
		{"beside a held one, a version below that", held(9, 7, 7), 9, api.ErrThere},
		{"beside a held one, just above it", held(9, 6, 7), 9, api.ErrThere},

		{"as many as there is room for", held(1, 1, 7), 5, api.ErrFull},
		{"more than there is room for", held(1, 1, 7), 4, api.ErrFull},
		{"room for one", held(1, 1, 7), 1, api.ErrFull},
		{"no room", held(1, 1, 7), 0, api.ErrFull},
		{"room for -1", held(1, 1, 7), -1, api.ErrFull},
		{"the least room", held(1, 1, 7), least, api.ErrFull},
		{"full: behind a held one", held(3, 6, 7), 5, api.ErrFull},
		{"full: behind a Bad one", held(8, 6, 7), 5, api.ErrFull},
		{"full: the last chunk", held(lastChunk, 1, 7), 5, api.ErrFull},

		// Several at once.
		{"full: the chunk 0", held(0, 1, 7), 5, api.ErrArg},
		{"full: the version 0", held(1, 0, 7), 5, api.ErrArg},
		{"full: a held chunk's version 0", held(3, 0, 7), 5, api.ErrArg},
		{"a held chunk's version 0", held(3, 0, 7), 9, api.ErrArg},
		{"a held chunk's version -1", held(3, -1, 7), 9, api.ErrArg},
		{"the version 0, where one is being installed", held(5, 0, 7), 9, api.ErrArg},
		{"full: the version 0, where one is being installed", held(5, 0, 7), 0, api.ErrArg},
		{"the version 0, where a chunk has both", held(9, 0, 7), 9, api.ErrArg},
		{"neither of them", held(0, 0, 7), 0, api.ErrArg},
		{"a held one's version, below the one being installed", held(9, 5, 7), 9, api.ErrStale},
		{"below both", held(9, 1, 7), 9, api.ErrStale},
		{"full: a held one's version, below the one being installed", held(9, 5, 7), 0, api.ErrStale},
		{"full: the held one's version", held(3, 5, 7), 5, api.ErrStale},
		{"full: a version below a Bad one's", held(8, 4, 7), 5, api.ErrStale},
		{"full: the version being installed", held(5, 5, 7), 5, api.ErrThere},
		{"no room: the version being installed", held(5, 5, 7), 0, api.ErrThere},
		{"full: beside a held one, just above it", held(9, 6, 7), 0, api.ErrThere},
	} {
		got, err := Begin(l, c.x, c.room)
		if got != nil || err != c.want {
			t.Errorf("%s: Begin(%v, %d) = %v, %d, want %d", c.name, c.x, c.room, got, err, c.want)
		}
	}
	if got, err := Begin(nil, held(1, 1, 7), 0); got != nil || err != api.ErrFull {
		t.Errorf("without room: Begin in an empty list = %v, %d", got, err)
	}
}

// In each list a new one comes in just up to the room, and one that replaces
// another always.
func TestBeginOfEachRoom(t *testing.T) {
	for n := range 16 {
		l := many(n)
		for room := -2; room <= 24; room++ {
			got, err := Begin(l, held(5, 9, 7), room)
			if len(l) >= room {
				if got != nil || err != api.ErrFull {
					t.Errorf("%d of %d: Begin = %v, %d", len(l), room, got, err)
				}
			} else if want := slices.Insert(slices.Clone(l), 0, temp(5, 9, 7)); !slices.Equal(got, want) || err != api.OK {
				t.Errorf("%d of %d: Begin = %v, %d", len(l), room, got, err)
			}
			for i, r := range l {
				if !r.Temp {
					continue
				}
				got, err := Begin(l, held(r.Chunk, 9, 7), room)
				if want := with(l, i, temp(r.Chunk, 9, 7)); !slices.Equal(got, want) || err != api.OK {
					t.Errorf("%d of %d: Begin in place of %v = %v, %d", len(l), room, r, got, err)
				}
			}
		}
	}
}

func TestBeginInEachPlace(t *testing.T) {
	for n := range 14 {
		l := many(n)
		for chunk := 1; chunk <= 10*n+11; chunk++ {
			for _, version := range []int{1, 4, 5, 6, 8, 9} {
				check(t, l, held(chunk, version, 7), len(l)+1)
				check(t, l, held(chunk, version, uint32(chunk)), len(l))
			}
		}
	}
}

// P10.3

func TestCommit(t *testing.T) {
	l := list{held(3, 5, 70), temp(5, 5, 71), bad(8, 5, 72), temp(8, 6, 75), held(9, 5, 73), temp(9, 8, 0)}
	for _, c := range []struct {
		name           string
		chunk, version int
		want           list
	}{
		{"a new chunk", 5, 5, list{l[0], held(5, 5, 71), l[2], l[3], l[4], l[5]}},
		{"in place of a Bad one", 8, 6, list{l[0], l[1], held(8, 6, 75), l[4], l[5]}},
		{"in place of a held one", 9, 8, list{l[0], l[1], l[2], l[3], held(9, 8, 0)}},

		{"a chunk that isn't there", 4, 5, nil},
		{"a held one", 3, 5, nil},
		{"the version behind a held one's", 3, 6, nil},
		{"an earlier version", 5, 4, nil},
		{"a later version", 5, 6, nil},
		{"the version 0", 5, 0, nil},
		{"the version -5", 5, -5, nil},
		{"2^32 + the version", 5, 1<<32 + 5, nil},
		{"the held one's version, beside one being installed", 9, 5, nil},
		{"a version between the two", 9, 7, nil},
		{"a Bad one's version", 8, 5, nil},
		{"another chunk's version", 5, 8, nil},
		{"a held chunk's version 0", 3, 0, nil},
		{"the chunk 0", 0, 5, nil},
		{"the chunk 0, the version 0", 0, 0, nil},
		{"a chunk that isn't there, the version 0", 4, 0, nil},
		{"the chunk -5", -5, 5, nil},
		{"2^32 + the chunk", 1<<32 + 5, 5, nil},
		{"the least ones", least, least, nil},
		{"the greatest ones", greatest, greatest, nil},
	} {
		wantErr := api.OK
		if c.want == nil {
			wantErr = api.ErrNone
		}
		got, err := Commit(l, c.chunk, c.version)
		if !slices.Equal(got, c.want) || err != wantErr || err != api.OK && got != nil {
			t.Errorf("%s: Commit(%d, %d) = %v, %d, want %v, %d", c.name, c.chunk, c.version, got, err, c.want, wantErr)
		}
	}
	for _, chunk := range numbers {
		if got, err := Commit(nil, chunk, 1); got != nil || err != api.ErrNone {
			t.Errorf("Commit(nil, %d, 1) = %v, %d", chunk, got, err)
		}
	}
	if got, err := Commit(list{temp(lastChunk, lastVersion, 9)}, lastChunk, lastVersion); !slices.Equal(got, list{held(lastChunk, lastVersion, 9)}) || err != api.OK {
		t.Errorf("of the last chunk, the last version: Commit = %v, %d", got, err)
	}
}

func TestAbort(t *testing.T) {
	l := list{held(3, 5, 70), temp(5, 5, 71), bad(8, 5, 72), temp(8, 6, 75), held(9, 5, 73), temp(9, 8, 74)}
	for _, c := range []struct {
		name  string
		chunk int
		want  list
	}{
		{"alone", 5, list{l[0], l[2], l[3], l[4], l[5]}},
		{"beside a Bad one", 8, list{l[0], l[1], l[2], l[4], l[5]}},
		{"beside a held one", 9, list{l[0], l[1], l[2], l[3], l[4]}},
		{"a held one", 3, l},
		{"a chunk that isn't there", 4, l},
		{"a chunk behind all", 10, l},
		{"the chunk 0", 0, l},
		{"the chunk -5", -5, l},
		{"2^32 + the chunk", 1<<32 + 5, l},
		{"the least chunk", least, l},
		{"the greatest chunk", greatest, l},
	} {
		if got := Abort(l, c.chunk); !slices.Equal(got, c.want) {
			t.Errorf("%s: Abort(%d) = %v, want %v", c.name, c.chunk, got, c.want)
		}
	}
	for _, l := range []list{nil, {}, {temp(5, 5, 71)}} {
		if got := Abort(l, 5); len(got) != 0 {
			t.Errorf("Abort(%v, 5) = %v", l, got)
		}
	}
}

func TestRemoveAndSpoil(t *testing.T) {
	l := list{held(3, 5, 70), temp(5, 5, 71), bad(8, 5, 72), temp(8, 6, 75), held(9, 5, 73), temp(9, 8, 74), bad(11, 1, 0)}
	for _, c := range []struct {
		name             string
		chunk            int
		removed, spoiled list
	}{
		{"alone", 3, list{l[1], l[2], l[3], l[4], l[5], l[6]}, with(l, 0, bad(3, 5, 70))},
		{"Bad, beside one being installed", 8, list{l[0], l[1], l[3], l[4], l[5], l[6]}, l},
		{"beside one being installed", 9, list{l[0], l[1], l[2], l[3], l[5], l[6]}, with(l, 4, bad(9, 5, 73))},
		{"Bad, alone", 11, list{l[0], l[1], l[2], l[3], l[4], l[5]}, l},
		{"one being installed", 5, nil, nil},
		{"a chunk that isn't there", 4, nil, nil},
		{"a chunk behind all", 12, nil, nil},
		{"the chunk 0", 0, nil, nil},
		{"the chunk -3", -3, nil, nil},
		{"2^32 + the chunk", 1<<32 + 3, nil, nil},
		{"the least chunk", least, nil, nil},
		{"the greatest chunk", greatest, nil, nil},
	} {
		wantErr := api.OK
		if c.removed == nil {
			wantErr = api.ErrNone
		}
		got, err := Remove(l, c.chunk)
		if !slices.Equal(got, c.removed) || err != wantErr || err != api.OK && got != nil {
			t.Errorf("%s: Remove(%d) = %v, %d, want %v, %d", c.name, c.chunk, got, err, c.removed, wantErr)
		}
		got, err = Spoil(l, c.chunk)
		if !slices.Equal(got, c.spoiled) || err != wantErr || err != api.OK && got != nil {
			t.Errorf("%s: Spoil(%d) = %v, %d, want %v, %d", c.name, c.chunk, got, err, c.spoiled, wantErr)
		}
	}
	for _, chunk := range numbers {
		if got, err := Remove(nil, chunk); got != nil || err != api.ErrNone {
			t.Errorf("Remove(nil, %d) = %v, %d", chunk, got, err)
		}
		if got, err := Spoil(nil, chunk); got != nil || err != api.ErrNone {
			t.Errorf("Spoil(nil, %d) = %v, %d", chunk, got, err)
		}
	}
	if got, err := Remove(list{held(lastChunk, lastVersion, 9)}, lastChunk); len(got) != 0 || err != api.OK {
		t.Errorf("Remove of the only one = %v, %d", got, err)
	}
}

// A replica that is Bad is not had, but it stands in a new one's way until it
// is scrubbed.
func TestSpoiledOnes(t *testing.T) {
	l, err := Spoil(list{held(4, 5, 7), temp(4, 6, 8)}, 4)
	if err != api.OK || Has(l, 4, 5, 7) {
		t.Errorf("Spoil = %v, %d, Has tells it", l, err)
	}
	if got, err := Begin(l, held(4, 5, 7), 9); got != nil || err != api.ErrStale {
		t.Errorf("Begin of the Bad one's version = %v, %d", got, err)
	}
	done, err := Commit(l, 4, 6)
	if !slices.Equal(done, list{held(4, 6, 8)}) || err != api.OK || !Has(done, 4, 6, 8) {
		t.Errorf("Commit = %v, %d", done, err)
	}
	l, chunks := Scrub(l)
	if !slices.Equal(l, list{temp(4, 6, 8)}) || !slices.Equal(chunks, []int{4}) {
		t.Errorf("Scrub = %v, %v", l, chunks)
	}
	l, err = Begin(Abort(l, 4), held(4, 5, 7), 9)
	if !slices.Equal(l, list{temp(4, 5, 7)}) || err != api.OK {
		t.Errorf("Begin of what was Bad = %v, %d", l, err)
	}
}

// P10.4

func TestScrubAndRestart(t *testing.T) {
	for _, c := range []struct {
		name      string
		l         list
		scrubbed  list
		chunks    []int
		restarted list
	}{
		{"none", nil, nil, nil, nil},
		{"a slice of none", list{}, nil, nil, nil},
		{"a held one", list{held(4, 1, 7)}, list{held(4, 1, 7)}, nil, list{held(4, 1, 7)}},
		{"one being installed", list{temp(4, 1, 7)}, list{temp(4, 1, 7)}, nil, nil},
		{"a Bad one", list{bad(4, 1, 7)}, nil, []int{4}, list{bad(4, 1, 7)}},
		{"a held one and one being installed", list{held(4, 1, 7), temp(4, 2, 8)}, list{held(4, 1, 7), temp(4, 2, 8)}, nil, list{held(4, 1, 7)}},
		{"a Bad one and one being installed", list{bad(4, 1, 7), temp(4, 2, 8)}, list{temp(4, 2, 8)}, []int{4}, list{bad(4, 1, 7)}},
		{"three Bad ones", list{bad(4, 1, 7), bad(5, 1, 7), bad(6, 1, 7)}, nil, []int{4, 5, 6}, list{bad(4, 1, 7), bad(5, 1, 7), bad(6, 1, 7)}},
		{"three being installed", list{temp(4, 1, 7), temp(5, 1, 7), temp(6, 1, 7)}, list{temp(4, 1, 7), temp(5, 1, 7), temp(6, 1, 7)}, nil, nil},
		{"the first and the last one Bad", list{bad(1, 9, 7), held(5, 1, 7), bad(lastChunk, 1, 7)}, list{held(5, 1, 7)}, []int{1, lastChunk}, list{bad(1, 9, 7), held(5, 1, 7), bad(lastChunk, 1, 7)}},
		{"of all kinds", many(8),
			list{held(10, 5, 10), temp(20, 5, 20), held(40, 5, 40), temp(40, 8, 41), held(50, 5, 50), temp(60, 5, 60), held(80, 5, 80), temp(80, 8, 81)},
			[]int{30, 70},
			list{held(10, 5, 10), bad(30, 5, 30), held(40, 5, 40), held(50, 5, 50), bad(70, 5, 70), held(80, 5, 80)}},
	} {
		got, chunks := Scrub(c.l)
		if !slices.Equal(got, c.scrubbed) || !slices.Equal(chunks, c.chunks) {
			t.Errorf("%s: Scrub(%v) = %v, %v, want %v, %v", c.name, c.l, got, chunks, c.scrubbed, c.chunks)
		}
		if got := Restart(c.l); !slices.Equal(got, c.restarted) {
			t.Errorf("%s: Restart(%v) = %v, want %v", c.name, c.l, got, c.restarted)
		}
	}
}

// What was scrubbed or restarted once stays as it is.
func TestScrubAndRestartAgain(t *testing.T) {
	for n := range 40 {
		l, _ := Scrub(many(n))
		if again, chunks := Scrub(l); !slices.Equal(again, l) || len(chunks) != 0 {
			t.Errorf("of %d: Scrub again = %v, %v", n, again, chunks)
		}
		l = Restart(many(n))
		if again := Restart(l); !slices.Equal(again, l) {
			t.Errorf("of %d: Restart again = %v", n, again)
		}
	}
}

// A list that is not valid is an empty one to all calls but May.
func TestWrongLists(t *testing.T) {
	for _, c := range lists {
		if c.valid {
			continue
		}
		for _, r := range append(slices.Clone(c.l), held(4, 1, 7), held(4, 2, 7), held(4, 9, 7), held(9, 1, 7), held(0, 0, 0)) {
			for _, room := range []int{-1, 0, 1, 2, 16, greatest} {
				for _, step := range steps {
					got, err := step.do(c.l, r, room)
					want, wantErr := step.do(nil, r, room)
					if !slices.Equal(got, want) || err != wantErr {
						t.Errorf("%s: %s with %v, %d = %v, %d, want %v, %d", c.name, step.name, r, room, got, err, want, wantErr)
					}
				}
			}
		}
		if got, err := Begin(c.l, held(4, 1, 7), 1); !slices.Equal(got, list{temp(4, 1, 7)}) || err != api.OK {
			t.Errorf("%s: Begin = %v, %d", c.name, got, err)
		}
		if got := Abort(c.l, 9); len(got) != 0 {
			t.Errorf("%s: Abort = %v", c.name, got)
		}
		if got, chunks := Scrub(c.l); len(got) != 0 || len(chunks) != 0 {
			t.Errorf("%s: Scrub = %v, %v", c.name, got, chunks)
		}
		if got := Restart(c.l); len(got) != 0 {
			t.Errorf("%s: Restart = %v", c.name, got)
		}
	}
}

// P10.1 to P10.4 by their words, for all numbers that turn.

func TestNumbersThatTurn(t *testing.T) {
	for _, c := range lists {
		asked := slices.Clone(numbers)
		for _, r := range c.l {
			asked = append(asked, r.Chunk-1, r.Chunk, r.Chunk+1, r.Version-1, r.Version, r.Version+1)
		}
		slices.Sort(asked)
		asked = slices.Compact(asked)
		if len(c.l) > 5 {
			asked = asked[:60]
		}
		for _, chunk := range asked {
			for _, version := range asked {
				check(t, c.l, held(chunk, version, 7), len(c.l)+1)
			}
		}
	}
}

func TestRoomsThatTurn(t *testing.T) {
	for _, c := range lists {
		for _, room := range append([]int{len(c.l) - 1, len(c.l), len(c.l) + 1}, numbers...) {
			for _, chunk := range []int{0, 1, 4, 5, 20, 1000} {
				for _, version := range []int{0, 1, 2, 3, 5, 6, lastVersion, lastVersion + 1} {
					check(t, c.l, both(chunk, version, 7), room)
				}
			}
		}
	}
}

// all is all replicas of these chunks and versions, of all four kinds.
func all(chunks, versions []int) list {
	var l list
	for _, chunk := range chunks {
		for _, version := range versions {
			l = append(l, held(chunk, version, 7), temp(chunk, version, 8), bad(chunk, version, 7), both(chunk, version, 8))
		}
	}
	return l
}

func TestSmallLists(t *testing.T) {
	few := all([]int{0, 1, 2}, []int{0, 1, 2, 3})
	asked := all([]int{-1, 0, 1, 2, 3}, []int{0, 1, 2, 3, 4})
	for _, a := range few {
		for _, x := range asked {
			for room := range 3 {
				check(t, list{a}, x, room)
			}
		}
		for _, b := range few {
			for _, x := range asked[1:] {
				if x.Temp != x.Bad {
					check(t, list{a, b}, x, 2+x.Version%2)
				}
			}
		}
	}
}

// All lists of three of two chunks, most of them wrong, and all that is not
// wrong with one more behind it.
func TestListsOfThree(t *testing.T) {
	few := all([]int{1, 2}, []int{1, 2, 3})
	for _, a := range few {
		for _, b := range few {
			for _, c := range few {
				l := list{a, b, c}
				if !slowMay(l) {
					if May(l) {
						t.Fatalf("May(%v)", l)
					}
					continue
				}
				for chunk := range 4 {
					for version := range 5 {
						check(t, l, held(chunk, version, 7), 3+version%2)
						check(t, append(slices.Clone(l), temp(2, 4, 9)), held(chunk, version, 9), 4)
					}
				}
			}
		}
	}
}

// Each two errors that can apply at once do so at least once.
func TestSeveralErrors(t *testing.T) {
	seen := map[[2]api.Errno]bool{}
	l := list{held(3, 5, 70), temp(5, 5, 71), held(9, 5, 73), temp(9, 8, 74)}
	for _, chunk := range []int{0, 1, 3, 5, 9} {
		for _, version := range []int{0, 1, 5, 6, 8, 9} {
			for _, room := range []int{4, 5} {
				x := held(chunk, version, 7)
				check(t, l, x, room)
				errs := slowBeginErrors(l, x, room)
				for i, first := range errs {
					for _, other := range errs[i+1:] {
						seen[[2]api.Errno{first, other}] = true
					}
				}
			}
		}
	}
	for _, two := range [][2]api.Errno{
		{api.ErrArg, api.ErrStale}, {api.ErrArg, api.ErrThere}, {api.ErrArg, api.ErrFull},
		{api.ErrStale, api.ErrThere}, {api.ErrStale, api.ErrFull},
	} {
		if !seen[two] {
			t.Errorf("the errors %d and %d never apply at once", two[0], two[1])
		}
	}
}

// P10.5

// A server's list goes on by whatever calls, and is as the words say, never
// of more than its room.
func TestWalks(t *testing.T) {
	r := rand.New(rand.NewPCG(10, 5))
	taken := map[string]int{}
	for range 300 {
		var l list
		room := r.IntN(8)
		for range 150 {
			x := api.Replica{Chunk: r.IntN(6), Version: r.IntN(9), Sum: uint32(r.IntN(3)), Temp: r.IntN(2) == 0, Bad: r.IntN(2) == 0}
			if len(l) > 0 && r.IntN(2) == 0 {
				x = l[r.IntN(len(l))]
			}
			check(t, l, x, room)
			// Begin and Commit come most often, so that lists fill.
			step := steps[r.IntN(2)]
			if r.IntN(4) == 0 {
				step = steps[r.IntN(len(steps))]
			}
			next, err := step.do(l, x, room)
			if err != api.OK {
				continue
			}
			if len(next) > room || !May(next) {
				t.Fatalf("after %s of %v there are %v, in room for %d", step.name, x, next, room)
			}
			if !slices.Equal(next, l) {
				taken[step.name]++
			}
			l = next
		}
	}
	for _, step := range steps {
		if taken[step.name] < 100 {
			t.Errorf("%s changed a list only %d times", step.name, taken[step.name])
		}
	}
}

// What is being installed is had only after its Commit, and only as it was
// begun.
func TestVersionsIncrease(t *testing.T) {
	var l list
	for _, version := range []int{1, 2, 5, 100, 1 << 20, lastVersion - 1, lastVersion} {
		was := slices.Clone(l)
		begun, err := Begin(l, held(4, version, uint32(version)), 2)
		if err != api.OK || len(begun) != len(was)+1 || Has(begun, 4, version, uint32(version)) {
			t.Fatalf("Begin of the version %d in %v = %v, %d", version, l, begun, err)
		}
		for _, r := range was {
			if !Has(begun, r.Chunk, r.Version, r.Sum) {
				t.Fatalf("Begin of the version %d: %v is gone", version, r)
			}
		}
		if got := Restart(begun); !slices.Equal(got, was) {
			t.Fatalf("Restart = %v, want %v", got, was)
		}
		if got := Abort(begun, 4); !slices.Equal(got, was) {
			t.Fatalf("Abort = %v, want %v", got, was)
		}
		l, err = Commit(begun, 4, version)
		if !slices.Equal(l, list{held(4, version, uint32(version))}) || err != api.OK || !Has(l, 4, version, uint32(version)) {
			t.Fatalf("Commit of the version %d = %v, %d", version, l, err)
		}
		if got, err := Commit(l, 4, version); got != nil || err != api.ErrNone {
			t.Fatalf("Commit of the version %d again = %v, %d", version, got, err)
		}
		for _, earlier := range []int{1, version - 1, version} {
			if got, err := Begin(l, held(4, max(1, earlier), 7), 2); got != nil || err != api.ErrStale {
				t.Fatalf("Begin of the version %d behind %d = %v, %d", earlier, version, got, err)
			}
		}
	}
}

// A server's room is filled chunk by chunk, in whatever order.
func TestRoomIsFilled(t *testing.T) {
	r := rand.New(rand.NewPCG(10, 6))
	for room := range 17 {
		var l list
		for _, i := range r.Perm(room) {
			next, err := Begin(l, held(100*(i+1), 1, uint32(i)), room)
			if err != api.OK {
				t.Fatalf("%v in room for %d: Begin: %d", l, room, err)
			}
			l = next
		}
		if got, err := Begin(l, held(150, 1, 7), room); got != nil || err != api.ErrFull || len(l) != room {
			t.Errorf("room for %d: Begin in %v = %v, %d", room, l, got, err)
		}
		for i := range room {
			next, err := Commit(l, 100*(i+1), 1)
			if err != api.OK || !Has(next, 100*(i+1), 1, uint32(i)) {
				t.Fatalf("Commit in %v = %v, %d", l, next, err)
			}
			l = next
		}
		if room == 0 {
			continue
		}
		// A held one's next version needs room of its own.
		if got, err := Begin(l, held(100, 2, 7), room); got != nil || err != api.ErrFull {
			t.Errorf("room for %d: Begin of a held one's next version = %v, %d", room, got, err)
		}
		removed, err := Remove(l, 100)
		if err != api.OK || len(removed) != room-1 {
			t.Fatalf("Remove = %v, %d", removed, err)
		}
		if got, err := Begin(removed, held(150, 1, 7), room); len(got) != room || err != api.OK {
			t.Errorf("room for %d: Begin in what is free now = %v, %d", room, got, err)
		}
	}
}

// R3: the lists stay as they are, and so does what lies behind them in the
// same memory; what the calls answer is their caller's.

// roomy is l with room behind it, in which replicas stand, and a call that
// tells whether all of it is as it was.
func roomy(l list) (list, func() bool) {
	whole := append(slices.Clone(l), bad(91, 92, 93), temp(94, 95, 96), held(97, 98, 99))
	kept := slices.Clone(whole)
	return whole[:len(l)], func() bool { return slices.Equal(whole, kept) }
}

// about is replicas about which a list's calls are asked: those that are
// there, later ones, and some that aren't.
func about(l list) list {
	asked := list{held(1, 1, 7), held(15, 1, 7), held(lastChunk, lastVersion, 7), held(0, 0, 0)}
	for _, r := range l {
		asked = append(asked, r, held(r.Chunk, r.Version+1, 7), held(r.Chunk, r.Version+9, 7))
	}
	return asked
}

func TestTheArgumentsStay(t *testing.T) {
	for _, c := range lists {
		l, stays := roomy(c.l)
		for _, x := range about(c.l) {
			May(l)
			Has(l, x.Chunk, x.Version, x.Sum)
			for _, step := range steps {
				step.do(l, x, len(l)+1)
				if !stays() {
					t.Fatalf("%s: %s with %v changed the list", c.name, step.name, x)
				}
			}
		}
	}
}

func TestTheResultsAreTheCallers(t *testing.T) {
	for _, c := range lists {
		l, stays := roomy(c.l)
		for _, x := range about(c.l) {
			for _, step := range steps {
				a, _ := step.do(l, x, len(l)+1)
				b, _ := step.do(l, x, len(l)+1)
				want := slices.Clone(a)
				clear(a)
				_ = append(a, bad(1, 2, 3), temp(4, 5, 6))
				if !stays() || !slices.Equal(b, want) {
					t.Fatalf("%s: what %s with %v answered is somebody else's, too", c.name, step.name, x)
				}
			}
		}
		_, a := Scrub(l)
		_, b := Scrub(l)
		want := slices.Clone(a)
		clear(a)
		_ = append(a, 1, 2, 3)
		if !slices.Equal(b, want) {
			t.Fatalf("%s: the chunks that Scrub told are somebody else's, too", c.name)
		}
	}
}

func TestNothingIsKept(t *testing.T) {
	for _, c := range lists {
		for _, x := range about(c.l) {
			for _, step := range steps {
				l := slices.Clone(c.l)
				got, _ := step.do(l, x, len(l)+1)
				want := slices.Clone(got)
				clear(l)
				if !slices.Equal(got, want) {
					t.Fatalf("%s: what %s with %v answered hangs on the list it was given", c.name, step.name, x)
				}
			}
		}
	}
}

// R5: calls ahead change nothing.
func TestCallsAheadChangeNothing(t *testing.T) {
	l := many(8)
	for _, chunk := range numbers {
		for _, version := range numbers {
			for _, step := range steps {
				step.do(l, held(chunk, version, 7), 16)
				step.do(nil, held(chunk, version, 7), 16)
			}
		}
	}
	for _, x := range about(l) {
		check(t, l, x, 16)
		check(t, nil, x, 16)
	}
}

// P1: no list and no numbers make a call panic, or go on for long.

func TestVeryManyReplicas(t *testing.T) {
	var l list
	for chunk := 1; chunk <= lastChunk; chunk++ {
		l = append(l, bad(chunk, 1, 7), temp(chunk, 2, 8))
	}
	if !May(l) {
		t.Error("all chunks may not be")
	}
	if got, err := Begin(l, held(lastChunk, 3, 9), 0); len(got) != len(l) || got[len(l)-1] != temp(lastChunk, 3, 9) || err != api.OK {
		t.Errorf("Begin = %d replicas, %d", len(got), err)
	}
	if got, err := Begin(l, held(lastChunk, 2, 9), 0); got != nil || err != api.ErrThere {
		t.Errorf("Begin = %d replicas, %d", len(got), err)
	}
	if got, chunks := Scrub(l); len(got) != lastChunk || len(chunks) != lastChunk || chunks[lastChunk-1] != lastChunk {
		t.Errorf("Scrub = %d replicas, %d chunks", len(got), len(chunks))
	}
	if got := Restart(l); len(got) != lastChunk {
		t.Errorf("Restart = %d replicas", len(got))
	}
	l = append(l, held(1, 1, 7))
	if May(l) {
		t.Error("one more than all may be")
	}
	if got := Restart(l); len(got) != 0 {
		t.Errorf("of a wrong list: Restart = %d replicas", len(got))
	}
}

func FuzzReplicas(f *testing.F) {
	f.Add([]byte{}, 0, 0, 1, 1, uint32(7), 1)
	f.Add([]byte{1, 1, 7, 0, 1, 2, 7, 1}, 0, 0, 1, 3, uint32(7), 2)
	f.Add([]byte{1, 1, 7, 2, 2, 2, 7, 3}, lastChunk-1, lastVersion-1, lastChunk, lastVersion, uint32(0), 2)
	f.Add([]byte{9, 1, 7, 0, 8, 1, 7, 1}, -8, 0, 1, 2, uint32(7), least)
	f.Add([]byte{0, 0, 0, 0}, least, greatest, greatest, least, uint32(math.MaxUint32), greatest)
	f.Fuzz(func(t *testing.T, b []byte, addChunk, addVersion, chunk, version int, sum uint32, room int) {
		var l list
		for four := range slices.Chunk(b, 4) {
			if len(four) == 4 {
				l = append(l, api.Replica{Chunk: addChunk + int(four[0]), Version: addVersion + int(four[1]), Sum: uint32(four[2]),
					Temp: four[3]&1 != 0, Bad: four[3]&2 != 0})
			}
		}
		x := held(chunk, version, sum)
		check(t, l, x, room)
		// The valid ones among them, in their order, which more lists survive.
		var kept list
		for _, r := range l {
			if slowMay(append(slices.Clone(kept), r)) {
				kept = append(kept, r)
			}
		}
		check(t, kept, x, room)
		for _, r := range kept {
			for more := -1; more <= 1; more++ {
				check(t, kept, held(r.Chunk, r.Version+more, r.Sum), len(kept)+more)
			}
		}
	})
}
