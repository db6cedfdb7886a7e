package vault

import (
	"suture/api"
	"suture/entries"
	"suture/fields"
	"suture/frame"
	"suture/vote"
)

// Kinds of records: they are on disks, so a new one goes behind the others.
const (
	ballotRecord = iota + 1
	entryRecord
	cutRecord
)

// How many numbers a record of each kind has.
const (
	ballotCount = 2
	entryCount  = 8
	cutCount    = 1
)

// state is what a member must know again after a crash; the log has the Base 0.
type state struct {
	ballot api.Ballot
	log    []api.Entry
}

// steps is the records that lead from s to b and l.
func (s state) steps(b api.Ballot, l []api.Entry) []byte {
	var out []byte
	// The ballot goes first: if the rest is lost, no entry is left whose term
	// the ballot doesn't know.
	if b != s.ballot {
		out = append(out, record(ballotRecord, b.Term, b.Vote)...)
	}
	same := agreed(s.log, l)
	if len(s.log) > same {
		out = append(out, record(cutRecord, same)...)
	}
	for i, e := range l[same:] {
		c := e.Cmd
		out = append(out, record(entryRecord, same+i+1, e.Term, c.Client, c.Seq, c.Kind, c.A, c.B, c.C)...)
	}
	return out
}

// agreed is how many entries old and l begin with that are the same, commands
// and all.
func agreed(old, l []api.Entry) int {
	n := 0
	for n < len(old) && n < len(l) && old[n] == l[n] {
		n++
	}
	return n
}

// record is the bytes of one of that kind.
func record(kind int, numbers ...int) []byte {
	// Neither call can fail: Save lets no number pass that has no encoding,
	// and the few that a record has fill no frame.
	body, _ := fields.Pack(api.Fields{N: numbers})
	b, _ := frame.Put(api.Frame{Kind: kind, Body: body})
	return b
}

// read is the state that the records tell with which b begins, and how many
// bytes these take.
func read(b []byte) (state, int) {
	var s state
	used := 0
records:
	for {
		// The frames are those of frame.Run, taken one by one: it is asked
		// where each of them ends.
		f, size, err := frame.Get(b[used:])
		if err != api.OK {
			break records
		}
		switch n := numbersOf(f); f.Kind {
		case ballotRecord:
			if !s.setBallot(n) {
				break records
			}
		case entryRecord:
			if !s.addEntry(n) {
				break records
			}
		case cutRecord:
			if !s.cut(n) {
				break records
			}
		default:
			break records
		}
		used += size
	}
	return s, used
}

// numbersOf is the numbers of f; none, as no record has, where its Body is not
// numbers alone.
func numbersOf(f api.Frame) []int {
	x, err := fields.Unpack(f.Body)
	if err != api.OK || len(x.Data) > 0 {
		return nil
	}
	return x.N
}

// setBallot takes the ballot of a record; false: the record has none that may
// be, and s stays as it is. So do addEntry and cut with what is theirs.
func (s *state) setBallot(n []int) bool {
	if len(n) != ballotCount {
		return false
	}
	b := api.Ballot{Term: n[0], Vote: n[1]}
	if !vote.May(b) {
		return false
	}
	s.ballot = b
	return true
}

func (s *state) addEntry(n []int) bool {
	if len(n) != entryCount || n[0] != len(s.log)+1 {
		return false
	}
	c := api.Cmd{Client: n[2], Seq: n[3], Kind: n[4], A: n[5], B: n[6], C: n[7]}
	longer := append(s.log, api.Entry{Term: n[1], Cmd: c})
	if !entries.May(api.Log{L: longer}) {
		return false
	}
	s.log = longer
	return true
}

func (s *state) cut(n []int) bool {
	if len(n) != cutCount || n[0] > len(s.log) {
		return false
	}
	s.log = s.log[:n[0]]
	return true
}
