package raft

import (
	"suture/api"
	"suture/entries"
)

// most is how many entries an addition has at most.
const most = 8

// message is one of a kind for a member, with what every message has.
func (m *Member) message(kind, to int) api.Msg {
	return api.Msg{Kind: kind, From: m.id, To: to, Term: m.ballot.Term}
}

// plea asks a member for its vote.
func (m *Member) plea(to int) api.Msg {
	x := m.message(api.AskVote, to)
	x.Index, x.LogTerm = entries.Last(m.log)
	return x
}

// addition asks a member to add the entries that come next for it.
func (m *Member) addition(to int) api.Msg {
	x := m.message(api.AskAdd, to)
	next := m.next[to-1]
	x.Index = next - 1
	x.LogTerm, _ = entries.Term(m.log, next-1)
	x.Commit = m.settled
	x.L = entries.From(m.log, next, most)
	return x
}

// answer tells a member whether it had what it asked for, and an index.
func (m *Member) answer(kind, to int, yes bool, index int) []api.Msg {
	x := m.message(kind, to)
	x.Yes, x.Index = yes, index
	return []api.Msg{x}
}
