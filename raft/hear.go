package raft

import (
	"suture/api"
	"suture/entries"
	"suture/vote"
)

// kinds is what it does with a message, by the message's kind.
func (m *Member) kinds() map[int]func(api.Msg) []api.Msg {
	return map[int]func(api.Msg) []api.Msg{
		api.AskVote: m.askVote,
		api.SayVote: m.sayVote,
		api.AskAdd:  m.askAdd,
		api.SayAdd:  m.sayAdd,
	}
}

// Hear is what it says to a message.
func (m *Member) Hear(x api.Msg) []api.Msg {
	hear, known := m.kinds()[x.Kind]
	if !known || x.To != m.id {
		goto nothing
	}
	if x.From == m.id || x.From < 1 || x.From > m.many {
		goto nothing
	}
	if x.Term < 1 || x.Term > api.MaxTerm {
		goto nothing
	}
	if x.Term > m.ballot.Term {
		m.ballot = vote.See(m.ballot, x.Term)
		m.role = api.Follower
	}
	return hear(x)
nothing:
	return nil
}

// askVote hears a candidate that asks for its vote.
func (m *Member) askVote(x api.Msg) []api.Msg {
	yes := false
	m.ballot, yes = vote.Grant(m.ballot, m.log, x)
	return m.answer(api.SayVote, x.From, yes, 0)
}

// sayVote hears what a member answered to its plea.
func (m *Member) sayVote(x api.Msg) []api.Msg {
	if m.role != api.Candidate || x.Term != m.ballot.Term || !x.Yes {
		goto nothing
	}
	m.votes[x.From-1] = 1
	if m.elected() {
		return m.lead()
	}
nothing:
	return nil
}

// askAdd hears a leader that wants entries to be added.
func (m *Member) askAdd(x api.Msg) []api.Msg {
	index := 0
	var l api.Log
	var err api.Errno
	if x.Term < m.ballot.Term {
		goto refuse
	}
	// A term has one leader: whoever says that it leads in this one doesn't.
	if m.role == api.Leader {
		goto nothing
	}
	m.role = api.Follower
	// The leader needn't go back further than to the end of this log.
	index, _ = entries.Last(m.log)
	l, err = entries.Add(m.log, x.Index, x.LogTerm, x.L)
	if err != api.OK || fromLater(x) {
		goto refuse
	}
	m.log = l
	index = x.Index + len(x.L)
	// Behind that index its log may still be another one than the leader's.
	m.settled = max(m.settled, min(x.Commit, index))
	return m.answer(api.SayAdd, x.From, true, index)
refuse:
	return m.answer(api.SayAdd, x.From, false, index)
nothing:
	return nil
}

// fromLater tells whether x brings an entry of a later term than its own.
func fromLater(x api.Msg) bool {
	for _, e := range x.L {
		if e.Term > x.Term {
			return true
		}
	}
	return false
}

// sayAdd hears what a member answered to an addition.
func (m *Member) sayAdd(x api.Msg) []api.Msg {
	i := x.From - 1
	last, _ := entries.Last(m.log)
	if m.role != api.Leader || x.Term != m.ballot.Term {
		goto nothing
	}
	if !x.Yes {
		// The 1 is added behind min: Index may be the greatest number.
		m.next[i] = max(min(m.next[i]-2, x.Index)+1, 1)
		return []api.Msg{m.addition(x.From)}
	}
	if x.Index < 0 || x.Index > last {
		goto nothing
	}
	m.match[i] = max(m.match[i], x.Index)
	m.next[i] = m.match[i] + 1
	m.settle()
	if m.next[i] <= last {
		return []api.Msg{m.addition(x.From)}
	}
nothing:
	return nil
}
