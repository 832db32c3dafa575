// Package ideal is layer 14: the sequential specification of the pool (shared/doc/14-ideal.md).
package ideal

import (
	"maps"

	"coatcheck/api"
)

// Pool is the set of tickets that have been issued. The zero Pool has no tickets, and its objects have no words.
type Pool struct {
	words int
	live  map[api.Word]api.Word // the number of each live ticket
	dead  map[api.Word]bool
}

// ruleKey is what a rule is looked up by.
type ruleKey struct {
	kind int
	ret  api.Errno
}

// rule is a row of the table of allowed answers: what it needs and what it changes.
type rule struct {
	needs, does int
}

// What a rule needs.
const (
	nothing = iota
	neverIssued
	live
	liveWithPayload
	notLive
)

// What a rule changes.
const (
	keep = iota
	issue
	kill
	renumber
)

// rules builds the table anew for each lookup, because a map at package level would be shared state.
func rules() map[ruleKey]rule {
	return map[ruleKey]rule{
		{api.OpAlloc, api.OK}:       {neverIssued, issue},
		{api.OpAlloc, api.ErrFull}:  {nothing, keep},
		{api.OpFree, api.OK}:        {live, kill},
		{api.OpFree, api.ErrBusy}:   {live, keep},
		{api.OpFree, api.ErrStale}:  {notLive, keep},
		{api.OpFree, api.ErrBad}:    {notLive, keep},
		{api.OpWrite, api.OK}:       {live, renumber},
		{api.OpWrite, api.ErrFull}:  {nothing, keep},
		{api.OpWrite, api.ErrBusy}:  {live, keep},
		{api.OpWrite, api.ErrStale}: {notLive, keep},
		{api.OpWrite, api.ErrBad}:   {notLive, keep},
		{api.OpDeref, api.OK}:       {liveWithPayload, keep},
		{api.OpDeref, api.ErrStale}: {notLive, keep},
		{api.OpDeref, api.ErrBad}:   {notLive, keep},
	}
}

// ruleOf returns the rule of an answer, or false if no rule allows it.
func ruleOf(a api.Answer) (rule, bool) {
	switch a.Op.Kind {
	case api.OpPin, api.OpUnpin, api.OpPeek, api.OpCollect, api.OpDrain:
		// Every Errno is allowed here, more than a map can list.
		return rule{nothing, keep}, true
	}
	r, ok := rules()[ruleKey{a.Op.Kind, a.Ret}]
	return r, ok
}

// New returns a pool with no tickets whose objects have the given number of words, from 0 to MaxWords.
func New(words int) *Pool {
	return &Pool{words: min(max(words, 0), api.MaxWords)}
}

// Step reports whether an answer is allowed, and if so changes the pool as the answer says.
func (p *Pool) Step(a api.Answer) bool {
	if p == nil {
		return false
	}
	r, ok := ruleOf(a)
	if !ok || !p.meets(r.needs, a) {
		return false
	}
	p.change(r.does, a)
	return true
}

// meets reports whether the pool is as a rule needs it for an answer.
func (p *Pool) meets(needs int, a api.Answer) bool {
	x, alive := p.Live(a.T)
	switch needs {
	case nothing:
		return true
	case neverIssued:
		return !p.Told(a.T)
	case live:
		return alive
	case liveWithPayload:
		return alive && isPayload(p.words, x, a.Read)
	case notLive:
		return !alive
	}
	return false
}

// change makes the change of a rule for an answer that is allowed.
func (p *Pool) change(does int, a api.Answer) {
	switch does {
	case issue, renumber:
		if p.live == nil {
			p.live = map[api.Word]api.Word{}
		}
		p.live[a.T] = a.Op.X
	case kill:
		if p.dead == nil {
			p.dead = map[api.Word]bool{}
		}
		delete(p.live, a.T)
		p.dead[a.T] = true
	}
}

// isPayload reports whether l is the payload of the number x for objects of the given number of words.
func isPayload(words int, x api.Word, l []api.Word) bool {
	if len(l) != words {
		return false
	}
	for i, w := range l {
		if w != x+api.Word(i) {
			return false
		}
	}
	return true
}

// Live returns the number of a live ticket and true, or 0 and false.
func (p *Pool) Live(t api.Word) (api.Word, bool) {
	if p == nil {
		return 0, false
	}
	x, ok := p.live[t]
	return x, ok
}

// Told reports whether a ticket has been issued.
func (p *Pool) Told(t api.Word) bool {
	if p == nil {
		return false
	}
	_, alive := p.live[t]
	return alive || p.dead[t]
}

// Len returns the number of live tickets.
func (p *Pool) Len() int {
	if p == nil {
		return 0
	}
	return len(p.live)
}

// Copy returns a pool of the same state that shares no memory with this one.
func (p *Pool) Copy() *Pool {
	if p == nil {
		return nil
	}
	return &Pool{words: p.words, live: maps.Clone(p.live), dead: maps.Clone(p.dead)}
}
