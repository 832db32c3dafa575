package ideal

import (
	"math"
	"slices"
	"testing"

	"coatcheck/api"
)

// The tickets of the pool that sample returns.
const (
	liveTicket  = api.Word(65537)
	otherTicket = api.Word(65538)
	deadTicket  = api.Word(65539)
	newTicket   = api.Word(65540)
)

// sample returns a pool of two words with two live tickets (numbers 7 and 20) and a dead one.
func sample(t *testing.T) *Pool {
	t.Helper()
	p := New(2)
	for _, a := range []api.Answer{
		answer(api.OpAlloc, liveTicket, 7, api.OK),
		answer(api.OpAlloc, otherTicket, 20, api.OK),
		answer(api.OpAlloc, deadTicket, 30, api.OK),
		answer(api.OpFree, deadTicket, 0, api.OK),
	} {
		if !p.Step(a) {
			t.Fatalf("%v is not allowed", a)
		}
	}
	return p
}

func answer(kind int, ticket, x api.Word, ret api.Errno, read ...api.Word) api.Answer {
	return api.Answer{Op: api.Op{Kind: kind, X: x}, T: ticket, Ret: ret, Read: read}
}

// state is what Live, Told and Len tell of a ticket and of the pool.
type state struct {
	number api.Word
	live   bool
	told   bool
	len    int
}

func stateOf(p *Pool, ticket api.Word) state {
	x, ok := p.Live(ticket)
	return state{x, ok, p.Told(ticket), p.Len()}
}

// wantSample reports where a pool differs from sample's.
func wantSample(t *testing.T, name string, p *Pool) {
	t.Helper()
	for ticket, want := range map[api.Word]state{
		liveTicket:  {7, true, true, 2},
		otherTicket: {20, true, true, 2},
		deadTicket:  {0, false, true, 2},
		newTicket:   {0, false, false, 2},
		0:           {0, false, false, 2},
	} {
		if got := stateOf(p, ticket); got != want {
			t.Errorf("%s: ticket %d is %+v, want %+v", name, ticket, got, want)
		}
	}
	if !p.Copy().Step(answer(api.OpDeref, liveTicket, 0, api.OK, 7, 8)) {
		t.Errorf("%s: the payload of two words is not allowed", name)
	}
}

var kinds = []int{math.MinInt, -1, 0, api.OpPin, api.OpUnpin, api.OpAlloc, api.OpFree, api.OpWrite, api.OpDeref, api.OpPeek, api.OpCollect, api.OpDrain, 10, math.MaxInt}

var rets = []api.Errno{math.MinInt, -1, api.OK, api.ErrArg, api.ErrRange, api.ErrForm, api.ErrKind, api.ErrFull, api.ErrBusy, api.ErrStale, api.ErrBad, api.ErrState, 10, math.MaxInt}

// allowedBySpec is the table of the chapter, written as one condition for each row.
func allowedBySpec(kind int, ret api.Errno, live, told bool) bool {
	switch kind {
	case api.OpPin, api.OpUnpin, api.OpPeek, api.OpCollect, api.OpDrain:
		return true
	case api.OpAlloc:
		return ret == api.OK && !told || ret == api.ErrFull
	case api.OpFree:
		return (ret == api.OK || ret == api.ErrBusy) && live || (ret == api.ErrStale || ret == api.ErrBad) && !live
	case api.OpWrite:
		return (ret == api.OK || ret == api.ErrBusy) && live || (ret == api.ErrStale || ret == api.ErrBad) && !live || ret == api.ErrFull
	case api.OpDeref:
		return ret == api.OK && live || (ret == api.ErrStale || ret == api.ErrBad) && !live
	}
	return false
}

// P14.1: every kind with every error, on a ticket that is live, dead or not issued; no other answer is allowed, and only three rows change the pool.
func TestStepFollowsTheTable(t *testing.T) {
	for _, kind := range kinds {
		for _, ret := range rets {
			for _, ticket := range []api.Word{liveTicket, deadTicket, newTicket} {
				checkStep(t, kind, ret, ticket)
			}
		}
	}
}

// checkStep does one step with the number 50 and the payload of the live ticket.
func checkStep(t *testing.T, kind int, ret api.Errno, ticket api.Word) {
	t.Helper()
	p := sample(t)
	before := stateOf(p, ticket)
	want := allowedBySpec(kind, ret, before.live, before.told)
	if got := p.Step(answer(kind, ticket, 50, ret, 7, 8)); got != want {
		t.Errorf("kind %d, error %d, ticket %d: %v, want %v", kind, ret, ticket, got, want)
	}
	after := before
	if want && ret == api.OK {
		switch kind {
		case api.OpAlloc:
			after = state{50, true, true, 3}
		case api.OpFree:
			after = state{0, false, true, 1}
		case api.OpWrite:
			after = state{50, true, true, 2}
		}
	}
	if got := stateOf(p, ticket); got != after {
		t.Errorf("kind %d, error %d, ticket %d: state %+v, want %+v", kind, ret, ticket, got, after)
	}
	if x, ok := p.Live(otherTicket); x != 20 || !ok {
		t.Errorf("kind %d, error %d, ticket %d: another ticket became %d, %v", kind, ret, ticket, x, ok)
	}
}

// P14.1: answers that are not allowed leave the pool as it is, also one after another.
func TestStepThatIsNotAllowedChangesNothing(t *testing.T) {
	p := sample(t)
	for _, a := range []api.Answer{
		answer(api.OpAlloc, liveTicket, 50, api.OK),
		answer(api.OpAlloc, deadTicket, 50, api.OK),
		answer(api.OpAlloc, newTicket, 50, api.ErrBusy),
		answer(api.OpFree, deadTicket, 0, api.OK),
		answer(api.OpFree, newTicket, 0, api.OK),
		answer(api.OpFree, liveTicket, 0, api.ErrStale),
		answer(api.OpFree, liveTicket, 0, api.ErrFull),
		answer(api.OpWrite, deadTicket, 50, api.OK),
		answer(api.OpWrite, newTicket, 50, api.OK),
		answer(api.OpWrite, newTicket, 50, api.ErrBusy),
		answer(api.OpWrite, liveTicket, 50, api.ErrBad),
		answer(api.OpDeref, liveTicket, 0, api.OK, 7, 7),
		answer(api.OpDeref, liveTicket, 0, api.ErrBusy, 7, 8),
		answer(0, liveTicket, 50, api.OK),
		{},
	} {
		if p.Step(a) {
			t.Errorf("%v is allowed", a)
		}
		wantSample(t, "after what is not allowed", p)
	}
}

// P14.1: a Deref reads the payload of the number, with one element for each word, and wraps around.
func TestStepDerefReadsThePayload(t *testing.T) {
	const top = api.Word(math.MaxUint64)
	for _, c := range []struct {
		words int
		x     api.Word
		read  []api.Word
		want  bool
	}{
		{0, 7, nil, true}, {0, 7, []api.Word{}, true}, {0, 7, []api.Word{7}, false},
		{1, 7, []api.Word{7}, true}, {1, 7, []api.Word{8}, false}, {1, 7, nil, false},
		{2, 7, []api.Word{7, 8}, true}, {2, 7, []api.Word{7, 7}, false}, {2, 7, []api.Word{8, 9}, false},
		{2, 7, []api.Word{7}, false}, {2, 7, []api.Word{7, 8, 9}, false},
		{4, 0, []api.Word{0, 1, 2, 3}, true}, {4, 0, []api.Word{0, 1, 2, 4}, false}, {4, 0, []api.Word{1, 1, 2, 3}, false},
		{2, top, []api.Word{top, 0}, true}, {4, top - 1, []api.Word{top - 1, top, 0, 1}, true},
	} {
		p := New(c.words)
		p.Step(answer(api.OpAlloc, liveTicket, c.x, api.OK))
		if got := p.Step(answer(api.OpDeref, liveTicket, 0, api.OK, c.read...)); got != c.want {
			t.Errorf("%d words, number %d, read %v: %v", c.words, c.x, c.read, got)
		}
		if got := stateOf(p, liveTicket); got != (state{c.x, true, true, 1}) {
			t.Errorf("%d words, number %d, read %v: state %+v", c.words, c.x, c.read, got)
		}
	}
}

// P14.1: after a Write, a Deref reads the new number's payload and the old one is not allowed.
func TestStepDerefAfterWrite(t *testing.T) {
	p := sample(t)
	if !p.Step(answer(api.OpWrite, liveTicket, 100, api.OK)) {
		t.Fatal("the Write is not allowed")
	}
	if p.Step(answer(api.OpDeref, liveTicket, 0, api.OK, 7, 8)) || !p.Step(answer(api.OpDeref, liveTicket, 0, api.OK, 100, 101)) {
		t.Error("the Deref does not read what was written")
	}
	if !p.Step(answer(api.OpDeref, otherTicket, 0, api.OK, 20, 21)) {
		t.Error("the Write changed another ticket")
	}
}

// P14.1: the number of words is clamped to the range 0 to MaxWords.
func TestNewClampsTheNumberOfWords(t *testing.T) {
	for words, want := range map[int]int{math.MinInt: 0, -1: 0, 0: 0, 1: 1, 3: 3, api.MaxWords: api.MaxWords, api.MaxWords + 1: api.MaxWords, math.MaxInt: api.MaxWords} {
		p := New(words)
		if p.Len() != 0 || p.Told(0) || p.Told(liveTicket) {
			t.Errorf("New(%d) has tickets", words)
		}
		p.Step(answer(api.OpAlloc, liveTicket, 0, api.OK))
		for n, read := range [][]api.Word{{}, {0}, {0, 1}, {0, 1, 2}, {0, 1, 2, 3}, {0, 1, 2, 3, 4}} {
			if got := p.Step(answer(api.OpDeref, liveTicket, 0, api.OK, read...)); got != (n == want) {
				t.Errorf("New(%d): a payload of %d words: %v", words, n, got)
			}
		}
	}
}

// P14.1: the ticket is the answer's, not the operation's, and fields without a meaning in a row are not looked at.
func TestStepUsesTheTicketOfTheAnswer(t *testing.T) {
	p := New(1)
	a := api.Answer{Op: api.Op{Kind: api.OpAlloc, T: 5, X: 7, Slab: -3, Use: true, By: -1, Nth: 99}, T: 6, Read: []api.Word{1, 2, 3}}
	if !p.Step(a) || p.Told(5) || stateOf(p, 6) != (state{7, true, true, 1}) {
		t.Errorf("Alloc: %+v", stateOf(p, 6))
	}
	if !p.Step(api.Answer{Op: api.Op{Kind: api.OpDeref, T: 6}, T: 5, Ret: api.ErrStale, Read: []api.Word{7}}) {
		t.Error("a stale Deref is not allowed")
	}
}

// P14.1: tickets are words of any value, 0 and the greatest among them.
func TestStepAcceptsEveryTicket(t *testing.T) {
	p := New(0)
	for i, ticket := range []api.Word{0, 1, math.MaxUint64} {
		if !p.Step(answer(api.OpAlloc, ticket, ticket, api.OK)) || stateOf(p, ticket) != (state{ticket, true, true, i + 1}) {
			t.Errorf("ticket %d: %+v", ticket, stateOf(p, ticket))
		}
	}
}

// P14.1: a slice that Step is passed is neither changed nor kept.
func TestStepLeavesTheAnswerAlone(t *testing.T) {
	p := sample(t)
	read := []api.Word{7, 8}
	p.Step(answer(api.OpDeref, liveTicket, 0, api.OK, read...))
	if !slices.Equal(read, []api.Word{7, 8}) {
		t.Errorf("the payload became %v", read)
	}
	read[0] = 99
	wantSample(t, "after a change of the payload", p)
}

// P14.2: Live, Told and Len follow a ticket through its life; a dead ticket never comes back.
func TestLiveToldLen(t *testing.T) {
	p := New(1)
	for i, c := range []struct {
		a    api.Answer
		want state
	}{
		{answer(api.OpAlloc, liveTicket, 7, api.ErrFull), state{0, false, false, 0}},
		{answer(api.OpFree, liveTicket, 0, api.ErrBad), state{0, false, false, 0}},
		{answer(api.OpAlloc, liveTicket, 0, api.OK), state{0, true, true, 1}},
		{answer(api.OpAlloc, otherTicket, 9, api.OK), state{0, true, true, 2}},
		{answer(api.OpWrite, liveTicket, 8, api.OK), state{8, true, true, 2}},
		{answer(api.OpFree, liveTicket, 0, api.ErrBusy), state{8, true, true, 2}},
		{answer(api.OpFree, liveTicket, 0, api.OK), state{0, false, true, 1}},
		{answer(api.OpWrite, liveTicket, 5, api.ErrStale), state{0, false, true, 1}},
		{answer(api.OpWrite, liveTicket, 5, api.ErrFull), state{0, false, true, 1}},
		{answer(api.OpFree, otherTicket, 0, api.OK), state{0, false, true, 0}},
	} {
		if !p.Step(c.a) {
			t.Errorf("%d: not allowed", i)
		}
		if got := stateOf(p, liveTicket); got != c.want {
			t.Errorf("%d: %+v, want %+v", i, got, c.want)
		}
	}
	if p.Step(answer(api.OpAlloc, liveTicket, 1, api.OK)) || p.Len() != 0 {
		t.Error("a dead ticket was issued again")
	}
}

// P14.2: a copy has the same state, and neither it nor the original sees the other's changes.
func TestCopyIsIndependent(t *testing.T) {
	change := []api.Answer{
		answer(api.OpFree, liveTicket, 0, api.OK),
		answer(api.OpWrite, otherTicket, 21, api.OK),
		answer(api.OpAlloc, newTicket+1, 1, api.OK),
		answer(api.OpAlloc, newTicket, 1, api.OK),
		answer(api.OpFree, newTicket, 0, api.OK),
	}
	p := sample(t)
	q := p.Copy()
	wantSample(t, "copy", q)
	for _, a := range change {
		if !q.Step(a) {
			t.Errorf("%v is not allowed in the copy", a)
		}
	}
	wantSample(t, "original after the copy's changes", p)
	r := p.Copy()
	for _, a := range change {
		if !p.Step(a) {
			t.Errorf("%v is not allowed in the original", a)
		}
	}
	wantSample(t, "copy after the original's changes", r)
}

// P14.2: on a nil *Pool every method returns false, 0 or nil.
func TestNilPool(t *testing.T) {
	var p *Pool
	for _, kind := range kinds {
		for _, ret := range rets {
			if p.Step(answer(kind, liveTicket, 7, ret)) {
				t.Errorf("kind %d, error %d is allowed", kind, ret)
			}
		}
	}
	if got := stateOf(p, liveTicket); got != (state{}) {
		t.Errorf("%+v", got)
	}
	if p.Copy() != nil {
		t.Error("the copy is not nil")
	}
}

// P14.2: the zero Pool is New(0), and so is its copy.
func TestZeroPool(t *testing.T) {
	for name, p := range map[string]*Pool{"zero": {}, "copy of zero": (&Pool{}).Copy(), "New(0)": New(0)} {
		if got := stateOf(p, liveTicket); got != (state{}) {
			t.Errorf("%s: %+v", name, got)
		}
		if p.Step(answer(api.OpFree, liveTicket, 0, api.OK)) || !p.Step(answer(api.OpAlloc, liveTicket, 7, api.OK)) {
			t.Errorf("%s: the ticket was issued before its Alloc", name)
		}
		if !p.Step(answer(api.OpDeref, liveTicket, 0, api.OK)) || p.Step(answer(api.OpDeref, liveTicket, 0, api.OK, 7)) {
			t.Errorf("%s: the payload is not empty", name)
		}
		if !p.Step(answer(api.OpFree, liveTicket, 0, api.OK)) || stateOf(p, liveTicket) != (state{0, false, true, 0}) {
			t.Errorf("%s: %+v", name, stateOf(p, liveTicket))
		}
	}
}
