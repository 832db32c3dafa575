package epoch

import (
	"math"
	"math/rand"
	"slices"
	"testing"

	"coatcheck/api"
	"coatcheck/memory"
	"coatcheck/pack"
	"coatcheck/plan"
	"coatcheck/rack"
)

var config = api.Config{Workers: 3, Slabs: 1, Blocks: 1, Words: 1, Entries: 1, Rack: 0, Bag: 1, Last: 9}

var layout = plan.Plan{Config: config}

// at returns a memory with a global epoch and announcements.
func at(t *testing.T, epoch api.Word, announced ...api.Word) *memory.Memory {
	t.Helper()
	m, e := memory.New(config)
	if e != api.OK {
		t.Fatal(e)
	}
	m.Store(plan.AtEpoch, epoch)
	for w, a := range announced {
		m.Store(layout.Announce(w), a)
	}
	m.Clear()
	return m
}

func active(epoch api.Word) api.Word { return epoch<<1 | 1 }

func inactive(epoch api.Word) api.Word { return epoch << 1 }

// P7.1: each row of the table, with its access, its next line and its outcome.
func TestLines(t *testing.T) {
	last := layout.Announce(2)
	for _, c := range []struct {
		name    string
		m       *memory.Memory
		w       int
		x, want api.Work
		outcome int
		seen    api.Access
	}{
		{"load the epoch", at(t, 7), 1, api.Work{Line: 1, E: 3}, api.Work{Line: 2, E: 7}, api.Going, api.Access{Kind: api.ALoad, At: 0, Old: 7}},
		{"announce", at(t, 7, 0, 8), 1, api.Work{Line: 2, E: 6}, api.Work{Line: 3, E: 6}, api.Going, api.Access{Kind: api.AStore, At: 4, X: 13, Old: 8}},
		{"inside", at(t, 7), 1, api.Work{Line: 3, E: 7}, api.Work{E: 7}, api.Got, api.Access{Kind: api.ALoad, At: 0, Old: 7}},
		{"too late", at(t, 8), 1, api.Work{Line: 3, E: 7}, api.Work{Line: 2, E: 8}, api.Going, api.Access{Kind: api.ALoad, At: 0, Old: 8}},
		{"leave", at(t, 8, 0, 15), 1, api.Work{Line: 90, E: 7}, api.Work{E: 7}, api.Got, api.Access{Kind: api.AStore, At: 4, X: 14, Old: 15}},
		{"collect", at(t, 7), 1, api.Work{Line: 70, J: 5}, api.Work{Line: 71, V: 7}, api.Going, api.Access{Kind: api.ALoad, At: 0, Old: 7}},
		{"ask the first", at(t, 7, active(7)), 1, api.Work{Line: 71, V: 7}, api.Work{Line: 71, V: 7, J: 1}, api.Going, api.Access{Kind: api.ALoad, At: 3, Old: active(7)}},
		{"ask the second", at(t, 7, 0, inactive(3)), 1, api.Work{Line: 71, V: 7, J: 1}, api.Work{Line: 71, V: 7, J: 2}, api.Going, api.Access{Kind: api.ALoad, At: 4, Old: inactive(3)}},
		{"ask the last", at(t, 7, 0, 0, active(7)), 1, api.Work{Line: 71, V: 7, J: 2}, api.Work{Line: 72, V: 7, J: 3}, api.Going, api.Access{Kind: api.ALoad, At: last, Old: active(7)}},
		{"older epoch", at(t, 7, active(6)), 1, api.Work{Line: 71, V: 7}, api.Work{V: 7}, api.None, api.Access{Kind: api.ALoad, At: 3, Old: active(6)}},
		{"later epoch", at(t, 9, 0, active(8)), 1, api.Work{Line: 71, V: 7, J: 1}, api.Work{V: 7, J: 1}, api.None, api.Access{Kind: api.ALoad, At: 4, Old: active(8)}},
		{"older epoch of the last", at(t, 7, 0, 0, active(6)), 1, api.Work{Line: 71, V: 7, J: 2}, api.Work{V: 7, J: 2}, api.None, api.Access{Kind: api.ALoad, At: last, Old: active(6)}},
		{"advance", at(t, 7), 1, api.Work{Line: 72, V: 7, J: 3}, api.Work{V: 7, J: 3}, api.Got, api.Access{Kind: api.ACas, At: 0, X: 7, Y: 8, Old: 7}},
		{"advance fails", at(t, 8), 1, api.Work{Line: 72, V: 7, J: 3}, api.Work{V: 7, J: 3}, api.None, api.Access{Kind: api.ACas, At: 0, X: 7, Y: 8, Old: 8}},
		{"advance around", at(t, math.MaxUint64), 1, api.Work{Line: 72, V: math.MaxUint64}, api.Work{V: math.MaxUint64}, api.Got, api.Access{Kind: api.ACas, At: 0, X: math.MaxUint64, Old: math.MaxUint64}},
	} {
		words := c.m.All()
		got, outcome, ok := Step(c.m, c.w, c.x)
		if !ok || outcome != c.outcome || !rack.Same(got, c.want) || c.m.Seen != c.seen {
			t.Errorf("%s: %+v, %d, %v, seen %+v, want %+v, %d, %+v", c.name, got, outcome, ok, c.m.Seen, c.want, c.outcome, c.seen)
		}
		if c.seen.Kind == api.AStore {
			words[c.seen.At] = c.seen.X
		} else if c.seen.Kind == api.ACas && c.seen.X == c.seen.Old {
			words[c.seen.At] = c.seen.Y
		}
		if !slices.Equal(words, c.m.All()) {
			t.Errorf("%s: the words are %v, want %v", c.name, c.m.All(), words)
		}
	}
}

// P7.1: of a worker that does not exist nothing is stored, and the announcement is 0.
func TestWorkersThatDoNotExist(t *testing.T) {
	for _, w := range []int{math.MinInt, -1, 3, math.MaxInt} {
		for line, c := range map[int]struct{ next, outcome int }{2: {3, api.Going}, 90: {0, api.Got}} {
			m := at(t, 7, active(7), active(7), active(7))
			m.Load(0)
			words := m.All()
			got, outcome, ok := Step(m, w, api.Work{Line: line, E: 7})
			if !ok || outcome != c.outcome || !rack.Same(got, api.Work{Line: c.next, E: 7}) || m.Seen != (api.Access{}) || !slices.Equal(words, m.All()) {
				t.Errorf("worker %d, line %d: %+v, %d, seen %+v", w, line, got, outcome, m.Seen)
			}
		}
		m := at(t, 7, active(6), active(6), active(6))
		next := 71
		if w >= 2 {
			next = 72
		}
		got, outcome, ok := Step(m, 0, api.Work{Line: 71, V: 7, J: w})
		if want := (api.Work{Line: next, V: 7, J: w + 1}); !ok || outcome != api.Going || !rack.Same(got, want) || m.Seen != (api.Access{}) {
			t.Errorf("J %d: %+v, %d, seen %+v", w, got, outcome, m.Seen)
		}
	}
}

// P7.1: the example, and a whole round to the next epoch and out again.
func TestEnterAdvanceLeave(t *testing.T) {
	m, _ := memory.New(config)
	x := api.Work{Line: 1}
	for i, want := range []int{api.Going, api.Going, api.Got} {
		var outcome int
		if x, outcome, _ = Step(m, 1, x); outcome != want {
			t.Fatalf("step %d: %d", i, outcome)
		}
	}
	if e, ok := Inside(config, m.All(), 1); e != 2 || !ok || x.E != 2 || x.Line != 0 {
		t.Errorf("inside: %d, %v", e, ok)
	}
	for _, want := range []struct {
		outcome int
		epoch   api.Word
	}{{api.Got, 3}, {api.None, 3}} {
		if outcome := collect(t, m); outcome != want.outcome || m.Peek(plan.AtEpoch) != want.epoch {
			t.Errorf("%d, epoch %d", outcome, m.Peek(plan.AtEpoch))
		}
	}
	x.Line = 90
	Step(m, 1, x)
	if collect(t, m) != api.Got || m.Peek(plan.AtEpoch) != 4 {
		t.Errorf("epoch %d after the leaving", m.Peek(plan.AtEpoch))
	}
}

// collect runs lines 70 to 72 of worker 0.
func collect(t *testing.T, m *memory.Memory) int {
	t.Helper()
	x, outcome := api.Work{Line: 70}, api.Going
	for range 10 {
		if x, outcome, _ = Step(m, 0, x); outcome != api.Going {
			return outcome
		}
	}
	t.Fatal("it does not end")
	return 0
}

// P7.3: under random interleavings of workers that enter, leave and advance, a worker inside keeps the epoch at its own or one greater.
func TestEpochStaysNear(t *testing.T) {
	r := rand.New(rand.NewSource(7))
	m, _ := memory.New(config)
	states := make([]api.Work, 3)
	inside := make([]bool, 3)
	advances := 0
	for range 200000 {
		w := r.Intn(3)
		if states[w].Line == 0 {
			states[w].Line = choose(r, inside[w])
		}
		line := states[w].Line
		var outcome int
		if line == 90 {
			inside[w] = false
		}
		states[w], outcome, _ = Step(m, w, states[w])
		if line == 3 && outcome == api.Got {
			inside[w] = true
		}
		if line == 72 && outcome == api.Got {
			advances++
		}
		epoch := m.Peek(plan.AtEpoch)
		for i := range inside {
			if inside[i] && epoch != states[i].E && epoch != states[i].E+1 {
				t.Fatalf("epoch %d, worker %d announced %d", epoch, i, states[i].E)
			}
		}
	}
	if advances < 100 {
		t.Errorf("only %d advances", advances)
	}
}

// choose returns the first line of what a worker does next.
func choose(r *rand.Rand, inside bool) int {
	switch {
	case r.Intn(2) == 0:
		return 70
	case inside:
		return 90
	}
	return 1
}

// P7.2: Inside and Least of announcements.
func TestInsideAndLeast(t *testing.T) {
	for _, c := range []struct {
		announced []api.Word
		least     api.Word
		any       bool
	}{
		{[]api.Word{0, 0, 0}, 0, false},
		{[]api.Word{inactive(3), inactive(1), 0}, 0, false},
		{[]api.Word{active(9), 0, 0}, 9, true},
		{[]api.Word{active(9), inactive(2), active(8)}, 8, true},
		{[]api.Word{active(9), active(9), active(10)}, 9, true},
		{[]api.Word{active(0), active(4), 0}, 0, true},
		{[]api.Word{0, 0, math.MaxUint64}, 1<<63 - 1, true},
	} {
		words := at(t, 2, c.announced...).All()
		if e, ok := Least(config, words); e != c.least || ok != c.any {
			t.Errorf("%v: Least %d, %v", c.announced, e, ok)
		}
		for w, a := range c.announced {
			epoch, on := pack.Unannounce(a)
			if !on {
				epoch = 0
			}
			if e, ok := Inside(config, words, w); e != epoch || ok != on {
				t.Errorf("%v: Inside(%d) = %d, %v", c.announced, w, e, ok)
			}
		}
	}
}

// P7.2: workers, configurations and words that are not valid.
func TestInsideAndLeastOfInvalidArguments(t *testing.T) {
	words := at(t, 2, active(5), active(5), active(5)).All()
	for _, w := range []int{math.MinInt, -1, 3, 8, math.MaxInt} {
		if e, ok := Inside(config, words, w); e != 0 || ok {
			t.Errorf("worker %d: %d, %v", w, e, ok)
		}
	}
	bad, great := config, config
	bad.Bag = 0
	great.Words = 5
	for name, c := range map[string]struct {
		c     api.Config
		words []api.Word
	}{
		"too small": {bad, words}, "too great": {great, words}, "zero": {api.Config{}, words}, "zero without words": {api.Config{}, nil},
		"no words": {config, nil}, "a word less": {config, words[1:]}, "a word more": {config, append(slices.Clone(words), 1)},
	} {
		if e, ok := Inside(c.c, c.words, 0); e != 0 || ok {
			t.Errorf("%s: Inside %d, %v", name, e, ok)
		}
		if e, ok := Least(c.c, c.words); e != 0 || ok {
			t.Errorf("%s: Least %d, %v", name, e, ok)
		}
	}
}
