package slab

import (
	"math"
	"math/rand"
	"slices"
	"testing"

	"coatcheck/api"
	"coatcheck/memory"
	"coatcheck/pack"
	"coatcheck/plan"
	"coatcheck/rack"
)

var config = api.Config{Workers: 3, Slabs: 3, Blocks: 2, Words: 1, Entries: 1, Rack: 0, Bag: 1, Last: 9}

var layout = plan.Plan{Config: config}

// at returns a memory of a configuration with a global epoch and slab words.
func at(t *testing.T, c api.Config, epoch api.Word, slabs ...api.Word) *memory.Memory {
	t.Helper()
	m, e := memory.New(c)
	if e != api.OK {
		t.Fatal(e)
	}
	m.Store(plan.AtEpoch, epoch)
	for s, w := range slabs {
		m.Store(m.Slab(s), w)
	}
	m.Clear()
	return m
}

var (
	raw      = pack.Slab(api.Raw, 0, 0)
	active   = pack.Slab(api.Active, 0, 0)
	draining = pack.Slab(api.Draining, 0, 0)
)

func parked(n int) api.Word { return pack.Slab(api.Draining, n, 0) }

func empty(tag api.Word) api.Word { return pack.Slab(api.Empty, 0, tag) }

// P8.1: each row of the table, with its access, its next line and its outcome. Slab 1 has blocks 2 and 3.
func TestLines(t *testing.T) {
	at1 := layout.Slab(1)
	for _, c := range []struct {
		name    string
		word    api.Word // of slab 1
		x, want api.Work
		outcome int
		seen    api.Access
		after   api.Word // the word of slab 1
	}{
		{"park", draining, api.Work{Line: 30, K: 4}, api.Work{}, api.Got, api.Access{Kind: api.AAdd, At: at1, X: 16, Old: draining}, parked(1)},
		{"park the last", parked(1), api.Work{Line: 30, K: 3}, api.Work{Line: 31, K: 3}, api.Going, api.Access{Kind: api.AAdd, At: at1, X: 16, Old: parked(1)}, parked(2)},
		{"park beyond the last", parked(2), api.Work{Line: 30, K: 3}, api.Work{}, api.Got, api.Access{Kind: api.AAdd, At: at1, X: 16, Old: parked(2)}, parked(3)},
		{"park around", parked(4095), api.Work{Line: 30, K: 3}, api.Work{}, api.Got, api.Access{Kind: api.AAdd, At: at1, X: 16, Old: parked(4095)}, pack.Slab(api.Draining, 0, 1)},
		{"load the epoch", parked(2), api.Work{Line: 31, K: 3}, api.Work{Line: 32, K: 3, V: 9}, api.Going, api.Access{Kind: api.ALoad, Old: 9}, parked(2)},
		{"empty", parked(2), api.Work{Line: 32, K: 3, V: 8}, api.Work{V: 8}, api.Got, api.Access{Kind: api.AStore, At: at1, X: empty(8), Old: parked(2)}, empty(8)},
		{"look at a raw one", raw, api.Work{Line: 33, J: 1, V: 5}, api.Work{Line: 34, J: 1}, api.Going, api.Access{Kind: api.ALoad, At: at1}, raw},
		{"look at one that is out", empty(7), api.Work{Line: 33, J: 1, E: 9}, api.Work{Line: 34, J: 1, E: 9, V: empty(7)}, api.Going, api.Access{Kind: api.ALoad, At: at1, Old: empty(7)}, empty(7)},
		{"look at an empty one", empty(8), api.Work{Line: 33, J: 1, E: 9}, api.Work{Line: 33, J: 2, E: 9, V: empty(8)}, api.Going, api.Access{Kind: api.ALoad, At: at1, Old: empty(8)}, empty(8)},
		{"look at an active one", active, api.Work{Line: 33, J: 1, E: 9}, api.Work{Line: 33, J: 2, E: 9, V: active}, api.Going, api.Access{Kind: api.ALoad, At: at1, Old: active}, active},
		{"look at a draining one", draining, api.Work{Line: 33, J: 1, E: 9}, api.Work{Line: 33, J: 2, E: 9, V: draining}, api.Going, api.Access{Kind: api.ALoad, At: at1, Old: draining}, draining},
		{"look at the last one", active, api.Work{Line: 33, J: 2, E: 9}, api.Work{J: 3, E: 9, V: active}, api.None, api.Access{Kind: api.ALoad, At: layout.Slab(2), Old: active}, active},
		{"claim", empty(7), api.Work{Line: 34, J: 1, V: empty(7)}, api.Work{J: 1, V: empty(7)}, api.Got, api.Access{Kind: api.ACas, At: at1, X: empty(7), Y: active, Old: empty(7)}, active},
		{"claim fails", active, api.Work{Line: 34, J: 1, V: raw}, api.Work{Line: 33, J: 1, V: raw}, api.Going, api.Access{Kind: api.ACas, At: at1, X: raw, Y: active, Old: active}, active},
		{"block in hand", active, api.Work{Line: 35, B: 4}, api.Work{B: 4}, api.Got, api.Access{Kind: api.ALoad, At: at1, Old: active}, active},
		{"block in hand of a draining one", parked(1), api.Work{Line: 35, B: 4}, api.Work{B: 4}, api.None, api.Access{Kind: api.ALoad, At: at1, Old: parked(1)}, parked(1)},
		{"drain", active, api.Work{Line: 36, Op: api.Op{Slab: 1}}, api.Work{Line: 37, Op: api.Op{Slab: 1}, V: active}, api.Going, api.Access{Kind: api.ALoad, At: at1, Old: active}, active},
		{"drain a raw one", raw, api.Work{Line: 36, Op: api.Op{Slab: 1}}, api.Work{Op: api.Op{Slab: 1}}, api.None, api.Access{Kind: api.ALoad, At: at1}, raw},
		{"drain a draining one", draining, api.Work{Line: 36, Op: api.Op{Slab: 1}}, api.Work{Op: api.Op{Slab: 1}, V: draining}, api.None, api.Access{Kind: api.ALoad, At: at1, Old: draining}, draining},
		{"drain an empty one", empty(3), api.Work{Line: 36, Op: api.Op{Slab: 1}}, api.Work{Op: api.Op{Slab: 1}, V: empty(3)}, api.None, api.Access{Kind: api.ALoad, At: at1, Old: empty(3)}, empty(3)},
		{"make draining", active, api.Work{Line: 37, Op: api.Op{Slab: 1}, V: active}, api.Work{Op: api.Op{Slab: 1}, V: active}, api.Got, api.Access{Kind: api.ACas, At: at1, X: active, Y: draining, Old: active}, draining},
		{"make draining fails", parked(1), api.Work{Line: 37, Op: api.Op{Slab: 1}, V: active}, api.Work{Line: 36, Op: api.Op{Slab: 1}, V: active}, api.Going, api.Access{Kind: api.ACas, At: at1, X: active, Y: draining, Old: parked(1)}, parked(1)},
		{"block to release", active, api.Work{Line: 39, K: 3, B: 1}, api.Work{K: 3, B: 1}, api.Got, api.Access{Kind: api.ALoad, At: at1, Old: active}, active},
		{"block to release of a draining one", draining, api.Work{Line: 39, K: 3, B: 1}, api.Work{K: 3, B: 1}, api.None, api.Access{Kind: api.ALoad, At: at1, Old: draining}, draining},
	} {
		m := at(t, config, 9, active, c.word, active)
		words := m.All()
		got, outcome, ok := Step(m, c.x)
		if !ok || outcome != c.outcome || !rack.Same(got, c.want) || m.Seen != c.seen {
			t.Errorf("%s: %+v, %d, %v, seen %+v, want %+v, %d, %+v", c.name, got, outcome, ok, m.Seen, c.want, c.outcome, c.seen)
		}
		words[at1] = c.after
		if !slices.Equal(words, m.All()) {
			t.Errorf("%s: the words are %v, want %v", c.name, m.All(), words)
		}
	}
}

// P8.1: of a slab that does not exist 0 is loaded and nothing is stored.
func TestSlabsThatDoNotExist(t *testing.T) {
	for _, i := range []int{math.MinInt, -2, -1, 6, math.MaxInt - 1} {
		for _, c := range []struct {
			name    string
			x, want api.Work
			outcome int
		}{
			{"park", api.Work{Line: 30, K: i + 1}, api.Work{}, api.Got},
			{"empty", api.Work{Line: 32, K: i + 1}, api.Work{}, api.Got},
			{"look", api.Work{Line: 33, J: i, V: 7}, api.Work{Line: 34, J: i}, api.Going},
			{"claim", api.Work{Line: 34, J: i}, api.Work{Line: 33, J: i}, api.Going},
			{"block in hand", api.Work{Line: 35, B: i + 1}, api.Work{B: i + 1}, api.Got},
			{"drain", api.Work{Line: 36, Op: api.Op{Slab: i}, V: 7}, api.Work{Op: api.Op{Slab: i}}, api.None},
			{"make draining", api.Work{Line: 37, Op: api.Op{Slab: i}}, api.Work{Line: 36, Op: api.Op{Slab: i}}, api.Going},
			{"block to release", api.Work{Line: 39, K: i + 1}, api.Work{K: i + 1}, api.Got},
		} {
			m := at(t, config, 9, draining, draining, draining)
			m.Load(0)
			words := m.All()
			got, outcome, ok := Step(m, c.x)
			if !ok || outcome != c.outcome || !rack.Same(got, c.want) || m.Seen != (api.Access{}) || !slices.Equal(words, m.All()) {
				t.Errorf("%s of %d: %+v, %d, seen %+v", c.name, i, got, outcome, m.Seen)
			}
		}
	}
}

// P8.1: with one block a slab, a parked block of no slab counts as the last one, because the result is 16.
func TestParkOfNoSlabWithOneBlock(t *testing.T) {
	c := config
	c.Blocks = 1
	m := at(t, c, 9)
	got, outcome, ok := Step(m, api.Work{Line: 30})
	if !ok || outcome != api.Going || got.Line != 31 || m.Seen != (api.Access{}) {
		t.Errorf("%+v, %d", got, outcome)
	}
}

// P8.1: Ready by state, tag and epoch.
func TestReady(t *testing.T) {
	for _, c := range []struct {
		w, e api.Word
		want bool
	}{
		{raw, 0, true}, {raw, 1, true}, {raw, 9, true}, {pack.Slab(api.Raw, 3, 99), 0, true},
		{active, 9, false}, {draining, 9, false}, {parked(2), 9, false}, {pack.Slab(4, 0, 0), 9, false}, {math.MaxUint64, math.MaxUint64, false},
		{empty(0), 0, false}, {empty(0), 1, false}, {empty(0), 2, true}, {empty(1), 2, false},
		{empty(7), 8, false}, {empty(7), 9, true}, {empty(7), 10, true}, {empty(8), 9, false}, {empty(9), 9, false}, {empty(10), 9, false},
		{empty(1<<48 - 1), math.MaxUint64, true}, {empty(1<<48 - 1), 1<<48 + 1, true}, {empty(1<<48 - 1), 1 << 48, false},
	} {
		if got := Ready(c.w, c.e); got != c.want {
			t.Errorf("Ready(%#x, %d) = %v", c.w, c.e, got)
		}
	}
}

// P8.1: the example.
func TestClaimAtFirst(t *testing.T) {
	m := at(t, config, 2)
	x, outcome, _ := Step(m, api.Work{Line: 33, E: 2})
	if outcome != api.Going || x.Line != 34 {
		t.Fatalf("%+v, %d", x, outcome)
	}
	x, outcome, _ = Step(m, x)
	if outcome != api.Got || x.J != 0 || x.Line != 0 || State(config, m.All(), 0) != api.Active {
		t.Errorf("%+v, %d", x, outcome)
	}
}

// P8.2: Gone, Parked and State of each slab.
func TestGoneParkedState(t *testing.T) {
	for _, c := range []struct {
		w             api.Word
		gone          bool
		parked, state int
	}{
		{raw, false, 0, api.Raw}, {active, false, 0, api.Active}, {parked(1), false, 1, api.Draining},
		{empty(7), true, 0, api.Empty}, {empty(8), false, 0, api.Empty}, {empty(0), true, 0, api.Empty},
		{pack.Slab(15, 4095, 3), false, 4095, 15},
	} {
		for s := range 3 {
			m := at(t, config, 9)
			m.Store(layout.Slab(s), c.w)
			words := m.All()
			if Gone(config, words, s) != c.gone || Parked(config, words, s) != c.parked || State(config, words, s) != c.state {
				t.Errorf("slab %d, word %#x: %v, %d, %d", s, c.w, Gone(config, words, s), Parked(config, words, s), State(config, words, s))
			}
			other := (s + 1) % 3
			if Gone(config, words, other) || Parked(config, words, other) != 0 || State(config, words, other) != api.Raw {
				t.Errorf("slab %d is not raw", other)
			}
		}
	}
	for _, epoch := range []api.Word{0, 1} {
		if Gone(config, at(t, config, epoch, empty(0)).All(), 0) {
			t.Errorf("a slab is out at epoch %d", epoch)
		}
	}
}

// P8.2: slabs, configurations and words that are not valid.
func TestGoneParkedStateOfInvalidArguments(t *testing.T) {
	w := pack.Slab(api.Empty, 5, 2)
	words := at(t, config, 9, w, w, w).All()
	bad, great := config, config
	bad.Bag = 0
	great.Words = 5
	for _, c := range []struct {
		name  string
		c     api.Config
		words []api.Word
		slab  int
	}{
		{"slab -1", config, words, -1}, {"slab 3", config, words, 3}, {"least slab", config, words, math.MinInt}, {"greatest slab", config, words, math.MaxInt},
		{"too small", bad, words, 0}, {"too great", great, words, 0}, {"zero", api.Config{}, nil, 0},
		{"no words", config, nil, 0}, {"a word less", config, words[1:], 0}, {"a word more", config, append(slices.Clone(words), 0), 0},
	} {
		if Gone(c.c, c.words, c.slab) || Parked(c.c, c.words, c.slab) != 0 || State(c.c, c.words, c.slab) != 0 {
			t.Errorf("%s: %v, %d, %d", c.name, Gone(c.c, c.words, c.slab), Parked(c.c, c.words, c.slab), State(c.c, c.words, c.slab))
		}
	}
	if !Gone(config, words, 0) || Parked(config, words, 0) != 5 || State(config, words, 0) != api.Empty {
		t.Error("the valid call is not what it should be")
	}
}

// P8.3: three workers that claim under random interleavings get three different slabs, and a fourth claim gets none.
func TestConcurrentClaims(t *testing.T) {
	r := rand.New(rand.NewSource(3))
	for range 2000 {
		m := at(t, config, 9, raw, empty(5), empty(7))
		states := []api.Work{{Line: 33, E: 9}, {Line: 33, E: 9}, {Line: 33, E: 9}, {Line: 33, E: 9}}
		claimed := map[int]int{}
		none := 0
		for left := 4; left > 0; {
			w := r.Intn(4)
			if states[w].Line == 0 {
				continue
			}
			var outcome int
			states[w], outcome, _ = Step(m, states[w])
			switch outcome {
			case api.Got:
				claimed[states[w].J]++
				left--
			case api.None:
				none++
				left--
			}
		}
		if len(claimed) != 3 || claimed[0] != 1 || claimed[1] != 1 || claimed[2] != 1 || none != 1 {
			t.Fatalf("claimed %v, none %d", claimed, none)
		}
	}
}

// P8.3: of workers that park the blocks of a slab under random interleavings, exactly the last one empties it.
func TestConcurrentParks(t *testing.T) {
	r := rand.New(rand.NewSource(4))
	c := config
	c.Blocks = 3
	for range 1000 {
		m := at(t, c, 9, active, draining)
		states := []api.Work{{Line: 30, K: 4}, {Line: 30, K: 5}, {Line: 30, K: 6}}
		emptied, adds := 0, 0
		for left := 3; left > 0; {
			w := r.Intn(3)
			if states[w].Line == 0 {
				continue
			}
			line := states[w].Line
			var outcome int
			states[w], outcome, _ = Step(m, states[w])
			if outcome == api.Got {
				left--
			}
			if line == 30 {
				adds++
			}
			if line == 32 {
				emptied++
			}
			if line == 30 && (states[w].Line == 31) != (adds == 3) {
				t.Fatalf("park %d goes to line %d", adds, states[w].Line)
			}
		}
		if emptied != 1 || m.Peek(m.Slab(1)) != empty(9) || m.Peek(m.Slab(0)) != active {
			t.Fatalf("emptied %d times, words %v", emptied, m.All())
		}
	}
}
