package take

import (
	"math"
	"math/rand"
	"slices"
	"testing"

	"coatcheck/api"
	"coatcheck/memory"
	"coatcheck/pack"
	"coatcheck/plan"
	"coatcheck/rack"
	"coatcheck/slab"
)

var config = api.Config{Workers: 3, Slabs: 3, Blocks: 2, Words: 1, Entries: 1, Rack: 4, Bag: 1, Last: 9}

var layout = plan.Plan{Config: config}

var (
	raw      = pack.Slab(api.Raw, 0, 0)
	active   = pack.Slab(api.Active, 0, 0)
	draining = pack.Slab(api.Draining, 0, 0)
)

func empty(tag api.Word) api.Word { return pack.Slab(api.Empty, 0, tag) }

// at returns a memory at epoch 9 with slab words and a free list of these blocks, from top to bottom, at version 5.
func at(t *testing.T, slabs []api.Word, free ...int) *memory.Memory {
	t.Helper()
	m, e := memory.New(config)
	if e != api.OK {
		t.Fatal(e)
	}
	m.Store(plan.AtEpoch, 9)
	for s, w := range slabs {
		m.Store(m.Slab(s), w)
	}
	m.Store(plan.AtBlocks, pack.Head(-1, 5))
	for _, b := range slices.Backward(free) {
		top, _ := pack.Unhead(m.Peek(plan.AtBlocks))
		m.Store(m.BlockLink(b), api.Word(top+1))
		m.Store(plan.AtBlocks, pack.Head(b, 5))
	}
	m.Clear()
	return m
}

// P9.1: the start takes the last block of the rack, or goes to the free list.
func TestBegin(t *testing.T) {
	for _, c := range []struct{ x, want api.Work }{
		{api.Work{Line: 46, B: 7, K: 2}, api.Work{Line: 10, B: 7, K: 2}},
		{api.Work{Line: 46, Rack: []int{}}, api.Work{Line: 10}},
		{api.Work{Line: 46, Rack: []int{4, 2}, Hold: []int{1}}, api.Work{Line: 35, B: 3, Rack: []int{4}, Hold: []int{1}}},
		{api.Work{Rack: []int{0}}, api.Work{Line: 35, B: 1}},
		{api.Work{Rack: []int{5, -1}}, api.Work{Line: 35, B: 0, Rack: []int{5}}},
		{api.Work{Rack: []int{math.MaxInt}}, api.Work{Line: 35, B: math.MinInt}},
	} {
		keep := rack.Copy(c.x)
		if got := Begin(c.x); !rack.Same(got, c.want) || !rack.Same(c.x, keep) {
			t.Errorf("Begin(%+v) = %+v", c.x, got)
		}
	}
}

// P9.1: each row of the table. Slab 0 has blocks 0 and 1, slab 1 blocks 2 and 3, slab 2 blocks 4 and 5.
func TestLines(t *testing.T) {
	all := []api.Word{active, active, active}
	drains := []api.Word{draining, draining, draining}
	for _, c := range []struct {
		name    string
		m       *memory.Memory
		x, want api.Work
		outcome int
	}{
		{"load a head", at(t, all, 3), api.Work{Line: 10}, api.Work{Line: 11, H: 4, V: 5<<32 | 4}, api.Going},
		{"empty list", at(t, all), api.Work{Line: 10, J: 7, U: 9, H: 1}, api.Work{Line: 33, V: 5 << 32, U: 5}, api.Going},
		{"load a link", at(t, all, 3, 1), api.Work{Line: 11, H: 4}, api.Work{Line: 12, H: 4, N: 2}, api.Going},
		{"pop", at(t, all, 3, 1), api.Work{Line: 12, H: 4, N: 2, V: 5<<32 | 4}, api.Work{Line: 35, B: 4, H: 4, N: 2, V: 5<<32 | 4}, api.Going},
		{"pop fails", at(t, all, 3, 1), api.Work{Line: 12, H: 4, N: 2, V: 4<<32 | 4}, api.Work{Line: 10, H: 4, N: 2, V: 4<<32 | 4}, api.Going},
		{"keep the block", at(t, all), api.Work{Line: 35, B: 4}, api.Work{B: 4}, api.Got},
		{"park the block", at(t, drains), api.Work{Line: 35, B: 4, K: 9}, api.Work{Line: 30, K: 4}, api.Going},
		{"parked, rack empty", at(t, drains), api.Work{Line: 30, K: 4}, api.Work{Line: 10}, api.Going},
		{"parked, rack not empty", at(t, drains), api.Work{Line: 30, K: 4, Rack: []int{1, 5}}, api.Work{Line: 35, B: 6, Rack: []int{1}}, api.Going},
		{"parked the last", at(t, []api.Word{active, draining + 16}), api.Work{Line: 30, K: 4}, api.Work{Line: 31, K: 4}, api.Going},
		{"load the epoch", at(t, drains), api.Work{Line: 31, K: 4}, api.Work{Line: 32, K: 4, V: 9}, api.Going},
		{"emptied", at(t, drains), api.Work{Line: 32, K: 4, V: 9, Rack: []int{0}}, api.Work{Line: 35, B: 1, V: 9}, api.Going},
		{"look at the next slab", at(t, all), api.Work{Line: 33, J: 1, E: 9}, api.Work{Line: 33, J: 2, E: 9, V: active}, api.Going},
		{"look at the last slab", at(t, all), api.Work{Line: 33, J: 2, E: 9}, api.Work{Line: 38, J: 3, E: 9, V: active}, api.Going},
		{"a slab is ready", at(t, []api.Word{active, empty(7)}), api.Work{Line: 33, J: 1, E: 9}, api.Work{Line: 34, J: 1, E: 9, V: empty(7)}, api.Going},
		{"claim", at(t, []api.Word{active, empty(7)}), api.Work{Line: 34, J: 1, V: empty(7), Hold: []int{0}}, api.Work{J: 1, V: empty(7), B: 3, Hold: []int{0, 3}}, api.Got},
		{"claim fails", at(t, all), api.Work{Line: 34, J: 1, V: empty(7)}, api.Work{Line: 33, J: 1, V: empty(7)}, api.Going},
		{"nothing there", at(t, all), api.Work{Line: 38, U: 5, J: 3}, api.Work{U: 5, J: 3}, api.None},
		{"another version", at(t, all), api.Work{Line: 38, U: 4}, api.Work{Line: 10, U: 4}, api.Going},
		{"a block came", at(t, all, 3), api.Work{Line: 38, U: 5}, api.Work{Line: 10, U: 5}, api.Going},
		{"block 0 came", at(t, all, 0), api.Work{Line: 38, U: 5}, api.Work{Line: 10, U: 5}, api.Going},
		{"another version, rack not empty", at(t, all), api.Work{Line: 38, U: 4, Rack: []int{2}}, api.Work{Line: 35, B: 3, U: 4}, api.Going},
	} {
		got, outcome, ok := Step(c.m, c.x)
		if !ok || outcome != c.outcome || !rack.Same(got, c.want) {
			t.Errorf("%s: %+v, %d, %v, want %+v, %d", c.name, got, outcome, ok, c.want, c.outcome)
		}
	}
}

// P9.1: line 38 loads the head of the block free list.
func TestRecheckAccess(t *testing.T) {
	m := at(t, nil, 3)
	Step(m, api.Work{Line: 38})
	if want := (api.Access{Kind: api.ALoad, At: plan.AtBlocks, Old: 5<<32 | 4}); m.Seen != want {
		t.Errorf("seen %+v", m.Seen)
	}
}

// P9.1: the example, and a slab of one block of which nothing remains to hold.
func TestClaimAtFirst(t *testing.T) {
	for blocks, hold := range map[int][]int{1: nil, 2: {1}, 4: {1, 2, 3}} {
		c := config
		c.Slabs, c.Blocks = 1, blocks
		m, _ := memory.New(c)
		x, outcome, steps := run(t, m, Begin(api.Work{E: 2}))
		if outcome != api.Got || x.B != 1 || !slices.Equal(x.Hold, hold) || steps != 3 || slab.State(c, m.All(), 0) != api.Active {
			t.Errorf("%d blocks: %+v, %d after %d steps", blocks, x, outcome, steps)
		}
	}
}

// run executes steps until the operation is finished.
func run(t *testing.T, m *memory.Memory, x api.Work) (api.Work, int, int) {
	t.Helper()
	for n := 1; n < 1000; n++ {
		y, outcome, ok := Step(m, x)
		if !ok {
			t.Fatalf("line %d is unknown", x.Line)
		}
		if outcome != api.Going {
			return y, outcome, n
		}
		x = y
	}
	t.Fatal("the operation does not finish")
	return x, 0, 0
}

// P9.2: Spare by the free list and by slabs.
func TestSpare(t *testing.T) {
	all := []api.Word{active, active, draining}
	for _, c := range []struct {
		name string
		m    *memory.Memory
		e    api.Word
		want bool
	}{
		{"nothing", at(t, all), 9, false},
		{"a block", at(t, all, 4), 9, true},
		{"a block at epoch 0", at(t, all, 0), 0, true},
		{"a raw slab", at(t, []api.Word{active, active, raw}), 0, true},
		{"a slab that is out", at(t, []api.Word{active, active, empty(7)}), 9, true},
		{"a slab that is not yet out", at(t, []api.Word{active, active, empty(8)}), 9, false},
		{"epoch 1", at(t, []api.Word{active, active, empty(0)}), 1, false},
	} {
		if got := Spare(config, c.m.All(), c.e); got != c.want {
			t.Errorf("%s: %v", c.name, got)
		}
	}
	words := at(t, nil, 4).All()
	bad, great := config, config
	bad.Bag = 0
	great.Words = 5
	if Spare(bad, words, 9) || Spare(great, words, 9) || Spare(api.Config{}, nil, 9) || Spare(config, nil, 9) || Spare(config, words[1:], 9) || Spare(config, append(slices.Clone(words), 0), 9) {
		t.Error("an invalid argument is spare")
	}
}

// shuffled returns a memory and a state in which blocks lie on the free list and in the rack, and slabs are in any state.
func shuffled(t *testing.T, r *rand.Rand) (*memory.Memory, api.Work) {
	t.Helper()
	var slabs []api.Word
	var blocks []int
	for s := range 3 {
		kind := r.Intn(5)
		slabs = append(slabs, []api.Word{raw, active, draining, empty(api.Word(r.Intn(10))), draining}[kind])
		if kind == 1 || kind == 2 || kind == 4 {
			blocks = append(blocks, 2*s, 2*s+1)
		}
	}
	r.Shuffle(len(blocks), func(i, j int) { blocks[i], blocks[j] = blocks[j], blocks[i] })
	mine := r.Intn(min(len(blocks), 4) + 1)
	free := blocks[mine:][:r.Intn(len(blocks)-mine+1)]
	return at(t, slabs, free...), api.Work{E: 9, Rack: blocks[:mine]}
}

// P9.3: alone, the operation finishes within its bound; it gets a block that is not of a draining slab, or nothing was spare.
func TestTakeAlone(t *testing.T) {
	r := rand.New(rand.NewSource(5))
	got, none := 0, 0
	for range 5000 {
		m, x := shuffled(t, r)
		x = Begin(x)
		quiet := false
		for n := 1; ; n++ {
			quiet = quiet || len(x.Rack) == 0 && !Spare(config, m.All(), x.E)
			y, outcome, ok := Step(m, x)
			if !ok || n > 30+5*layout.Total()+2*config.Slabs {
				t.Fatalf("step %d at line %d", n, x.Line)
			}
			x = y
			if outcome == api.Got {
				got++
				if s := slab.State(config, m.All(), layout.Home(x.B-1)); s != api.Active || x.K != 0 {
					t.Fatalf("block %d of a slab in state %d", x.B-1, s)
				}
			}
			if outcome == api.None {
				none++
				if !quiet || x.B != 0 || x.K != 0 {
					t.Fatalf("nothing taken: spare %v, %+v", !quiet, x)
				}
			}
			if outcome != api.Going {
				break
			}
		}
	}
	if got < 500 || none < 500 {
		t.Errorf("%d times a block, %d times none", got, none)
	}
}

// P9.3: workers that take at the same time get different blocks, and one gets none only if at one of its steps nothing was spare.
func TestConcurrentTakes(t *testing.T) {
	r := rand.New(rand.NewSource(6))
	for range 3000 {
		m, first := shuffled(t, r)
		states := []api.Work{Begin(first), Begin(api.Work{E: 9}), Begin(api.Work{E: 9})}
		quiet := make([]bool, 3)
		taken := map[int]bool{}
		for left := 3; left > 0; {
			w := r.Intn(3)
			if states[w].Line == 0 {
				continue
			}
			for i, x := range states {
				quiet[i] = quiet[i] || x.Line != 0 && len(x.Rack) == 0 && !Spare(config, m.All(), x.E)
			}
			var outcome int
			states[w], outcome, _ = Step(m, states[w])
			if outcome == api.None && !quiet[w] {
				t.Fatalf("worker %d got none, but something was spare at each step", w)
			}
			if outcome == api.Got {
				if taken[states[w].B] {
					t.Fatalf("block %d was taken twice", states[w].B-1)
				}
				taken[states[w].B] = true
			}
			if outcome != api.Going {
				left--
			}
		}
	}
}
