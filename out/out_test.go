package out

import (
	"math"
	"math/rand"
	"slices"
	"testing"

	"coatcheck/api"
	"coatcheck/pack"
	"coatcheck/plan"
)

var configs = []api.Config{
	{Workers: 1, Slabs: 1, Blocks: 1, Words: 1, Entries: 1, Bag: 1, Last: 1},
	{Workers: 1, Slabs: 1, Blocks: 2, Words: 1, Entries: 1, Bag: 1, Last: 9},
	{Workers: 3, Slabs: 4, Blocks: 5, Words: 2, Entries: 7, Rack: 1, Bag: 1, Last: 9},
	{Workers: 8, Slabs: 8, Blocks: 16, Words: 4, Entries: 32, Rack: 4, Bag: 8, Last: 1 << 20},
}

// accesses are all kinds of accesses.
var accesses = []int{api.ALoad, api.AStore, api.ACas, api.AAdd}

func step(kind, at int) api.Event {
	return api.Event{Tick: 3, Worker: 1, Kind: api.EStep, Line: 11, Access: api.Access{Kind: kind, At: at, X: 5, Y: 6, Old: 5}}
}

// owners returns the block that each address belongs to, or -1, by the layout of the chapter of plan: the blocks are at the end, each its link and its payload.
func owners(c api.Config) []int {
	l := slices.Repeat([]int{-1}, 3+c.Workers+c.Slabs+2*c.Entries)
	for b := range c.Slabs * c.Blocks {
		l = append(l, slices.Repeat([]int{b}, 1+c.Words)...)
	}
	return l
}

// P19.1: an access of any kind to each address, and to addresses that do not exist.
func TestTouched(t *testing.T) {
	for _, c := range configs {
		l := owners(c)
		for _, kind := range accesses {
			for at, want := range l {
				if b, ok := Touched(c, step(kind, at)); b != want || ok != (want >= 0) {
					t.Errorf("%+v, kind %d, address %d: block %d, %v, not %d", c, kind, at, b, ok, want)
				}
			}
			for _, at := range []int{-1, -2, len(l), len(l) + 1, math.MinInt, math.MaxInt} {
				if b, ok := Touched(c, step(kind, at)); b != -1 || ok {
					t.Errorf("%+v, kind %d, address %d of %d: block %d, %v", c, kind, at, len(l), b, ok)
				}
			}
		}
	}
}

// P19.1: only a step touches, only by an access that there is, and at whatever line it does.
func TestTouchedByStepsOnly(t *testing.T) {
	c := configs[1]
	words := withSlabs(c, 9, pack.Slab(api.Empty, 0, 2))
	for _, kind := range []int{math.MinInt, -1, 0, api.ECall, api.EStep, api.EPoint, api.EReturn, 5, math.MaxInt} {
		for _, access := range []int{math.MinInt, -1, 0, api.ALoad, api.AStore, api.ACas, api.AAdd, 5, math.MaxInt} {
			for _, line := range []int{0, 61, 77} {
				e := step(access, 10)
				e.Kind, e.Line = kind, line
				want := kind == api.EStep && slices.Contains(accesses, access)
				if b, ok := Touched(c, e); ok != want || want && b != 1 || !want && b != -1 {
					t.Errorf("event %d, access %d, line %d: block %d, %v", kind, access, line, b, ok)
				}
				if Clean(c, words, e) == want {
					t.Errorf("event %d, access %d, line %d: clean %v", kind, access, line, !want)
				}
			}
		}
	}
}

// invalid returns configurations that are not valid.
func invalid() []api.Config {
	var l []api.Config
	for _, change := range []func(c *api.Config){
		func(c *api.Config) { *c = api.Config{} },
		func(c *api.Config) { c.Workers = 0 },
		func(c *api.Config) { c.Workers = api.MaxWorkers + 1 },
		func(c *api.Config) { c.Slabs = math.MaxInt },
		func(c *api.Config) { c.Slabs = -1 },
		func(c *api.Config) { c.Blocks = math.MaxInt },
		func(c *api.Config) { c.Words = math.MinInt },
		func(c *api.Config) { c.Words = math.MaxInt },
		func(c *api.Config) { c.Entries = -1 },
		func(c *api.Config) { c.Rack = -1 },
		func(c *api.Config) { c.Bag = 0 },
		func(c *api.Config) { c.Last = 0 },
		func(c *api.Config) { c.Last = math.MaxUint64 },
	} {
		c := configs[1]
		change(&c)
		l = append(l, c)
	}
	return l
}

// withSlabs returns the initial words with this global epoch and these slab words.
func withSlabs(c api.Config, epoch api.Word, slabs ...api.Word) []api.Word {
	words := plan.First(c)
	words[plan.AtEpoch] = epoch
	for s, w := range slabs {
		words[plan.Plan{Config: c}.Slab(s)] = w
	}
	return words
}

// P19.1: nothing is touched, out or draining if the configuration or the number of words is not valid.
func TestInvalid(t *testing.T) {
	c := configs[1]
	gone, draining := withSlabs(c, 9, pack.Slab(api.Empty, 0, 2)), withSlabs(c, 9, pack.Slab(api.Draining, 1, 0))
	e := step(api.ALoad, 10)
	if len(Outs(c, gone)) != 1 || len(Draining(c, draining)) != 1 || Clean(c, gone, e) {
		t.Fatal("the words of this test are not what it needs")
	}
	for i, bad := range invalid() {
		for at := -1; at < 20; at++ {
			if b, ok := Touched(bad, step(api.ALoad, at)); b != -1 || ok {
				t.Errorf("configuration %d, address %d: block %d, %v", i, at, b, ok)
			}
			if !Clean(bad, gone, step(api.ALoad, at)) || !Clean(bad, nil, step(api.ALoad, at)) {
				t.Errorf("configuration %d, address %d: not clean", i, at)
			}
		}
		for _, words := range [][]api.Word{gone, draining, nil, {}} {
			if len(Outs(bad, words)) != 0 || len(Draining(bad, words)) != 0 {
				t.Errorf("configuration %d, %d words: %v, %v", i, len(words), Outs(bad, words), Draining(bad, words))
			}
		}
	}
	longer := func(l []api.Word) []api.Word { return append(slices.Clone(l), 0) }
	for _, words := range [][]api.Word{nil, {}, gone[:5], gone[:len(gone)-1], longer(gone), draining[:len(draining)-1], longer(draining)} {
		if len(Outs(c, words)) != 0 || len(Draining(c, words)) != 0 || !Clean(c, words, e) {
			t.Errorf("%d words: %v, %v, clean %v", len(words), Outs(c, words), Draining(c, words), Clean(c, words, e))
		}
	}
}

// P19.1: the slabs that are out and those in state Draining, in order; each state, and tags around the epoch.
func TestOutsAndDraining(t *testing.T) {
	c := configs[2] // 4 slabs
	empty := func(tag api.Word) api.Word { return pack.Slab(api.Empty, 0, tag) }
	active, draining := pack.Slab(api.Active, 0, 0), pack.Slab(api.Draining, 0, 0)
	for _, x := range []struct {
		name            string
		epoch           api.Word
		slabs           []api.Word
		outs, drainings []int
	}{
		{"at first", 2, nil, nil, nil},
		{"raw slabs are ready, but not out", 9, []api.Word{0, 0, 0, 0}, nil, nil},
		{"one of each state", 9, []api.Word{0, active, draining, empty(7)}, []int{3}, []int{2}},
		{"in order", 9, []api.Word{empty(7), draining, empty(0), draining}, []int{0, 2}, []int{1, 3}},
		{"all out", 9, []api.Word{empty(1), empty(2), empty(3), empty(4)}, []int{0, 1, 2, 3}, nil},
		{"all draining", 9, []api.Word{draining, draining, draining, draining}, nil, []int{0, 1, 2, 3}},
		{"two epochs later", 9, []api.Word{empty(6), empty(7), empty(8), empty(9)}, []int{0, 1}, nil},
		{"a tag beyond the epoch", 9, []api.Word{empty(10), empty(11), empty(1<<48 - 1), empty(7)}, []int{3}, nil},
		{"epoch 0", 0, []api.Word{empty(0), empty(1), empty(1<<48 - 2), empty(1<<48 - 1)}, nil, nil},
		{"epoch 1", 1, []api.Word{empty(0), empty(1), empty(1<<48 - 2), empty(1<<48 - 1)}, nil, nil},
		{"epoch 2", 2, []api.Word{empty(0), empty(1), empty(2), empty(0)}, []int{0, 3}, nil},
		{"the last epoch", math.MaxUint64, []api.Word{empty(0), empty(1<<48 - 1), active, draining}, []int{0, 1}, []int{3}},
		{"parked blocks of a draining slab", 9, []api.Word{pack.Slab(api.Draining, 4, 3), active, active, pack.Slab(api.Draining, 5, 0)}, nil, []int{0, 3}},
		{"states that there are not", 9, []api.Word{4, 5, 14, 15}, nil, nil},
	} {
		words := withSlabs(c, x.epoch, x.slabs...)
		keep := slices.Clone(words)
		if got := Outs(c, words); !slices.Equal(got, x.outs) {
			t.Errorf("%s: out %v, not %v", x.name, got, x.outs)
		}
		if got := Draining(c, words); !slices.Equal(got, x.drainings) {
			t.Errorf("%s: draining %v, not %v", x.name, got, x.drainings)
		}
		if !slices.Equal(words, keep) {
			t.Errorf("%s: the words were changed", x.name)
		}
	}
}

// P19.1: the greatest pool, in which each slab may be the only one that is out or draining.
func TestEachSlab(t *testing.T) {
	c := configs[3]
	for s := range c.Slabs {
		slabs := slices.Repeat([]api.Word{pack.Slab(api.Active, 0, 0)}, c.Slabs)
		slabs[s] = pack.Slab(api.Empty, 0, 3)
		if got := Outs(c, withSlabs(c, 5, slabs...)); !slices.Equal(got, []int{s}) {
			t.Errorf("out %v, not %d", got, s)
		}
		slabs[s] = pack.Slab(api.Draining, 0, 0)
		if got := Draining(c, withSlabs(c, 5, slabs...)); !slices.Equal(got, []int{s}) {
			t.Errorf("draining %v, not %d", got, s)
		}
	}
}

// P19.1: an access to each address is clean unless its block is of a slab that is out.
func TestClean(t *testing.T) {
	c := configs[2]
	r := rand.New(rand.NewSource(1))
	for range 200 {
		var slabs []api.Word
		gone := make([]bool, c.Slabs)
		for s := range c.Slabs {
			state, tag := r.Intn(5), api.Word(4+r.Intn(5))
			gone[s] = state == api.Empty && tag <= 5
			slabs = append(slabs, pack.Slab(state, 0, tag))
		}
		words := withSlabs(c, 7, slabs...)
		for at, b := range owners(c) {
			want := b < 0 || !gone[b/c.Blocks]
			if got := Clean(c, words, step(accesses[r.Intn(4)], at)); got != want {
				t.Fatalf("address %d of block %d, out %v: clean %v", at, b, gone, got)
			}
		}
		for _, at := range []int{-1, len(words), math.MaxInt, math.MinInt} {
			if !Clean(c, words, step(api.AStore, at)) {
				t.Fatalf("address %d is not clean", at)
			}
		}
	}
}

// Rules: a result shares nothing with a later one.
func TestNothingIsShared(t *testing.T) {
	c := configs[2]
	words := withSlabs(c, 9, pack.Slab(api.Empty, 0, 1), pack.Slab(api.Draining, 0, 0))
	Outs(c, words)[0], Draining(c, words)[0] = 99, 99
	if !slices.Equal(Outs(c, words), []int{0}) || !slices.Equal(Draining(c, words), []int{1}) {
		t.Errorf("%v, %v", Outs(c, words), Draining(c, words))
	}
}
