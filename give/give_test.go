package give

import (
	"math/rand"
	"slices"
	"testing"

	"coatcheck/api"
	"coatcheck/memory"
	"coatcheck/pack"
	"coatcheck/plan"
	"coatcheck/rack"
	"coatcheck/slab"
	"coatcheck/stack"
)

var config = api.Config{Workers: 2, Slabs: 3, Blocks: 2, Words: 1, Entries: 1, Rack: 1, Bag: 1, Last: 9}

var (
	active   = pack.Slab(api.Active, 0, 0)
	draining = pack.Slab(api.Draining, 0, 0)
)

// at returns a memory at epoch 9 with an empty free list at version 5 and these slab words.
func at(t *testing.T, c api.Config, slabs ...api.Word) *memory.Memory {
	t.Helper()
	m, e := memory.New(c)
	if e != api.OK {
		t.Fatal(e)
	}
	m.Store(plan.AtEpoch, 9)
	m.Store(plan.AtBlocks, pack.Head(-1, 5))
	for s, w := range slabs {
		m.Store(m.Slab(s), w)
	}
	m.Clear()
	return m
}

// P10.1: the start takes the first block of the hold list; without one it is complete.
func TestBegin(t *testing.T) {
	for _, c := range []struct {
		x, want api.Work
		outcome int
	}{
		{api.Work{Line: 41, K: 5}, api.Work{K: 5}, api.Got},
		{api.Work{Line: 41, Hold: []int{}}, api.Work{}, api.Got},
		{api.Work{Line: 41, Hold: []int{4, 2}}, api.Work{Line: 39, K: 5, Hold: []int{2}}, api.Going},
		{api.Work{Hold: []int{0}}, api.Work{Line: 39, K: 1}, api.Going},
		{api.Work{Hold: []int{-1, 3}}, api.Work{Line: 39, K: 0, Hold: []int{3}}, api.Going},
	} {
		keep := rack.Copy(c.x)
		if got, outcome := Begin(c.x); outcome != c.outcome || !rack.Same(got, c.want) || !rack.Same(c.x, keep) {
			t.Errorf("Begin(%+v) = %+v, %d", c.x, got, outcome)
		}
	}
}

// P10.1: each row of the table. Slab 1 has blocks 2 and 3.
func TestLines(t *testing.T) {
	for _, c := range []struct {
		name    string
		word    api.Word // of slab 1
		x, want api.Work
		outcome int
	}{
		{"into the rack, the last", active, api.Work{Line: 39, K: 4}, api.Work{Rack: []int{3}}, api.Got},
		{"into the rack", active, api.Work{Line: 39, K: 4, Hold: []int{2, 5}}, api.Work{Line: 39, K: 3, Hold: []int{5}, Rack: []int{3}}, api.Going},
		{"the rack is full", active, api.Work{Line: 39, K: 4, Rack: []int{0}, Hold: []int{2}}, api.Work{Line: 13, K: 4, Rack: []int{0}, Hold: []int{2}}, api.Going},
		{"to be parked", draining, api.Work{Line: 39, K: 4, Hold: []int{2}}, api.Work{Line: 30, K: 4, Hold: []int{2}}, api.Going},
		{"parked", draining, api.Work{Line: 30, K: 4, Hold: []int{2}}, api.Work{Line: 39, K: 3}, api.Going},
		{"parked, no more", draining, api.Work{Line: 30, K: 4}, api.Work{}, api.Got},
		{"parked the last of the slab", draining + 16, api.Work{Line: 30, K: 4, Hold: []int{5}}, api.Work{Line: 31, K: 4, Hold: []int{5}}, api.Going},
		{"load the epoch", draining + 32, api.Work{Line: 31, K: 4, Hold: []int{5}}, api.Work{Line: 32, K: 4, V: 9, Hold: []int{5}}, api.Going},
		{"emptied", draining + 32, api.Work{Line: 32, K: 4, V: 9, Hold: []int{5}}, api.Work{Line: 39, K: 6, V: 9}, api.Going},
		{"emptied, no more", draining + 32, api.Work{Line: 32, K: 4, V: 9}, api.Work{V: 9}, api.Got},
		{"load the head", active, api.Work{Line: 13, K: 4}, api.Work{Line: 14, K: 4, V: 5 << 32}, api.Going},
		{"store the link", active, api.Work{Line: 14, K: 4, V: 5 << 32}, api.Work{Line: 15, K: 4, V: 5 << 32}, api.Going},
		{"pushed", active, api.Work{Line: 15, K: 4, V: 5 << 32, Hold: []int{2}}, api.Work{Line: 39, K: 3, V: 5 << 32}, api.Going},
		{"pushed, no more", active, api.Work{Line: 15, K: 4, V: 5 << 32}, api.Work{V: 5 << 32}, api.Got},
		{"push fails", active, api.Work{Line: 15, K: 4, V: 4 << 32}, api.Work{Line: 13, K: 4, V: 4 << 32}, api.Going},
	} {
		m := at(t, config, active, c.word, active)
		got, outcome, ok := Step(m, c.x)
		if !ok || outcome != c.outcome || !rack.Same(got, c.want) {
			t.Errorf("%s: %+v, %d, %v, want %+v, %d", c.name, got, outcome, ok, c.want, c.outcome)
		}
	}
}

// P10.2: the example.
func TestExample(t *testing.T) {
	m := at(t, config, active, active, active)
	x, outcome := Begin(api.Work{Hold: []int{4, 5}})
	for outcome == api.Going {
		x, outcome, _ = Step(m, x)
	}
	l, ok := stack.List(config, m.All(), false)
	if !slices.Equal(x.Rack, []int{4}) || !ok || !slices.Equal(l, []int{5}) || len(x.Hold) != 0 || x.K != 0 || x.Line != 0 {
		t.Errorf("%+v, free list %v", x, l)
	}
}

// P10.1: Owes is the block under way and the hold list, but not a block that is parked already.
func TestOwes(t *testing.T) {
	for _, c := range []struct {
		x    api.Work
		want []int
	}{
		{api.Work{}, nil},
		{api.Work{Hold: []int{3, 1}}, []int{3, 1}},
		{api.Work{Line: 39, K: 5}, []int{4}},
		{api.Work{Line: 39, K: 5, Hold: []int{3, 1}}, []int{4, 3, 1}},
		{api.Work{Line: 30, K: 5, Hold: []int{3}}, []int{4, 3}},
		{api.Work{Line: 31, K: 5, Hold: []int{3}}, []int{3}},
		{api.Work{Line: 32, K: 5, Hold: []int{3}}, []int{3}},
		{api.Work{Line: 32, K: 5}, nil},
		{api.Work{Line: 13, K: 1}, []int{0}},
		{api.Work{Line: 0, K: 2}, []int{1}},
		{api.Work{Line: 39, K: -3}, []int{-4}},
	} {
		if got := Owes(c.x); !slices.Equal(got, c.want) {
			t.Errorf("Owes(%+v) = %v", c.x, got)
		}
	}
}

// P10.1: the result of Owes is new memory.
func TestOwesIsNew(t *testing.T) {
	for _, k := range []int{0, 5} {
		x := api.Work{Line: 39, K: k, Hold: []int{3, 1}}
		l := Owes(x)
		for i := range l {
			l[i] = -9
		}
		if !slices.Equal(x.Hold, []int{3, 1}) {
			t.Errorf("the hold list became %v", x.Hold)
		}
	}
}

// P10.2: alone, each held block takes at most 4 steps and ends in the rack, on the free list or parked.
func TestReleaseAlone(t *testing.T) {
	r := rand.New(rand.NewSource(8))
	for range 3000 {
		c := config
		c.Rack = r.Intn(5)
		var slabs []api.Word
		for range 3 {
			slabs = append(slabs, []api.Word{active, draining}[r.Intn(2)])
		}
		m := at(t, c, slabs...)
		held := r.Perm(6)[:r.Intn(7)]
		x, outcome := Begin(api.Work{Hold: slices.Clone(held)})
		steps := 0
		for outcome == api.Going {
			owed := len(Owes(x))
			x, outcome, _ = Step(m, x)
			steps++
			if len(Owes(x)) < owed-1 {
				t.Fatal("two blocks in one step")
			}
		}
		if steps > 4*len(held) || x.Line != 0 || x.K != 0 || len(x.Hold) != 0 {
			t.Fatalf("%d steps for %v: %+v", steps, held, x)
		}
		checkPlaces(t, c, m, x, held)
	}
}

// checkPlaces looks for each block that was held.
func checkPlaces(t *testing.T, c api.Config, m *memory.Memory, x api.Work, held []int) {
	t.Helper()
	free, ok := stack.List(c, m.All(), false)
	if !ok || len(x.Rack) > c.Rack {
		t.Fatalf("rack %v, words %v", x.Rack, m.All())
	}
	parked := make([]int, 3)
	for _, b := range held {
		n := 0
		if slices.Contains(x.Rack, b) {
			n++
		}
		if slices.Contains(free, b) {
			n++
		}
		state := slab.State(c, m.All(), b/2)
		if out := state == api.Draining || state == api.Empty; out {
			parked[b/2]++
			n++
		}
		if n != 1 {
			t.Fatalf("block %d is at %d places", b, n)
		}
	}
	for s, n := range parked {
		if n == 2 && slab.State(c, m.All(), s) != api.Empty || n == 1 && slab.Parked(c, m.All(), s) != 1 {
			t.Fatalf("slab %d: %d parked, word %#x", s, n, m.Peek(m.Slab(s)))
		}
	}
}
