package place

import (
	"fmt"
	"math/rand"
	"slices"
	"testing"

	"coatcheck/api"
	"coatcheck/hall"
	"coatcheck/pack"
	"coatcheck/plan"
	"coatcheck/slab"
)

var (
	pin     = api.Op{Kind: api.OpPin}
	unpin   = api.Op{Kind: api.OpUnpin}
	peek    = api.Op{Kind: api.OpPeek}
	collect = api.Op{Kind: api.OpCollect}
	alloc   = api.Op{Kind: api.OpAlloc, X: 7}
	free    = api.Op{Kind: api.OpFree, Use: true}
	write   = api.Op{Kind: api.OpWrite, Use: true, X: 9}
	drain   = api.Op{Kind: api.OpDrain}
)

// by makes an operation refer to the ticket of another Alloc.
func by(o api.Op, worker, nth int) api.Op {
	o.By, o.Nth = worker, nth
	return o
}

func newHall(t *testing.T, c api.Config, programs ...[]api.Op) *hall.Hall {
	t.Helper()
	h, e := hall.New(c, programs)
	if e != api.OK {
		t.Fatal(e)
	}
	return h
}

// states returns the states of all workers of a hall.
func states(c api.Config, h *hall.Hall) []api.Work {
	var l []api.Work
	for w := range c.Workers {
		l = append(l, h.Work(w))
	}
	return l
}

// until picks a worker until it is at a line.
func until(t *testing.T, h *hall.Hall, w, line int) {
	t.Helper()
	for n := 0; h.Work(w).Line != line || n == 0; n++ {
		if n > 300 {
			t.Fatalf("worker %d does not reach line %d", w, line)
		}
		h.Pick(w)
	}
}

// expect fails unless the blocks and the entries are at these locations, and the scene is sound.
func expect(t *testing.T, c api.Config, h *hall.Hall, when string, blocks, entries [][]Spot) {
	t.Helper()
	words, l := h.Words(), states(c, h)
	for b, want := range blocks {
		if got := Block(c, words, l, b); !slices.Equal(got, want) {
			t.Errorf("%s: block %d is at %v, not %v", when, b, got, want)
		}
	}
	for e, want := range entries {
		if got := Entry(c, words, l, e); !slices.Equal(got, want) {
			t.Errorf("%s: entry %d is at %v, not %v", when, e, got, want)
		}
	}
	if !Sound(c, words, l) {
		t.Errorf("%s: not sound", when)
	}
}

// The chapter's examples: at first all entries are on the free list and blocks are nowhere; after an Alloc one block is in entry 0, and the other one on the free list or in a rack.
func TestExamples(t *testing.T) {
	stacked := []Spot{{OnStack, 0}}
	for room, other := range [][]Spot{{{OnStack, 0}}, {{InRack, 0}}} {
		c := api.Config{Workers: 1, Slabs: 1, Blocks: 2, Words: 1, Entries: 4, Rack: room, Bag: 1, Last: 9}
		h := newHall(t, c, []api.Op{alloc})
		expect(t, c, h, "at first", [][]Spot{nil, nil}, [][]Spot{stacked, stacked, stacked, stacked})
		for kind := range 10 {
			if got := Count(c, h.Words(), states(c, h), kind); got != 0 {
				t.Errorf("at first: %d of kind %d", got, kind)
			}
		}
		until(t, h, 0, 0)
		inEntry := []Spot{{InEntry, 0}}
		expect(t, c, h, "after an alloc", [][]Spot{inEntry, other}, [][]Spot{inEntry, stacked, stacked, stacked})
		for kind, want := range map[int]int{InEntry: 1, other[0].Kind: 1, InHand: 0, InHold: 0, IsOut: 0} {
			if got := Count(c, h.Words(), states(c, h), kind); got != want {
				t.Errorf("after an alloc: %d of kind %d", got, kind)
			}
		}
	}
}

// P17.1: a block and an entry on their way through an execution, until the slab is reclaimed. Worker 1 executes it, so that each location says so.
func TestWay(t *testing.T) {
	c := api.Config{Workers: 2, Slabs: 1, Blocks: 2, Words: 1, Entries: 1, Rack: 0, Bag: 1, Last: 1}
	program := []api.Op{alloc, write, collect, drain, by(free, 1, 0), collect, collect, collect}
	program[1].By = 1
	h := newHall(t, c, nil, program)
	stacked, inEntry := []Spot{{OnStack, 0}}, []Spot{{InEntry, 0}}
	hand, held, given, bagged := []Spot{{InHand, 1}}, []Spot{{InHold, 1}}, []Spot{{Given, 1}}, []Spot{{InBag, 1}}
	for _, m := range []struct {
		line          int
		first, second []Spot // the locations of blocks 0 and 1
		entry         []Spot
	}{
		{34, nil, nil, stacked},
		{50, hand, held, stacked},
		{20, hand, held, stacked},
		{40, hand, held, hand},
		{41, hand, held, hand},
		{39, inEntry, given, inEntry},
		{13, inEntry, given, inEntry},
		{15, inEntry, given, inEntry},
		{0, inEntry, stacked, inEntry},
		{12, inEntry, stacked, inEntry}, // the write
		{35, inEntry, hand, inEntry},
		{45, inEntry, hand, inEntry},
		{0, bagged, inEntry, inEntry},
		{0, bagged, inEntry, inEntry},            // the collect
		{0, bagged, inEntry, inEntry},            // the drain
		{43, bagged, inEntry, inEntry},           // the free
		{90, bagged, bagged, []Spot{{IsOut, 0}}}, // its entry has no generation left
		{73, bagged, bagged, []Spot{{IsOut, 0}}}, // a collect
		{39, given, bagged, []Spot{{IsOut, 0}}},  // the block is ripe
		{30, given, bagged, []Spot{{IsOut, 0}}},  // its slab is draining
		{0, nil, bagged, []Spot{{IsOut, 0}}},     // it is parked
		{30, nil, given, []Spot{{IsOut, 0}}},     // and so will be the other one, by the next collect
		{31, nil, nil, []Spot{{IsOut, 0}}},       // K is no location here
		{32, nil, nil, []Spot{{IsOut, 0}}},       // nor here
		{0, nil, nil, []Spot{{IsOut, 0}}},        // the slab is empty
	} {
		until(t, h, 1, m.line)
		expect(t, c, h, fmt.Sprintf("tick %d, line %d", h.Tick(), m.line), [][]Spot{m.first, m.second}, [][]Spot{m.entry})
	}
	if got := slab.State(c, h.Words(), 0); got != api.Empty {
		t.Errorf("the slab is in state %d", got)
	}
}

// randomConfig returns a small configuration of several workers, so that they get into each other's way.
func randomConfig(r *rand.Rand) api.Config {
	return api.Config{
		Workers: 2 + r.Intn(4), Slabs: 1 + r.Intn(3), Blocks: 1 + r.Intn(4), Words: 1 + r.Intn(2), Entries: 1 + r.Intn(5),
		Rack: r.Intn(3), Bag: 1 + r.Intn(3), Last: []api.Word{1, 2, 3, 1000}[r.Intn(4)],
	}
}

func randomOp(r *rand.Rand, c api.Config) api.Op {
	ops := []api.Op{pin, unpin, unpin, peek, collect, collect, collect, drain, alloc, alloc, alloc, alloc, free, free, free, write, write, write}
	o := ops[r.Intn(len(ops))]
	switch {
	case o.Kind == api.OpDrain:
		o.Slab = r.Intn(c.Slabs)
	case o.Use && r.Intn(2) == 0:
		o = by(o, r.Intn(c.Workers), r.Intn(6))
	case o.Use:
		o.Use, o.T = false, pack.Ticket(r.Intn(c.Entries), 1+api.Word(r.Intn(4)))
	}
	return o
}

// randomHall returns a hall and picks in bursts, so that workers stop in the middle of operations for long.
func randomHall(t *testing.T, r *rand.Rand, n int) (api.Config, *hall.Hall, []int) {
	t.Helper()
	c := randomConfig(r)
	programs := make([][]api.Op, c.Workers)
	for w := range programs {
		for range api.MaxOps {
			programs[w] = append(programs[w], randomOp(r, c))
		}
	}
	var picks []int
	for len(picks) < n {
		w := r.Intn(c.Workers+2) - 1
		for range 1 + r.Intn(1+r.Intn(25)) {
			picks = append(picks, w)
		}
	}
	return c, newHall(t, c, programs...), picks
}

// seen counts what executions came across.
type seen struct {
	kinds                       [IsOut + 1]int
	parked, parking, empty, out int
	hands                       int
}

func (s *seen) look(c api.Config, words []api.Word, l []api.Work) {
	for kind := range s.kinds {
		s.kinds[kind] += Count(c, words, l, kind)
	}
	for i := range c.Slabs {
		if state := slab.State(c, words, i); state == api.Empty {
			s.empty++
		} else if state == api.Draining {
			s.parked += slab.Parked(c, words, i)
		}
	}
	for _, x := range l {
		if x.Line == 31 || x.Line == 32 {
			s.parking++
		}
	}
	for i := range c.Entries {
		switch spots := Entry(c, words, l, i); spots[0].Kind {
		case IsOut:
			s.out++
		case InHand:
			s.hands++
		}
	}
}

// P2, P17.3: the ownership invariant holds after every pick, whatever the workers do.
func TestSoundAfterEveryPick(t *testing.T) {
	r := rand.New(rand.NewSource(3))
	var s seen
	again := 0
	for range 100 {
		c, h, picks := randomHall(t, r, 1500)
		for i, w := range append([]int{-1}, picks...) {
			h.Pick(w)
			words, l := h.Words(), states(c, h)
			if !Sound(c, words, l) {
				t.Fatalf("%+v: not sound after pick %d", c, i)
			}
			s.look(c, words, l)
		}
		for _, e := range h.Events() {
			if a := e.Access; e.Line == 34 && a.Old == a.X && a.X != 0 {
				again++
			}
		}
	}
	for kind := OnStack; kind <= Given; kind++ {
		if s.kinds[kind] < 1000 {
			t.Errorf("only %d blocks of kind %d", s.kinds[kind], kind)
		}
	}
	if s.parked < 1000 || s.parking < 100 || s.empty < 1000 || s.out < 1000 || s.hands < 1000 || again < 20 {
		t.Errorf("too little happened: %+v, and %d slabs were claimed again", s, again)
	}
}

// P2, P17.3: the invariant in the greatest pool.
func TestSoundInTheGreatestPool(t *testing.T) {
	r := rand.New(rand.NewSource(4))
	c := api.Config{Workers: 8, Slabs: 8, Blocks: 16, Words: 4, Entries: 32, Rack: 4, Bag: 8, Last: 1 << 20}
	programs := make([][]api.Op, c.Workers)
	for w := range programs {
		for range api.MaxOps {
			programs[w] = append(programs[w], randomOp(r, c))
		}
	}
	h := newHall(t, c, programs...)
	for i := range 8000 {
		h.Pick(r.Intn(8))
		if !Sound(c, h.Words(), states(c, h)) {
			t.Fatalf("not sound after pick %d", i)
		}
	}
}

// P2, P17.3: the invariant after every pick of every schedule of two workers with short programs.
func TestSoundUnderEverySchedule(t *testing.T) {
	small := api.Config{Workers: 2, Slabs: 1, Blocks: 3, Words: 1, Entries: 2, Rack: 0, Bag: 1, Last: 9}
	once := api.Config{Workers: 2, Slabs: 2, Blocks: 1, Words: 1, Entries: 1, Rack: 1, Bag: 1, Last: 1}
	for _, x := range []struct {
		name   string
		c      api.Config
		before []api.Op // of worker 0, executed alone before
		a, b   []api.Op
	}{
		{"both allocate and free", small, nil, []api.Op{alloc, free}, []api.Op{alloc, by(free, 1, 0)}},
		{"one slab each and one entry", once, nil, []api.Op{alloc, free}, []api.Op{alloc, by(free, 1, 0)}},
		{"both free the same and allocate", small, []api.Op{alloc}, []api.Op{free, alloc}, []api.Op{free, alloc}},
		{"both write the same", small, []api.Op{alloc}, []api.Op{write, collect}, []api.Op{write}},
		{"free for the last time and write", once, []api.Op{alloc}, []api.Op{free}, []api.Op{write, collect}},
		{"drain and allocate", small, []api.Op{alloc}, []api.Op{drain, free}, []api.Op{alloc, write}},
		{"park all blocks and claim the slab again", small, []api.Op{alloc, free, collect, collect, drain}, []api.Op{collect, collect}, []api.Op{alloc, collect, alloc}},
	} {
		t.Run(x.name, func(t *testing.T) { everySchedule(t, x.c, x.before, x.a, x.b) })
	}
}

// everySchedule visits each state that two workers can reach, by the picks that led to it first.
func everySchedule(t *testing.T, c api.Config, before, a, b []api.Op) {
	t.Helper()
	replay := func(picks []int) *hall.Hall {
		h := newHall(t, c, slices.Concat(before, a), b)
		for h.Left(0) > len(a) || h.Work(0).Line != 0 {
			h.Pick(0)
		}
		h.Run(picks...)
		return h
	}
	known := map[string]bool{}
	for paths := [][]int{nil}; len(paths) > 0; {
		path := paths[len(paths)-1]
		paths = paths[:len(paths)-1]
		for w := range 2 {
			picks := append(slices.Clone(path), w)
			h := replay(picks)
			words, l := h.Words(), states(c, h)
			if !Sound(c, words, l) {
				t.Fatalf("not sound after %v", picks)
			}
			key := fmt.Sprint(words, l, h.Left(0), h.Left(1), h.Told(0), h.Told(1))
			if !known[key] {
				known[key] = true
				paths = append(paths, picks)
			}
		}
	}
	if len(known) < 200 {
		t.Errorf("only %d states", len(known))
	}
}

// change is what somebody might do wrong to a block or an entry.
type change struct {
	name string
	do   func(r *rand.Rand, p plan.Plan, words []api.Word, l []api.Work) bool // false if there is nothing to do it to
}

func changes() []change {
	return []change{
		{"a block is held once more", func(r *rand.Rand, p plan.Plan, words []api.Word, l []api.Work) bool {
			b := r.Intn(p.Total())
			if len(Block(p.Config, words, l, b)) == 0 {
				return false
			}
			x := &l[r.Intn(len(l))]
			x.Hold = append(x.Hold, b)
			return true
		}},
		{"a block of a slab that is not in use is in a rack", func(r *rand.Rand, p plan.Plan, words []api.Word, l []api.Work) bool {
			b := r.Intn(p.Total())
			x := &l[r.Intn(len(l))]
			x.Rack = append(x.Rack, b)
			state := slab.State(p.Config, words, p.Home(b))
			return state == api.Raw || state == api.Empty
		}},
		{"a worker forgets the block in hand", func(r *rand.Rand, p plan.Plan, words []api.Word, l []api.Work) bool {
			x := &l[r.Intn(len(l))]
			had := x.B != 0
			x.B = 0
			return had
		}},
		{"a worker forgets the block that it gives", func(r *rand.Rand, p plan.Plan, words []api.Word, l []api.Work) bool {
			x := &l[r.Intn(len(l))]
			had := x.K != 0 && x.Line != 31 && x.Line != 32
			x.K = 0
			return had
		}},
		{"a worker forgets its buckets", func(r *rand.Rand, p plan.Plan, words []api.Word, l []api.Work) bool {
			x := &l[r.Intn(len(l))]
			had := len(x.Bags[0].L)+len(x.Bags[1].L)+len(x.Bags[2].L) > 0
			x.Bags = [3]api.Bag{}
			return had
		}},
		{"the top block is lost", func(r *rand.Rand, p plan.Plan, words []api.Word, l []api.Work) bool {
			top, version := pack.Unhead(words[plan.AtBlocks])
			if top < 0 {
				return false
			}
			below, _ := pack.Unhead(words[p.BlockLink(top)])
			words[plan.AtBlocks] = pack.Head(below, version)
			return true
		}},
		{"a block is parked without being counted", func(r *rand.Rand, p plan.Plan, words []api.Word, l []api.Work) bool {
			s := r.Intn(p.Slabs)
			_, parked, _ := pack.Unslab(words[p.Slab(s)])
			if parked == 0 {
				return false
			}
			words[p.Slab(s)] -= 16
			return true
		}},
		{"a slab is claimed by nobody", func(r *rand.Rand, p plan.Plan, words []api.Word, l []api.Work) bool {
			s := r.Intn(p.Slabs)
			state, _, _ := pack.Unslab(words[p.Slab(s)])
			words[p.Slab(s)] = pack.Slab(api.Active, 0, 0)
			return state == api.Raw || state == api.Empty
		}},
		{"a worker forgets the entry in hand", func(r *rand.Rand, p plan.Plan, words []api.Word, l []api.Work) bool {
			x := &l[r.Intn(len(l))]
			had := x.I != 0
			x.I = 0
			return had
		}},
		{"an entry is in hand as well", func(r *rand.Rand, p plan.Plan, words []api.Word, l []api.Work) bool {
			x := &l[r.Intn(len(l))]
			had := x.I
			x.I = 1 + r.Intn(p.Entries)
			return x.I != had
		}},
		{"a live entry is freed without being pushed", func(r *rand.Rand, p plan.Plan, words []api.Word, l []api.Work) bool {
			e := p.Entry(r.Intn(p.Entries))
			gen, _, state := pack.Unentry(words[e])
			words[e] = pack.Entry(gen, -1, api.Free)
			return state == api.Live
		}},
	}
}

// P17.2: one block or entry that is duplicated or lost in the middle of an execution makes it unsound.
func TestUnsoundExecutions(t *testing.T) {
	r := rand.New(rand.NewSource(5))
	done := map[string]int{}
	for range 60 {
		c, h, picks := randomHall(t, r, 800)
		for _, w := range picks {
			h.Pick(w)
			all := changes()
			x := all[r.Intn(len(all))]
			words, l := h.Words(), states(c, h)
			if !x.do(r, plan.Plan{Config: c}, words, l) {
				continue
			}
			done[x.name]++
			if Sound(c, words, l) {
				t.Fatalf("%s, and it is sound: %+v", x.name, c)
			}
		}
	}
	for _, x := range changes() {
		if done[x.name] < 50 {
			t.Errorf("%s: only %d times", x.name, done[x.name])
		}
	}
}

// P17.1: in executions too the locations are those of the tables.
func TestLocationsInExecutions(t *testing.T) {
	r := rand.New(rand.NewSource(6))
	for range 20 {
		c, h, picks := randomHall(t, r, 500)
		p := plan.Plan{Config: c}
		for _, w := range picks {
			h.Pick(w)
			words, l := h.Words(), states(c, h)
			for b := range p.Total() {
				if got, want := Block(c, words, l, b), byKind(p, words, l, b); !slices.Equal(got, want) {
					t.Fatalf("block %d is at %v, not %v", b, got, want)
				}
			}
			for e := range c.Entries {
				if got, want := Entry(c, words, l, e), entryByKind(p, words, l, e); !slices.Equal(got, want) {
					t.Fatalf("entry %d is at %v, not %v", e, got, want)
				}
			}
		}
	}
}
