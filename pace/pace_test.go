package pace

import (
	"math"
	"math/rand"
	"testing"

	"coatcheck/api"
	"coatcheck/hall"
	"coatcheck/pack"
	"coatcheck/slab"
)

var config = api.Config{Workers: 2, Slabs: 2, Blocks: 3, Words: 4, Entries: 2, Rack: 1, Bag: 2, Last: 9}

var (
	pin     = api.Op{Kind: api.OpPin}
	unpin   = api.Op{Kind: api.OpUnpin}
	collect = api.Op{Kind: api.OpCollect}
	alloc   = api.Op{Kind: api.OpAlloc, X: 7}
)

func newHall(t *testing.T, c api.Config, programs ...[]api.Op) *hall.Hall {
	t.Helper()
	h, e := hall.New(c, programs)
	if e != api.OK {
		t.Fatal(e)
	}
	return h
}

// P20.1: Bound of valid configurations, the example among them, and of others.
func TestBound(t *testing.T) {
	for want, c := range map[int]api.Config{
		102:                   {Workers: 1, Slabs: 1, Blocks: 2, Words: 1, Entries: 1, Bag: 1, Last: 1},
		60 + 8 + 16 + 96:      config,
		60 + 2 + 8 + 16:       {Workers: 8, Slabs: 1, Blocks: 1, Words: 1, Entries: 32, Rack: 4, Bag: 8, Last: 1 << 20},
		60 + 8 + 64 + 16*8*16: {Workers: 8, Slabs: 8, Blocks: 16, Words: 4, Entries: 32, Rack: 4, Bag: 8, Last: 1 << 20},
		60 + 6 + 40 + 16*5*7:  {Workers: 1, Slabs: 5, Blocks: 7, Words: 3, Entries: 1, Bag: 1, Last: 1},
		60 + 4 + 56 + 16*7:    {Workers: 1, Slabs: 7, Blocks: 1, Words: 2, Entries: 1, Bag: 1, Last: 1},
	} {
		if got := Bound(c); got != want {
			t.Errorf("Bound(%+v) = %d, want %d", c, got, want)
		}
	}
	for _, change := range []func(c *api.Config){
		func(c *api.Config) { *c = api.Config{} }, func(c *api.Config) { c.Slabs = 0 }, func(c *api.Config) { c.Slabs = 9 },
		func(c *api.Config) { c.Words = 5 }, func(c *api.Config) { c.Blocks = -1 }, func(c *api.Config) { c.Last = 0 },
		func(c *api.Config) { c.Rack = -1 }, func(c *api.Config) { c.Bag = math.MaxInt }, func(c *api.Config) { c.Last = math.MaxUint64 },
	} {
		c := config
		change(&c)
		if got := Bound(c); got != 0 {
			t.Errorf("Bound(%+v) = %d", c, got)
		}
	}
}

// P20.1: Alone picks until the worker is idle, at most as often as it may. An alloc that claims the first slab takes 21 steps here.
func TestAlone(t *testing.T) {
	const steps = 21
	for _, c := range []struct {
		most, n int
		idle    bool
	}{
		{math.MinInt, 0, false}, {-1, 0, false}, {0, 0, false}, {1, 1, false}, {steps - 1, steps - 1, false},
		{steps, steps, true}, {steps + 1, steps, true}, {math.MaxInt, steps, true},
	} {
		h := newHall(t, config, []api.Op{alloc, pin}, []api.Op{pin})
		h.Pick(0)
		tick := h.Tick()
		n, idle := Alone(h, 0, c.most)
		if n != c.n || idle != c.idle || h.Tick() != tick+c.n || h.Left(0) != 1 || h.Left(1) != 1 {
			t.Errorf("most %d: %d, %v, tick %d, %d left", c.most, n, idle, h.Tick(), h.Left(0))
		}
	}
}

// P20.1: an idle worker is not picked, also if it has operations left.
func TestAloneOfAnIdleWorker(t *testing.T) {
	h := newHall(t, config, []api.Op{alloc})
	for _, w := range []int{0, 1, 2, -1, 8, math.MinInt, math.MaxInt} {
		for _, most := range []int{math.MinInt, 0, 1, math.MaxInt} {
			if n, idle := Alone(h, w, most); n != 0 || !idle || h.Tick() != 0 {
				t.Errorf("worker %d, most %d: %d, %v", w, most, n, idle)
			}
		}
	}
}

// P20.1: only the worker itself is picked.
func TestAlonePicksNobodyElse(t *testing.T) {
	h := newHall(t, config, []api.Op{alloc, alloc}, []api.Op{alloc, alloc})
	h.Run(0, 1, 1, 1)
	Alone(h, 1, math.MaxInt)
	if h.Work(0).Line != 1 || h.Left(0) != 1 || h.Left(1) != 1 {
		t.Errorf("worker 0 is at line %d", h.Work(0).Line)
	}
	for _, e := range h.Events() {
		if e.Tick > 1 && e.Worker != 1 {
			t.Errorf("%+v", e)
		}
	}
}

// P20.2: Finish ends each worker's program, worker by worker.
func TestFinish(t *testing.T) {
	c := config
	c.Workers, c.Entries = 8, 8
	var programs [][]api.Op
	for range 8 {
		programs = append(programs, []api.Op{alloc, pin, collect, unpin})
	}
	h := newHall(t, c, programs...)
	h.Run(7, 7, 3, 3, 3, 0)
	if !Finish(h, math.MaxInt) {
		t.Fatal("not finished")
	}
	worker := 0
	for w := range 8 {
		if h.Left(w) != 0 || h.Work(w).Line != 0 {
			t.Errorf("worker %d: %d left, line %d", w, h.Left(w), h.Work(w).Line)
		}
	}
	for _, e := range h.Events() {
		if e.Tick > 6 && e.Worker < worker {
			t.Fatalf("worker %d after %d", e.Worker, worker)
		}
		if e.Tick > 6 {
			worker = e.Worker
		}
	}
	tick := h.Tick()
	if !Finish(h, 5) || !Finish(h, 0) || !Finish(h, math.MinInt) || h.Tick() != tick {
		t.Error("a finished hall is picked or not finished")
	}
}

// P20.2: each worker is picked at most as often as it may, also after one that did not finish.
func TestFinishWithFewPicks(t *testing.T) {
	for _, c := range []struct {
		most, ticks int
		done        bool
	}{
		{math.MinInt, 0, false}, {-1, 0, false}, {0, 0, false}, {1, 2, false}, {3, 6, false}, {4, 8, false}, {6, 4 + 6, false}, {7, 4 + 7, true}, {8, 4 + 7, true}, {100, 4 + 7, true},
	} {
		h := newHall(t, config, []api.Op{pin}, []api.Op{collect, unpin})
		if c.done != Finish(h, c.most) || h.Tick() != c.ticks {
			t.Errorf("most %d: tick %d, line %d and %d", c.most, h.Tick(), h.Work(0).Line, h.Work(1).Line)
		}
	}
}

// P20.2: a worker that finishes after one that did not does not hide it.
func TestFinishReportsTheFirst(t *testing.T) {
	h := newHall(t, config, []api.Op{alloc}, []api.Op{pin})
	if Finish(h, 5) || h.Left(1) != 0 || h.Work(1).Line != 0 || h.Work(0).Line == 0 {
		t.Errorf("line %d and %d", h.Work(0).Line, h.Work(1).Line)
	}
}

// P20.2: Idle looks at the workers below a number.
func TestIdle(t *testing.T) {
	h := newHall(t, config, []api.Op{pin}, []api.Op{pin})
	if !Idle(h, 2) || !Idle(h, math.MaxInt) {
		t.Error("workers that have not started are not idle")
	}
	h.Pick(1)
	for workers, want := range map[int]bool{math.MinInt: true, -1: true, 0: true, 1: true, 2: false, 3: false, 8: false, 9: false, math.MaxInt: false} {
		if got := Idle(h, workers); got != want {
			t.Errorf("below %d: %v", workers, got)
		}
	}
	if h.Tick() != 1 {
		t.Error("Idle picks")
	}
}

// P20.2: Idle sees the last of eight workers.
func TestIdleOfEight(t *testing.T) {
	c := config
	c.Workers = 8
	for w := range 8 {
		programs := make([][]api.Op, 8)
		programs[w] = []api.Op{pin}
		h := newHall(t, c, programs...)
		h.Pick(w)
		if !Idle(h, w) || Idle(h, w+1) || Idle(h, math.MaxInt) {
			t.Errorf("worker %d", w)
		}
	}
}

// The last sentence of the specification: a nil hall.
func TestNilHall(t *testing.T) {
	for _, n := range []int{math.MinInt, -1, 0, 1, math.MaxInt} {
		if picks, idle := Alone(nil, n, n); picks != 0 || !idle || !Finish(nil, n) || !Idle(nil, n) {
			t.Errorf("%d: %d, %v", n, picks, idle)
		}
	}
}

// P1: the zero hall has no workers.
func TestZeroHall(t *testing.T) {
	h := &hall.Hall{}
	if picks, idle := Alone(h, 0, 9); picks != 0 || !idle || !Finish(h, 9) || !Idle(h, 9) || h.Tick() != 0 {
		t.Errorf("%d, %v, tick %d", picks, idle, h.Tick())
	}
}

// randomHall returns a configuration and programs, in which workers collect, drain and write much.
func randomHall(r *rand.Rand) (api.Config, [][]api.Op) {
	c := api.Config{
		Workers: 2 + r.Intn(3), Slabs: 1 + r.Intn(3), Blocks: 1 + r.Intn(8), Words: 1 + r.Intn(4), Entries: 1 + r.Intn(6),
		Rack: r.Intn(5), Bag: 1 + r.Intn(4), Last: api.Word(1 + r.Intn(9)),
	}
	programs := make([][]api.Op, c.Workers)
	for w := range programs {
		for range 30 {
			programs[w] = append(programs[w], randomOp(r, c))
		}
	}
	return c, programs
}

func randomOp(r *rand.Rand, c api.Config) api.Op {
	kinds := []int{api.OpPin, api.OpUnpin, api.OpUnpin, api.OpPeek, api.OpCollect, api.OpCollect, api.OpDrain, api.OpAlloc, api.OpAlloc, api.OpAlloc, api.OpFree, api.OpWrite, api.OpWrite, api.OpDeref}
	o := api.Op{Kind: kinds[r.Intn(len(kinds))]}
	switch o.Kind {
	case api.OpAlloc:
		o.X = r.Uint64()
	case api.OpFree, api.OpWrite, api.OpDeref:
		o.Use, o.By, o.Nth = true, r.Intn(c.Workers), r.Intn(4)
		if r.Intn(10) == 0 {
			o.Use, o.By, o.Nth, o.T = false, 0, 0, pack.Ticket(r.Intn(c.Entries), 1)
		}
	case api.OpDrain:
		o.Slab = r.Intn(c.Slabs)
	}
	return o
}

// P20.3: wherever the others stopped, a worker that runs alone completes its operation within Bound picks, and the others can follow it.
func TestObstructionFreedom(t *testing.T) {
	r := rand.New(rand.NewSource(20))
	longest := 0
	for range 60 {
		c, programs := randomHall(r)
		var picks []int
		for len(picks) < 1200 {
			w := r.Intn(c.Workers)
			for range 1 + r.Intn(12) {
				picks = append(picks, w)
			}
		}
		for range 4 {
			stop := r.Intn(len(picks))
			for w := range c.Workers {
				h := newHall(t, c, programs...)
				h.Run(picks[:stop]...)
				n, idle := Alone(h, w, Bound(c))
				if !idle || n > Bound(c) {
					t.Fatalf("%+v: worker %d is at line %d after %d picks", c, w, h.Work(w).Line, n)
				}
				longest = max(longest, n)
				if !Finish(h, (Bound(c)+1)*31) {
					t.Fatalf("%+v: not finished after worker %d", c, w)
				}
			}
		}
	}
	if longest < 30 {
		t.Errorf("the longest operation took %d picks only", longest)
	}
}

// completes executes so many whole operations of a worker.
func completes(h *hall.Hall, w, operations int) {
	for left := h.Left(w) - operations; h.Left(w) > left || h.Work(w).Line != 0; {
		h.Pick(w)
	}
}

// greatHall returns a hall whose blocks were all used and freed, and whose slabs are all draining. Worker 0 has an alloc left, which has to park every block.
func greatHall(t *testing.T, c api.Config) *hall.Hall {
	t.Helper()
	programs := make([][]api.Op, c.Workers)
	for w := range programs {
		programs[w] = append(programs[w], alloc, alloc, alloc, alloc)
		for i := range 24 {
			programs[w] = append(programs[w], api.Op{Kind: api.OpWrite, Use: true, By: w, Nth: i % 4, X: 5})
			if w == 0 && i%8 == 7 {
				programs[w] = append(programs[w], collect)
			}
		}
		programs[w] = append(programs[w], collect, collect, collect)
		for i := range 4 {
			programs[w] = append(programs[w], api.Op{Kind: api.OpFree, Use: true, By: w, Nth: i})
		}
		programs[w] = append(programs[w], collect, collect, collect, collect)
	}
	for s := range c.Slabs {
		programs[0] = append(programs[0], api.Op{Kind: api.OpDrain, Slab: s})
	}
	programs[0] = append(programs[0], alloc)
	h := newHall(t, c, programs...)
	// Worker 0 collects once after each round of 8 writes, so that the blocks of three rounds wait at the same time.
	for _, n := range []int{4, 8, 8, 8, 3, 4, 4} {
		for w := range programs {
			completes(h, w, n)
		}
		if n == 8 {
			completes(h, 0, 1)
		}
	}
	completes(h, 0, c.Slabs)
	return h
}

// P20.3: in the greatest pool one operation has to park every block of every slab.
func TestObstructionFreedomOfTheGreatestPool(t *testing.T) {
	c := api.Config{Workers: 8, Slabs: 8, Blocks: 16, Words: 4, Entries: 32, Rack: 0, Bag: 8, Last: 1 << 20}
	h := greatHall(t, c)
	for s := range c.Slabs {
		if slab.State(c, h.Words(), s) != api.Draining || h.Left(0) != 1 {
			t.Fatalf("slab %d is in state %d, %d left", s, slab.State(c, h.Words(), s), h.Left(0))
		}
	}
	h.Pick(0)
	n, idle := Alone(h, 0, Bound(c))
	if !idle || n < 5*128 {
		t.Errorf("line %d after %d picks", h.Work(0).Line, n)
	}
	for s := range c.Slabs {
		if slab.State(c, h.Words(), s) != api.Empty {
			t.Errorf("slab %d is in state %d", s, slab.State(c, h.Words(), s))
		}
	}
}
