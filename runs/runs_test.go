// Package runs tests what holds in every execution of a hall, under random configurations, programs and schedules.
package runs

import (
	"math/rand"
	"slices"
	"testing"

	"coatcheck/api"
	"coatcheck/bag"
	"coatcheck/entry"
	"coatcheck/epoch"
	"coatcheck/give"
	"coatcheck/hall"
	"coatcheck/order"
	"coatcheck/pack"
	"coatcheck/plan"
	"coatcheck/slab"
	"coatcheck/stack"
)

// randomConfig returns a small configuration, so that workers get into each other's way.
func randomConfig(r *rand.Rand) api.Config {
	return api.Config{
		Workers: 1 + r.Intn(4), Slabs: 1 + r.Intn(3), Blocks: 1 + r.Intn(4), Words: 1 + r.Intn(3), Entries: 1 + r.Intn(5),
		Rack: r.Intn(3), Bag: 1 + r.Intn(1+r.Intn(3)), Last: []api.Word{1, 2, 5, 1000}[r.Intn(4)],
	}
}

// randomPrograms returns a program for each worker, which pins for a few operations now and then.
func randomPrograms(r *rand.Rand, c api.Config) [][]api.Op {
	programs := make([][]api.Op, c.Workers)
	for w := range programs {
		allocs, pinned := 0, false
		for range 100 {
			o := randomOp(r, c, w, allocs, pinned)
			if o.Kind == api.OpAlloc {
				allocs++
			}
			programs[w] = append(programs[w], o)
			switch {
			case pinned && r.Intn(4) == 0:
				programs[w] = append(programs[w], api.Op{Kind: api.OpUnpin})
				pinned = false
			case !pinned && r.Intn(8) == 0:
				programs[w] = append(programs[w], api.Op{Kind: api.OpPin})
				pinned = true
			}
		}
	}
	return programs
}

// randomOp returns an operation of a worker that has so many Allocs before it. Most references are to one of its latest, and a pinned worker reads most of the time.
func randomOp(r *rand.Rand, c api.Config, w, allocs int, pinned bool) api.Op {
	kinds := []int{
		api.OpPin, api.OpUnpin, api.OpPeek, api.OpCollect, api.OpCollect, api.OpCollect, api.OpDrain,
		api.OpAlloc, api.OpAlloc, api.OpAlloc, api.OpAlloc, api.OpFree, api.OpFree, api.OpFree, api.OpWrite, api.OpWrite, api.OpWrite, api.OpDeref, api.OpDeref,
	}
	if pinned && r.Intn(3) > 0 {
		kinds = []int{api.OpDeref, api.OpDeref, api.OpPeek, api.OpPeek, api.OpWrite}
	}
	o := api.Op{Kind: kinds[r.Intn(len(kinds))]}
	switch o.Kind {
	case api.OpAlloc:
		o.X = api.Word(r.Intn(1000)) * 10
	case api.OpWrite:
		o.X = api.Word(r.Intn(1000)) * 10
		fallthrough
	case api.OpFree, api.OpDeref:
		if r.Intn(3) == 0 {
			o.T = pack.Ticket(r.Intn(c.Entries+1), api.Word(r.Intn(4)))
		} else {
			o.Use, o.By, o.Nth = true, w, max(0, allocs/3-r.Intn(3))
		}
		if o.Use && r.Intn(3) == 0 {
			o.By = r.Intn(c.Workers)
		}
	case api.OpDrain:
		o.Slab = r.Intn(c.Slabs + 1)
	}
	return o
}

// schedule returns picks in bursts, so that workers stop in the middle of operations for long.
func schedule(r *rand.Rand, c api.Config, n int) []int {
	var l []int
	for len(l) < n {
		w := r.Intn(c.Workers)
		for range 1 + r.Intn(1+r.Intn(20)) {
			l = append(l, w)
		}
	}
	return l[:n]
}

// run is an execution with its memory and its workers after each number of picks.
type run struct {
	c        api.Config
	plan     plan.Plan
	programs [][]api.Op
	h        *hall.Hall
	words    [][]api.Word
	states   [][]api.Work
	events   []api.Event
}

// save keeps the memory and the workers as they are.
func (x *run) save() {
	var l []api.Work
	for w := range x.c.Workers {
		l = append(l, x.h.Work(w))
	}
	x.states = append(x.states, l)
	x.words = append(x.words, x.h.Words())
}

// random returns executions. The check that uses them is to fail where it finds too little to look at.
func random(t *testing.T, seed int64, runs, picks int) []*run {
	t.Helper()
	r := rand.New(rand.NewSource(seed))
	var all []*run
	for range runs {
		c := randomConfig(r)
		programs := randomPrograms(r, c)
		h, e := hall.New(c, programs)
		if e != api.OK {
			t.Fatal(e)
		}
		x := &run{c: c, plan: plan.Plan{Config: c}, programs: programs, h: h}
		x.save()
		for _, w := range schedule(r, c, picks) {
			h.Pick(w)
			x.save()
		}
		x.events = h.Events()
		all = append(all, x)
	}
	return all
}

// P2: each step is one access, which found the memory as it was and explains its change; nothing else changes the memory.
func TestOneAccess(t *testing.T) {
	for _, x := range random(t, 1, 60, 1000) {
		words := plan.First(x.c)
		tick := 0
		for _, e := range x.events {
			for ; tick < e.Tick; tick++ {
				if !slices.Equal(words, x.words[tick]) {
					t.Fatalf("the events do not explain the memory after %d picks", tick)
				}
			}
			a := e.Access
			if (e.Kind == api.EStep) != (a.Kind != 0) || a.Kind != 0 && a.Old != words[a.At] {
				t.Fatalf("the access of %+v", e)
			}
			switch {
			case a.Kind == api.AStore:
				words[a.At] = a.X
			case a.Kind == api.AAdd:
				words[a.At] += a.X
			case a.Kind == api.ACas && a.Old == a.X:
				words[a.At] = a.Y
			}
		}
		if !slices.Equal(words, x.h.Words()) {
			t.Fatal("the events do not explain the memory at the end")
		}
	}
}

// P2, P6.3, P10.2, P11.3: after each pick every entry is at one place, and every block of a slab in use at one place or parked.
func TestOwnership(t *testing.T) {
	parked := 0
	for _, x := range random(t, 2, 80, 1000) {
		for tick := range x.words {
			parked += checkPlaces(t, x, tick)
			if t.Failed() {
				t.Fatalf("configuration %+v, after %d picks", x.c, tick)
			}
		}
	}
	if parked < 1000 {
		t.Errorf("only %d parked blocks", parked)
	}
}

// checkPlaces looks for all blocks and entries, and returns how many blocks are parked.
func checkPlaces(t *testing.T, x *run, tick int) int {
	t.Helper()
	words := x.words[tick]
	blocks, entries := places(t, x, words, x.states[tick])
	for i, n := range entries {
		if n != 1 {
			t.Errorf("entry %d is at %d places", i, n)
		}
	}
	parked := 0
	for s := range x.c.Slabs {
		state, lost := slab.State(x.c, words, s), 0
		unused := state == api.Raw || state == api.Empty
		for b := s * x.c.Blocks; b < (s+1)*x.c.Blocks; b++ {
			if blocks[b] > 1 || unused && blocks[b] > 0 {
				t.Errorf("block %d of a slab in state %d is at %d places", b, state, blocks[b])
			}
			if blocks[b] == 0 && !unused {
				lost++
			}
		}
		if lost != slab.Parked(x.c, words, s) {
			t.Errorf("slab %d: %d blocks without a place, %d parked", s, lost, slab.Parked(x.c, words, s))
		}
		parked += lost
	}
	return parked
}

// places counts the places of each block and of each entry.
func places(t *testing.T, x *run, words []api.Word, states []api.Work) (blocks, entries []int) {
	t.Helper()
	blocks, entries = make([]int, x.plan.Total()), make([]int, x.c.Entries)
	free, ok := stack.List(x.c, words, false)
	freeEntries, ok2 := stack.List(x.c, words, true)
	if !ok || !ok2 {
		t.Error("a free list is no list")
	}
	count(blocks, 0, free...)
	count(entries, 0, freeEntries...)
	for i := range x.c.Entries {
		_, block, state := pack.Unentry(words[x.plan.Entry(i)])
		if state == api.Live || state == api.Out {
			count(entries, 0, i)
		}
		if state == api.Live {
			count(blocks, 0, block)
		}
	}
	for _, s := range states {
		count(blocks, 0, s.Rack...)
		count(blocks, 0, s.Bags[0].L...)
		count(blocks, 0, s.Bags[1].L...)
		count(blocks, 0, s.Bags[2].L...)
		count(blocks, 1, s.B)
		count(blocks, 0, give.Owes(s)...)
		count(entries, 1, s.I)
	}
	return blocks, entries
}

// count counts elements that are given as their index plus base; 0 is none then.
func count(l []int, base int, elements ...int) {
	for _, e := range elements {
		if e-base >= 0 {
			l[e-base]++
		}
	}
}

// P2: no step writes a payload that a worker is reading, or touches a block of a slab that is out.
func TestMemorySafety(t *testing.T) {
	writes, reading, outs := 0, 0, 0
	for _, x := range random(t, 3, 120, 2000) {
		for _, e := range x.events {
			block, payload, ok := touched(x, e)
			words, states := x.words[e.Tick-1], x.states[e.Tick-1]
			if e.Kind == api.EStep && slab.Gone(x.c, words, 0) {
				outs++
			}
			if ok && slab.Gone(x.c, words, x.plan.Home(block)) {
				t.Fatalf("%+v touches block %d, which is out", e, block)
			}
			if !payload || e.Access.Kind != api.AStore {
				continue
			}
			writes++
			for w, s := range states {
				if s.Line == 61 || s.Pinned && s.Borrow != 0 {
					reading++
				}
				if s.Line == 61 && s.C == block+1 || s.Pinned && s.Borrow == block+1 {
					t.Fatalf("%+v writes block %d, which worker %d is reading", e, block, w)
				}
			}
		}
	}
	if writes < 1000 || reading < 200 || outs < 1000 {
		t.Errorf("only %d writes, %d readers meanwhile, slab 0 out at %d steps", writes, reading, outs)
	}
}

// touched returns the block that a step accesses, and whether it is a payload word.
func touched(x *run, e api.Event) (block int, payload, ok bool) {
	if e.Kind != api.EStep {
		return 0, false, false
	}
	for b := range x.plan.Total() {
		if at := e.Access.At - x.plan.BlockLink(b); at >= 0 && at <= x.c.Words {
			return b, at > 0, true
		}
	}
	return 0, false, false
}

// P2: every execution is linearizable, and so is each that ends earlier.
func TestLinearizable(t *testing.T) {
	rets := map[api.Errno]int{}
	for _, x := range random(t, 4, 120, 2000) {
		for _, l := range [][]api.Event{x.events, x.events[:len(x.events)/2], x.events[:len(x.events)/3]} {
			answers := order.Of(l)
			if n := order.Fits(x.c.Words, l); n != len(answers) {
				t.Fatalf("answer %d is not allowed: %+v, configuration %+v", n, answers[n], x.c)
			}
			if !order.Whole(l) || !order.Keeps(l) {
				t.Fatalf("whole %v, keeps %v, configuration %+v", order.Whole(l), order.Keeps(l), x.c)
			}
			for _, a := range answers {
				rets[a.Ret]++
			}
		}
	}
	for _, ret := range []api.Errno{api.OK, api.ErrFull, api.ErrBusy, api.ErrStale, api.ErrBad, api.ErrState} {
		if rets[ret] < 100 {
			t.Errorf("only %d answers with %d", rets[ret], ret)
		}
	}
}

// P2: what a Deref or a Peek reads is the payload of one number, and a Peek reads what the Deref before it read.
func TestReadsAreWhole(t *testing.T) {
	reads, peeks := 0, 0
	for _, x := range random(t, 5, 120, 2000) {
		last := make([][]api.Word, x.c.Workers)
		for _, e := range x.events {
			a := e.Answer
			if e.Kind != api.EReturn || a.Ret != api.OK || a.Op.Kind != api.OpDeref && a.Op.Kind != api.OpPeek {
				continue
			}
			reads++
			if a.Op.Kind == api.OpPeek {
				peeks++
				if !slices.Equal(a.Read, last[e.Worker]) {
					t.Fatalf("a Peek read %v, the Deref before it %v", a.Read, last[e.Worker])
				}
			}
			last[e.Worker] = a.Read
			if len(a.Read) != x.c.Words || a.Read[0]%10 != 0 {
				t.Fatalf("%+v", a)
			}
			for i, w := range a.Read {
				if w != a.Read[0]+api.Word(i) {
					t.Fatalf("%+v", a)
				}
			}
		}
	}
	if reads < 300 || peeks < 30 {
		t.Errorf("only %d reads, %d of them by Peek", reads, peeks)
	}
}

// id is an operation of a run.
type id struct{ worker, n int }

// P15.3: each operation has one call, then at most one point, then at most one return, never a return without a point, in program order.
func TestCallPointReturn(t *testing.T) {
	for _, x := range random(t, 6, 60, 1000) {
		stage := map[id]int{}
		next := make([]int, x.c.Workers)
		for _, e := range x.events {
			op := id{e.Worker, e.N}
			want := map[int]int{api.ECall: 0, api.EStep: api.ECall, api.EPoint: api.ECall, api.EReturn: api.EPoint}[e.Kind]
			if got := stage[op]; got != want && (e.Kind != api.EStep || got != api.EPoint) {
				t.Fatalf("%+v comes after %d", e, got)
			}
			if e.Kind != api.EStep {
				stage[op] = e.Kind
			}
			if e.Kind == api.ECall {
				if e.N != next[e.Worker] || e.N > 0 && stage[id{e.Worker, e.N - 1}] != api.EReturn {
					t.Fatalf("operation %d of worker %d out of order", e.N, e.Worker)
				}
				next[e.Worker]++
			}
			if e.Answer.Op != x.programs[e.Worker][e.N] {
				t.Fatalf("operation %d of worker %d is %+v", e.N, e.Worker, e.Answer.Op)
			}
		}
		for w, n := range next {
			if x.h.Left(w) != len(x.programs[w])-n {
				t.Fatalf("worker %d started %d of %d, %d left", w, n, len(x.programs[w]), x.h.Left(w))
			}
		}
	}
}

// P7.3: while a worker is inside, the global epoch is the one that it announced, or one greater.
func TestEpochStaysNear(t *testing.T) {
	ahead := 0
	for _, x := range random(t, 7, 80, 1000) {
		inside := make([]bool, x.c.Workers)
		for _, e := range x.events {
			if e.Kind != api.EStep {
				continue
			}
			words := x.words[e.Tick]
			switch e.Line {
			case 90:
				inside[e.Worker] = false
			case 3:
				inside[e.Worker] = x.states[e.Tick][e.Worker].Line != 2
			}
			now := words[plan.AtEpoch]
			for w, in := range inside {
				announced, active := epoch.Inside(x.c, words, w)
				if in && (!active || now != announced && now != announced+1) {
					t.Fatalf("epoch %d, worker %d announces %d, %v", now, w, announced, active)
				}
				if in && now == announced+1 {
					ahead++
				}
			}
		}
	}
	if ahead < 1000 {
		t.Errorf("only %d steps with the epoch ahead", ahead)
	}
}

// P5.3: no block leaves a bucket before its third epoch.
func TestBlocksWaitThreeEpochs(t *testing.T) {
	released := 0
	for _, x := range random(t, 8, 100, 1000) {
		put := make([]api.Word, x.plan.Total())
		for _, e := range x.events {
			before, after := x.states[e.Tick-1][e.Worker], x.states[e.Tick][e.Worker]
			if e.Kind != api.EStep {
				continue
			}
			for b := range put {
				was, is := bag.Waits(before, b), bag.Waits(after, b)
				if !was && is {
					put[b] = after.E
				}
				if was && !is {
					released++
					if now := x.words[e.Tick-1][plan.AtEpoch]; now < put[b]+3 {
						t.Fatalf("block %d was put at %d and released at %d", b, put[b], now)
					}
				}
			}
		}
	}
	if released < 200 {
		t.Errorf("only %d blocks were released", released)
	}
}

// P11.3: a ticket that is not live any more never becomes live again.
func TestTicketsNeverComeBack(t *testing.T) {
	died := 0
	for _, x := range random(t, 9, 40, 2000) {
		dead := map[api.Word]bool{}
		for tick := 1; tick < len(x.words); tick++ {
			for i := range x.c.Entries {
				for gen := api.Word(1); gen <= min(x.c.Last, 10); gen++ {
					ticket := pack.Ticket(i, gen)
					_, was := entry.Live(x.c, x.words[tick-1], ticket)
					_, is := entry.Live(x.c, x.words[tick], ticket)
					if was && !is {
						dead[ticket] = true
						died++
					}
					if is && dead[ticket] {
						t.Fatalf("ticket %d is live again", ticket)
					}
				}
			}
		}
	}
	if died < 100 {
		t.Errorf("only %d tickets died", died)
	}
}
