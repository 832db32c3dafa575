package out

import (
	"fmt"
	"math/rand"
	"slices"
	"testing"

	"coatcheck/api"
	"coatcheck/hall"
	"coatcheck/slab"
)

var (
	pin     = api.Op{Kind: api.OpPin}
	unpin   = api.Op{Kind: api.OpUnpin}
	peek    = api.Op{Kind: api.OpPeek}
	collect = api.Op{Kind: api.OpCollect}
	drain   = api.Op{Kind: api.OpDrain}
	alloc   = api.Op{Kind: api.OpAlloc, X: 7}
	free    = api.Op{Kind: api.OpFree, Use: true}
	write   = api.Op{Kind: api.OpWrite, Use: true, X: 9}
	deref   = api.Op{Kind: api.OpDeref, Use: true}
)

// watch executes a hall and keeps the memory before each pick by its tick.
type watch struct {
	t      *testing.T
	c      api.Config
	h      *hall.Hall
	before map[int][]api.Word
}

func newWatch(t *testing.T, c api.Config, programs ...[]api.Op) *watch {
	t.Helper()
	h, e := hall.New(c, programs)
	if e != api.OK {
		t.Fatal(e)
	}
	return &watch{t, c, h, map[int][]api.Word{}}
}

func (x *watch) pick(w int) {
	x.before[x.h.Tick()+1] = x.h.Words()
	x.h.Pick(w)
}

// tally counts the events that touch a block, those of them while a slab is out, and the slabs that were out and are claimed again.
type tally struct{ touches, meanwhile, reclaims int }

func (s *tally) add(o tally) {
	s.touches += o.touches
	s.meanwhile += o.meanwhile
	s.reclaims += o.reclaims
}

// check fails at an event that is not clean.
func (x *watch) check() tally {
	x.t.Helper()
	var sum tally
	for _, e := range x.h.Events() {
		before, ok := x.before[e.Tick]
		if !ok {
			continue
		}
		outs := Outs(x.c, before)
		if !Clean(x.c, before, e) {
			x.t.Fatalf("%+v: %+v touches a slab of %v, which are out", x.c, e, outs)
		}
		if _, ok := Touched(x.c, e); ok {
			sum.touches++
			sum.meanwhile += min(len(outs), 1)
		}
		if e.Kind == api.EStep && e.Line == 34 && e.Access.Old == e.Access.X && e.Access.X != 0 {
			sum.reclaims++
		}
	}
	return sum
}

// finish picks a worker until it has completed its operation and so many more.
func (x *watch) finish(w, operations int) {
	x.t.Helper()
	left := x.h.Left(w) - operations
	if left < 0 {
		x.t.Fatalf("worker %d has %d operations left, not %d", w, left+operations, operations)
	}
	for x.h.Left(w) > left || x.h.Work(w).Line != 0 {
		x.pick(w)
	}
}

// until picks a worker until it is at a line.
func (x *watch) until(w, line int) {
	x.t.Helper()
	for n := 0; x.h.Work(w).Line != line; n++ {
		if n > 100 {
			x.t.Fatalf("worker %d does not reach line %d", w, line)
		}
		x.pick(w)
	}
}

// expect fails unless these slabs are draining and out.
func (x *watch) expect(when string, drainings, outs []int) {
	x.t.Helper()
	words := x.h.Words()
	if d, o := Draining(x.c, words), Outs(x.c, words); !slices.Equal(d, drainings) || !slices.Equal(o, outs) {
		x.t.Errorf("%s: draining %v, out %v, not %v and %v", when, d, o, drainings, outs)
	}
}

// P19.1, P19.2: the chapter's example, until the slab is claimed again.
func TestExample(t *testing.T) {
	c := api.Config{Workers: 1, Slabs: 1, Blocks: 2, Words: 1, Entries: 2, Rack: 1, Bag: 1, Last: 9}
	x := newWatch(t, c, []api.Op{alloc, drain, free, alloc, collect, collect, collect, collect, collect, alloc})
	one := []int{0}
	x.expect("at first", nil, nil)
	x.finish(0, 1)
	x.expect("after an alloc", nil, nil)
	x.finish(0, 1)
	x.expect("after a drain", one, nil)
	x.finish(0, 2)
	x.expect("with one block in a bucket", one, nil)
	x.finish(0, 2)
	x.expect("before the block is ripe", one, nil)
	x.finish(0, 1)
	x.expect("with both blocks parked", nil, nil)
	x.finish(0, 1)
	x.expect("an epoch later", nil, nil)
	x.finish(0, 1)
	x.expect("two epochs later", nil, one)
	x.finish(0, 1)
	x.expect("claimed again", nil, nil)
	if sum := x.check(); sum.touches == 0 || sum.reclaims != 1 || len(x.h.Told(0)) != 2 {
		t.Errorf("%+v, tickets %v", sum, x.h.Told(0))
	}
}

// P19.2: a worker that is about to pop a block keeps its slab from being out. As soon as it has left its critical section, the slab may be.
func TestPopHoldsTheSlab(t *testing.T) {
	c := api.Config{Workers: 2, Slabs: 1, Blocks: 1, Words: 1, Entries: 2, Rack: 0, Bag: 1, Last: 9}
	before := []api.Op{alloc, free, collect, collect, collect}
	x := newWatch(t, c, slices.Concat(before, []api.Op{drain, alloc}, slices.Repeat([]api.Op{collect}, 12)), []api.Op{alloc})
	x.finish(0, len(before))
	x.until(1, 11)
	if h := x.h.Work(1).H; h != 1 {
		t.Fatalf("worker 1 is to pop block %d", int(h)-1)
	}
	x.finish(0, 2)
	if state := slab.State(c, x.h.Words(), 0); state != api.Empty {
		t.Fatalf("the slab is in state %d", state)
	}
	x.finish(0, 6)
	x.expect("while worker 1 is inside", nil, nil)
	touches := x.check().touches
	x.pick(1)
	if x.check().touches != touches+1 {
		t.Error("worker 1 did not touch the block")
	}
	x.finish(1, 0)
	x.finish(0, 6)
	x.expect("after worker 1 left", nil, []int{0})
	x.check()
}

// P19.2: a pinned worker that borrows a block keeps its slab from being out.
func TestBorrowHoldsTheSlab(t *testing.T) {
	c := api.Config{Workers: 2, Slabs: 1, Blocks: 1, Words: 2, Entries: 1, Rack: 0, Bag: 1, Last: 9}
	program := slices.Concat([]api.Op{alloc, drain, free}, slices.Repeat([]api.Op{collect}, 16))
	x := newWatch(t, c, program, []api.Op{pin, deref, peek, peek, unpin})
	x.finish(0, 2)
	x.finish(1, 3)
	x.finish(0, 9)
	x.expect("while worker 1 is pinned", []int{0}, nil)
	touches := x.check().touches
	x.finish(1, 1)
	if n := x.check().touches - touches; n != c.Words {
		t.Errorf("a Peek touched %d times", n)
	}
	x.finish(1, 1)
	x.finish(0, 8)
	x.expect("after worker 1 unpinned", nil, []int{0})
	x.check()
}

// P19.2: a worker that stores an old epoch as the tag of an empty slab lets it be out at once, and nothing touches it then.
func TestLateTag(t *testing.T) {
	c := api.Config{Workers: 2, Slabs: 1, Blocks: 1, Words: 1, Entries: 1, Rack: 0, Bag: 1, Last: 9}
	x := newWatch(t, c, []api.Op{alloc, drain, free, collect, collect, collect}, []api.Op{collect, collect, collect, alloc, deref})
	x.finish(0, 5)
	x.until(0, 32)
	x.finish(1, 3)
	x.expect("before the tag is stored", []int{0}, nil)
	x.finish(0, 0)
	x.expect("after it", nil, []int{0})
	x.finish(1, 2)
	x.expect("claimed again", nil, nil)
	if sum := x.check(); sum.reclaims != 1 {
		t.Errorf("%+v", sum)
	}
}

// randomConfig returns a configuration of few blocks and several slabs.
func randomConfig(r *rand.Rand) api.Config {
	return api.Config{
		Workers: 2 + r.Intn(3), Slabs: 1 + r.Intn(4), Blocks: 1 + r.Intn(3), Words: 1 + r.Intn(3), Entries: 2 + r.Intn(5),
		Rack: r.Intn(2), Bag: 1 + r.Intn(3), Last: 1000,
	}
}

// randomProgram returns operations of a worker, which drain slabs and collect all the time. Few workers pin, because a pinned one holds all slabs back.
func randomProgram(r *rand.Rand, c api.Config, w int) []api.Op {
	ops := []api.Op{alloc, alloc, alloc, alloc, free, free, free, write, write, deref, drain, drain, collect, collect, collect, collect, collect}
	if r.Intn(4) == 0 {
		ops = append(ops, pin, peek, unpin, unpin, unpin)
	}
	var l []api.Op
	allocs := 0
	for range api.MaxOps {
		o := ops[r.Intn(len(ops))]
		switch {
		case o.Kind == api.OpAlloc:
			allocs++
		case o.Kind == api.OpDrain:
			o.Slab = r.Intn(c.Slabs)
		case o.Use:
			o.By, o.Nth = w, max(0, allocs/2-r.Intn(3))
		}
		l = append(l, o)
	}
	return l
}

// P2, P19.2: every event of random executions is clean, though slabs are out and claimed again all the time.
func TestEventsAreClean(t *testing.T) {
	r := rand.New(rand.NewSource(3))
	var sum tally
	for range 100 {
		c := randomConfig(r)
		var programs [][]api.Op
		for w := range c.Workers {
			programs = append(programs, randomProgram(r, c, w))
		}
		x := newWatch(t, c, programs...)
		for x.h.Tick() < 4000 {
			w := r.Intn(c.Workers)
			for range 1 + r.Intn(1+r.Intn(40)) {
				x.pick(w)
			}
		}
		sum.add(x.check())
	}
	if sum.touches < 5000 || sum.meanwhile < 1000 || sum.reclaims < 200 {
		t.Errorf("too little happened: %+v", sum)
	}
}

// P2, P19.2: every event of every schedule of a worker that drains slabs and of one that uses them.
func TestCleanUnderEverySchedule(t *testing.T) {
	one := api.Config{Workers: 2, Slabs: 1, Blocks: 1, Words: 1, Entries: 1, Rack: 0, Bag: 1, Last: 9}
	two := api.Config{Workers: 2, Slabs: 2, Blocks: 1, Words: 1, Entries: 2, Rack: 1, Bag: 1, Last: 9}
	freed := []api.Op{alloc, free, collect, collect, collect} // the block is on the free list
	for _, x := range []struct {
		name           string
		c              api.Config
		before         []api.Op // of the drainer, executed alone before
		drainer, other []api.Op
		reclaimed      bool
	}{
		{"a pop of what is drained", one, append(slices.Clone(freed), drain), []api.Op{alloc, collect, collect, collect}, []api.Op{alloc}, true},
		{"a read of what is freed and drained", one, []api.Op{alloc, drain}, []api.Op{free, collect, collect, collect, collect, collect}, []api.Op{deref}, false},
		{"a late tag", one, []api.Op{alloc, drain, free, collect, collect}, []api.Op{collect}, []api.Op{collect, collect, collect, alloc}, true},
		{"both collect", one, []api.Op{alloc, drain, free, collect}, []api.Op{collect, collect, collect}, []api.Op{collect, alloc}, true},
		{"a read of one slab while the other is out", two, []api.Op{alloc, drain, write, collect, collect}, []api.Op{collect, collect, collect}, []api.Op{deref, alloc}, true},
	} {
		t.Run(x.name, func(t *testing.T) {
			sum, states := everySchedule(t, x.c, x.before, x.drainer, x.other)
			if states < 500 || sum.touches == 0 || (sum.reclaims > 0) != x.reclaimed {
				t.Errorf("%d states, %+v", states, sum)
			}
		})
	}
}

// everySchedule visits each state that the drainer, worker 0, and the other worker can reach, by the picks that led to it first. It returns what it came across, and the number of states.
func everySchedule(t *testing.T, c api.Config, before, drainer, other []api.Op) (tally, int) {
	t.Helper()
	var sum tally
	known := map[string]bool{}
	for paths := [][]int{nil}; len(paths) > 0; {
		path := paths[len(paths)-1]
		paths = paths[:len(paths)-1]
		for w := range 2 {
			x := newWatch(t, c, slices.Concat(before, drainer), other)
			x.finish(0, len(before))
			x.h.Run(path...) // these picks were checked when they were the last ones
			x.before = map[int][]api.Word{}
			x.pick(w)
			sum.add(x.check())
			key := fmt.Sprint(x.h.Words(), x.h.Work(0), x.h.Work(1), x.h.Left(0), x.h.Left(1))
			if !known[key] {
				known[key] = true
				paths = append(paths, append(slices.Clone(path), w))
			}
		}
	}
	return sum, len(known)
}
