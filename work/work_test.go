package work

import (
	"math"
	"math/rand"
	"slices"
	"testing"

	"coatcheck/api"
	"coatcheck/entry"
	"coatcheck/memory"
	"coatcheck/pack"
	"coatcheck/plan"
	"coatcheck/rack"
	"coatcheck/slab"
)

var config = api.Config{Workers: 2, Slabs: 2, Blocks: 2, Words: 2, Entries: 2, Rack: 1, Bag: 1, Last: 9}

var layout = plan.Plan{Config: config}

func newMemory(t *testing.T, c api.Config) *memory.Memory {
	t.Helper()
	m, e := memory.New(c)
	if e != api.OK {
		t.Fatal(e)
	}
	return m
}

// run executes an operation of worker 0 and returns the state and the lines that it executed.
func run(t *testing.T, m *memory.Memory, x api.Work, o api.Op, ticket api.Word) (api.Work, []int) {
	t.Helper()
	x = Begin(m.Config, x, o, ticket)
	var lines []int
	for !Idle(x) {
		lines = append(lines, x.Line)
		y, ok := Step(m, 0, x)
		if !ok || len(lines) > 1000 {
			t.Fatalf("after the lines %v", lines)
		}
		x = y
	}
	return x, lines
}

// P13.1: the fields that a start sets, and those that it keeps.
func TestBeginSetsFields(t *testing.T) {
	old := api.Work{
		Line: 61, Op: api.Op{Kind: api.OpDrain, Slab: 4}, Pinned: true, E: 5, Rack: []int{1}, Hold: []int{2}, B: 3, K: 4, I: 5, C: 6, Borrow: 7,
		H: 8, N: 9, V: 10, U: 11, G: 12, J: 13, Read: []api.Word{14}, T: 15, Ret: api.ErrBusy, Give: true,
	}
	old.Bags[1] = api.Bag{Tag: 4, L: []int{0}}
	kept := rack.Copy(old)
	kept.Op, kept.T, kept.Read, kept.Ret, kept.Give = api.Op{}, 0, nil, api.OK, false
	kept.B, kept.K, kept.I, kept.C, kept.J = 0, 0, 0, 0, 0
	good := pack.Ticket(1, 3)
	for _, c := range []struct {
		o      api.Op
		ticket api.Word
		want   func(x *api.Work)
	}{
		{api.Op{Kind: api.OpPeek}, 0, func(x *api.Work) { x.Line = 62 }},
		{api.Op{Kind: api.OpCollect}, 0, func(x *api.Work) { x.Line = 70 }},
		{api.Op{Kind: api.OpAlloc, X: 7}, 0, func(x *api.Work) { x.Line, x.B, x.Rack = 35, 2, nil }},
		{api.Op{Kind: api.OpFree, T: 99}, good, func(x *api.Work) { x.Line = 42 }},
		{api.Op{Kind: api.OpWrite, Use: true}, good, func(x *api.Work) { x.Line = 46 }},
		{api.Op{Kind: api.OpDeref}, good, func(x *api.Work) { x.Line = 60 }},
	} {
		want := rack.Copy(kept)
		want.Op, want.T = c.o, c.ticket
		c.want(&want)
		before := rack.Copy(old)
		if got := Begin(config, old, c.o, good); !rack.Same(got, want) || !rack.Same(old, before) {
			t.Errorf("%+v: %+v, want %+v", c.o, got, want)
		}
	}
}

// P13.1: the first line or the error of each kind.
func TestBegin(t *testing.T) {
	good, bad := pack.Ticket(1, 9), pack.Ticket(2, 1)
	for _, c := range []struct {
		name   string
		x      api.Work
		o      api.Op
		ticket api.Word
		line   int
		ret    api.Errno
	}{
		{"pin", api.Work{}, api.Op{Kind: api.OpPin}, 0, 1, api.OK},
		{"pin, pinned", api.Work{Pinned: true}, api.Op{Kind: api.OpPin}, 0, 0, api.ErrState},
		{"unpin", api.Work{}, api.Op{Kind: api.OpUnpin}, 0, 0, api.ErrState},
		{"unpin, pinned", api.Work{Pinned: true}, api.Op{Kind: api.OpUnpin}, 0, 90, api.OK},
		{"alloc", api.Work{}, api.Op{Kind: api.OpAlloc}, 0, 1, api.OK},
		{"alloc, pinned", api.Work{Pinned: true}, api.Op{Kind: api.OpAlloc}, 0, 10, api.OK},
		{"alloc, pinned with a rack", api.Work{Pinned: true, Rack: []int{3}}, api.Op{Kind: api.OpAlloc}, 0, 35, api.OK},
		{"free", api.Work{}, api.Op{Kind: api.OpFree}, good, 1, api.OK},
		{"free, pinned", api.Work{Pinned: true}, api.Op{Kind: api.OpFree}, good, 42, api.OK},
		{"free of none", api.Work{}, api.Op{Kind: api.OpFree}, 0, 0, api.ErrBad},
		{"free, pinned, of none", api.Work{Pinned: true}, api.Op{Kind: api.OpFree}, bad, 0, api.ErrBad},
		{"write", api.Work{}, api.Op{Kind: api.OpWrite}, good, 1, api.OK},
		{"write, pinned", api.Work{Pinned: true}, api.Op{Kind: api.OpWrite}, good, 46, api.OK},
		{"write of none", api.Work{}, api.Op{Kind: api.OpWrite}, bad, 0, api.ErrBad},
		{"deref", api.Work{}, api.Op{Kind: api.OpDeref}, good, 1, api.OK},
		{"deref, pinned", api.Work{Pinned: true}, api.Op{Kind: api.OpDeref}, good, 60, api.OK},
		{"deref of a late generation", api.Work{}, api.Op{Kind: api.OpDeref}, pack.Ticket(1, 10), 0, api.ErrBad},
		{"peek", api.Work{Borrow: 1}, api.Op{Kind: api.OpPeek}, 0, 0, api.ErrState},
		{"peek, pinned", api.Work{Pinned: true}, api.Op{Kind: api.OpPeek}, 0, 0, api.ErrState},
		{"peek, pinned, borrowed", api.Work{Pinned: true, Borrow: 1}, api.Op{Kind: api.OpPeek}, 0, 62, api.OK},
		{"collect", api.Work{}, api.Op{Kind: api.OpCollect}, 0, 70, api.OK},
		{"collect, pinned", api.Work{Pinned: true}, api.Op{Kind: api.OpCollect}, 0, 70, api.OK},
		{"drain 0", api.Work{}, api.Op{Kind: api.OpDrain}, 0, 36, api.OK},
		{"drain 1, pinned", api.Work{Pinned: true}, api.Op{Kind: api.OpDrain, Slab: 1}, 0, 36, api.OK},
		{"drain 2", api.Work{}, api.Op{Kind: api.OpDrain, Slab: 2}, 0, 0, api.ErrBad},
		{"drain -1", api.Work{}, api.Op{Kind: api.OpDrain, Slab: -1}, 0, 0, api.ErrBad},
		{"drain far out", api.Work{}, api.Op{Kind: api.OpDrain, Slab: math.MaxInt}, 0, 0, api.ErrBad},
		{"no kind", api.Work{Line: 5}, api.Op{}, 0, 0, api.ErrForm},
		{"kind 10", api.Work{Line: 5}, api.Op{Kind: 10}, 0, 0, api.ErrForm},
		{"kind -1", api.Work{Line: 5}, api.Op{Kind: -1}, 0, 0, api.ErrForm},
	} {
		got := Begin(config, c.x, c.o, c.ticket)
		if got.Line != c.line || got.Ret != c.ret || got.Op != c.o || Idle(got) != (c.line == 0) {
			t.Errorf("%s: line %d, %d, want %d, %d", c.name, got.Line, got.Ret, c.line, c.ret)
		}
	}
}

// P13.1: with a configuration that is not valid no ticket is good and no slab exists.
func TestBeginWithAnInvalidConfiguration(t *testing.T) {
	if got := Begin(api.Config{}, api.Work{}, api.Op{Kind: api.OpFree}, 65537); got.Ret != api.ErrBad || got.Line != 0 {
		t.Errorf("%+v", got)
	}
	if got := Begin(api.Config{}, api.Work{}, api.Op{Kind: api.OpDrain}, 0); got.Ret != api.ErrBad || got.Line != 0 {
		t.Errorf("%+v", got)
	}
}

// P13.1: operations without a ticket operand have the ticket 0.
func TestBeginTicket(t *testing.T) {
	for kind := range 12 {
		want := api.Word(0)
		if kind == api.OpFree || kind == api.OpWrite || kind == api.OpDeref {
			want = 77
		}
		if got := Begin(config, api.Work{T: 5}, api.Op{Kind: kind, T: 99}, 77); got.T != want {
			t.Errorf("kind %d: ticket %d", kind, got.T)
		}
	}
}

// P13.1: Idle by the line.
func TestIdle(t *testing.T) {
	for line, want := range map[int]bool{0: true, 1: false, -1: false, 90: false, math.MaxInt: false} {
		if Idle(api.Work{Line: line, K: 3}) != want {
			t.Errorf("line %d: %v", line, !want)
		}
	}
}

// scene is a memory at epoch 9 with both slabs active, entry 1 live with block 2 at generation 4, and the free list empty at version 5.
func scene(t *testing.T) *memory.Memory {
	t.Helper()
	m := newMemory(t, config)
	m.Store(plan.AtEpoch, 9)
	m.Store(plan.AtBlocks, pack.Head(-1, 5))
	m.Store(layout.Slab(0), pack.Slab(api.Active, 0, 0))
	m.Store(layout.Slab(1), pack.Slab(api.Active, 0, 0))
	m.Store(layout.Entry(1), live)
	m.Store(layout.Word(2, 0), 70)
	m.Store(layout.Word(2, 1), 71)
	m.Clear()
	return m
}

var (
	live   = pack.Entry(4, 2, api.Live)
	ticket = pack.Ticket(1, 4)
)

// row is a step in the scene.
type row struct {
	name    string
	x, want api.Work
}

// checkRows executes each row in a scene of its own, which a spoiler may change.
func checkRows(t *testing.T, spoil func(m *memory.Memory), rows ...row) {
	t.Helper()
	for _, c := range rows {
		m := scene(t)
		if spoil != nil {
			spoil(m)
		}
		keep := rack.Copy(c.x)
		got, ok := Step(m, 0, c.x)
		if !ok || !rack.Same(got, c.want) || !rack.Same(c.x, keep) {
			t.Errorf("%s: %+v, %v, want %+v", c.name, got, ok, c.want)
		}
	}
}

func op(kind int) api.Op { return api.Op{Kind: kind, X: 30} }

// P13.1: lines 1 to 3 lead to the body, or pin; line 90 leaves.
func TestEpochLines(t *testing.T) {
	pin, unpin, alloc, free, write, deref := op(api.OpPin), op(api.OpUnpin), op(api.OpAlloc), op(api.OpFree), op(api.OpWrite), op(api.OpDeref)
	checkRows(t, nil,
		row{"load", api.Work{Line: 1, Op: alloc}, api.Work{Line: 2, Op: alloc, E: 9}},
		row{"announce", api.Work{Line: 2, Op: alloc, E: 9}, api.Work{Line: 3, Op: alloc, E: 9}},
		row{"too late", api.Work{Line: 3, Op: pin, E: 8}, api.Work{Line: 2, Op: pin, E: 9}},
		row{"pinned", api.Work{Line: 3, Op: pin, E: 9, Borrow: 4}, api.Work{Op: pin, E: 9, Pinned: true}},
		row{"alloc", api.Work{Line: 3, Op: alloc, E: 9}, api.Work{Line: 10, Op: alloc, E: 9}},
		row{"alloc with a rack", api.Work{Line: 3, Op: alloc, E: 9, Rack: []int{3}}, api.Work{Line: 35, Op: alloc, E: 9, B: 4}},
		row{"free", api.Work{Line: 3, Op: free, E: 9}, api.Work{Line: 42, Op: free, E: 9}},
		row{"write", api.Work{Line: 3, Op: write, E: 9}, api.Work{Line: 46, Op: write, E: 9}},
		row{"deref", api.Work{Line: 3, Op: deref, E: 9}, api.Work{Line: 60, Op: deref, E: 9}},
		row{"another kind", api.Work{Line: 3, E: 9}, api.Work{Line: 10, E: 9}},
		row{"unpin", api.Work{Line: 90, Op: unpin, E: 9, Pinned: true, Borrow: 3}, api.Work{Op: unpin, E: 9}},
		row{"leave", api.Work{Line: 90, Op: deref, E: 9, Borrow: 3, Ret: api.ErrStale}, api.Work{Op: deref, E: 9, Borrow: 3, Ret: api.ErrStale}},
	)
}

// P13.1: lines 70 to 73 of a Collect.
func TestCollectLines(t *testing.T) {
	collect := op(api.OpCollect)
	bags := [3]api.Bag{{Tag: 6, L: []int{0}}, {Tag: 7, L: []int{1, 3}}, {Tag: 8, L: []int{2}}}
	left := [3]api.Bag{2: {Tag: 8, L: []int{2}}}
	checkRows(t, nil,
		row{"load", api.Work{Line: 70, Op: collect, J: 3}, api.Work{Line: 71, Op: collect, V: 9}},
		row{"ask", api.Work{Line: 71, Op: collect, V: 9}, api.Work{Line: 71, Op: collect, V: 9, J: 1}},
		row{"advance", api.Work{Line: 72, Op: collect, V: 9}, api.Work{Line: 73, Op: collect, V: 9}},
		row{"advance fails", api.Work{Line: 72, Op: collect, V: 8}, api.Work{Line: 73, Op: collect, V: 8}},
		row{"nothing is ripe", api.Work{Line: 73, Op: collect, E: 3, V: 8}, api.Work{Op: collect, E: 3, V: 8}},
		row{"ripe", api.Work{Line: 73, Op: collect, Bags: bags}, api.Work{Line: 39, Op: collect, Bags: left, K: 1, Hold: []int{1, 3}, Give: true}},
		row{"held before", api.Work{Line: 73, Op: collect, Hold: []int{2}}, api.Work{Line: 39, Op: collect, K: 3, Give: true}},
	)
	checkRows(t, func(m *memory.Memory) { m.Store(layout.Announce(0), pack.Announce(8, true)) },
		row{"an older epoch", api.Work{Line: 71, Op: collect, V: 9}, api.Work{Line: 73, Op: collect, V: 9}})
}

// P13.1: line 73 loads the epoch and announces nothing.
func TestCollectLoadsTheEpoch(t *testing.T) {
	m := scene(t)
	words := m.All()
	Step(m, 0, api.Work{Line: 73})
	if m.Seen != (api.Access{Kind: api.ALoad, At: plan.AtEpoch, Old: 9}) || !slices.Equal(words, m.All()) {
		t.Errorf("seen %+v", m.Seen)
	}
}

// P13.1: lines 36 and 37 of a Drain.
func TestDrainLines(t *testing.T) {
	drain := api.Op{Kind: api.OpDrain, Slab: 1}
	active := pack.Slab(api.Active, 0, 0)
	checkRows(t, nil,
		row{"load", api.Work{Line: 36, Op: drain}, api.Work{Line: 37, Op: drain, V: active}},
		row{"drain", api.Work{Line: 37, Op: drain, V: active, Ret: api.ErrBad}, api.Work{Op: drain, V: active}},
		row{"drain fails", api.Work{Line: 37, Op: drain, V: 99}, api.Work{Line: 36, Op: drain, V: 99}},
	)
	checkRows(t, func(m *memory.Memory) { m.Store(layout.Slab(1), 0) },
		row{"not active", api.Work{Line: 36, Op: drain}, api.Work{Op: drain, Ret: api.ErrState}})
}

// P13.1: the lines of taking, when Give is not set.
func TestTakeLines(t *testing.T) {
	alloc, write := op(api.OpAlloc), op(api.OpWrite)
	active := pack.Slab(api.Active, 0, 0)
	checkRows(t, nil,
		row{"nothing free", api.Work{Line: 10, Op: alloc, J: 4}, api.Work{Line: 33, Op: alloc, V: 5 << 32, U: 5}},
		row{"keep", api.Work{Line: 35, Op: alloc, B: 4, J: 7}, api.Work{Line: 50, Op: alloc, B: 4}},
		row{"next slab", api.Work{Line: 33, Op: alloc}, api.Work{Line: 33, Op: alloc, J: 1, V: active}},
		row{"last slab", api.Work{Line: 33, Op: alloc, J: 1}, api.Work{Line: 38, Op: alloc, J: 2, V: active}},
		row{"none", api.Work{Line: 38, Op: alloc, U: 5}, api.Work{Line: 90, Op: alloc, U: 5, Ret: api.ErrFull}},
		row{"none, pinned", api.Work{Line: 38, Op: alloc, U: 5, Pinned: true}, api.Work{Op: alloc, U: 5, Ret: api.ErrFull, Pinned: true}},
		row{"none for a write", api.Work{Line: 38, Op: write, U: 5, C: 3}, api.Work{Line: 90, Op: write, U: 5, Ret: api.ErrFull}},
		row{"none, with a hold list", api.Work{Line: 38, Op: alloc, U: 5, Hold: []int{3, 1}}, api.Work{Line: 39, Op: alloc, U: 5, K: 4, Hold: []int{1}, Ret: api.ErrFull, Give: true}},
		row{"again", api.Work{Line: 38, Op: alloc, U: 4}, api.Work{Line: 10, Op: alloc, U: 4}},
	)
	draining := pack.Slab(api.Draining, 0, 0)
	checkRows(t, func(m *memory.Memory) { m.Store(layout.Slab(1), draining) },
		row{"to be parked", api.Work{Line: 35, Op: alloc, B: 4}, api.Work{Line: 30, Op: alloc, K: 4}},
		row{"parked", api.Work{Line: 30, Op: alloc, K: 4, Rack: []int{0}}, api.Work{Line: 35, Op: alloc, B: 1}},
		row{"load the epoch", api.Work{Line: 31, Op: alloc, K: 4}, api.Work{Line: 32, Op: alloc, K: 4, V: 9}},
		row{"emptied", api.Work{Line: 32, Op: alloc, K: 4, V: 9}, api.Work{Line: 10, Op: alloc, V: 9}},
	)
	checkRows(t, func(m *memory.Memory) { m.Store(layout.Slab(1), 0) },
		row{"claim", api.Work{Line: 34, Op: alloc, J: 1}, api.Work{Line: 50, Op: alloc, B: 3, Hold: []int{3}}})
}

// P13.1: the lines of releasing, when Give is set.
func TestGiveLines(t *testing.T) {
	alloc, collect := op(api.OpAlloc), op(api.OpCollect)
	checkRows(t, nil,
		row{"into the rack, complete", api.Work{Line: 39, Op: alloc, K: 4, Give: true}, api.Work{Line: 90, Op: alloc, Rack: []int{3}}},
		row{"complete, pinned", api.Work{Line: 39, Op: alloc, K: 4, Give: true, Pinned: true}, api.Work{Op: alloc, Rack: []int{3}, Pinned: true}},
		row{"complete, collect", api.Work{Line: 39, Op: collect, K: 4, Give: true}, api.Work{Op: collect, Rack: []int{3}}},
		row{"into the rack", api.Work{Line: 39, Op: alloc, K: 4, Hold: []int{1}, Give: true}, api.Work{Line: 39, Op: alloc, K: 2, Rack: []int{3}, Give: true}},
		row{"rack full", api.Work{Line: 39, Op: alloc, K: 4, Rack: []int{0}, Give: true}, api.Work{Line: 13, Op: alloc, K: 4, Rack: []int{0}, Give: true}},
		row{"load the head", api.Work{Line: 13, Op: alloc, K: 4, Give: true}, api.Work{Line: 14, Op: alloc, K: 4, V: 5 << 32, Give: true}},
		row{"store the link", api.Work{Line: 14, Op: alloc, K: 4, V: 5 << 32, Give: true}, api.Work{Line: 15, Op: alloc, K: 4, V: 5 << 32, Give: true}},
		row{"push, complete", api.Work{Line: 15, Op: alloc, K: 4, V: 5 << 32, Give: true}, api.Work{Line: 90, Op: alloc, V: 5 << 32}},
		row{"push fails", api.Work{Line: 15, Op: alloc, K: 4, V: 4 << 32, Give: true}, api.Work{Line: 13, Op: alloc, K: 4, V: 4 << 32, Give: true}},
		row{"park, complete", api.Work{Line: 30, Op: collect, K: 4, Give: true}, api.Work{Op: collect}},
		row{"load the epoch", api.Work{Line: 31, Op: collect, K: 4, Give: true}, api.Work{Line: 32, Op: collect, K: 4, V: 9, Give: true}},
		row{"emptied", api.Work{Line: 32, Op: collect, K: 4, V: 9, Hold: []int{0}, Give: true}, api.Work{Line: 39, Op: collect, K: 1, V: 9, Give: true}},
	)
}

// P13.1: line 50 fills the block in hand, with the sum modulo 2^64.
func TestFillLines(t *testing.T) {
	alloc, write := op(api.OpAlloc), op(api.OpWrite)
	checkRows(t, nil,
		row{"first word", api.Work{Line: 50, Op: alloc, B: 1}, api.Work{Line: 50, Op: alloc, B: 1, J: 1}},
		row{"last word", api.Work{Line: 50, Op: alloc, B: 1, J: 1}, api.Work{Line: 20, Op: alloc, B: 1, J: 2}},
		row{"last word of a write", api.Work{Line: 50, Op: write, B: 1, J: 1}, api.Work{Line: 44, Op: write, B: 1, J: 2}},
		row{"beyond the last word", api.Work{Line: 50, Op: write, B: 1, J: 5}, api.Work{Line: 44, Op: write, B: 1, J: 6}},
	)
	for _, c := range []struct {
		b, j int
		x    api.Word
		seen api.Access
	}{
		{1, 0, 30, api.Access{Kind: api.AStore, At: layout.Word(0, 0), X: 30}},
		{3, 1, 30, api.Access{Kind: api.AStore, At: layout.Word(2, 1), X: 31, Old: 71}},
		{1, 1, math.MaxUint64, api.Access{Kind: api.AStore, At: layout.Word(0, 1), X: 0}},
		{0, 0, 30, api.Access{}}, {5, 0, 30, api.Access{}}, {1, 2, 30, api.Access{}}, {1, -1, 30, api.Access{}}, {math.MinInt, math.MaxInt, 30, api.Access{}},
	} {
		m := scene(t)
		words := m.All()
		Step(m, 0, api.Work{Line: 50, Op: api.Op{Kind: api.OpAlloc, X: c.x}, B: c.b, J: c.j})
		if c.seen.Kind != 0 {
			words[c.seen.At] = c.seen.X
		}
		if m.Seen != c.seen || !slices.Equal(words, m.All()) {
			t.Errorf("B %d, J %d: seen %+v", c.b, c.j, m.Seen)
		}
	}
}

// P13.1: the lines that create, find, invalidate and replace.
func TestEntryLines(t *testing.T) {
	alloc, free, write, deref := op(api.OpAlloc), op(api.OpFree), op(api.OpWrite), op(api.OpDeref)
	roomy := [3]api.Bag{1: {Tag: 10}}
	full := [3]api.Bag{1: {Tag: 10, L: []int{0}}}
	checkRows(t, nil,
		row{"load the head", api.Work{Line: 20, Op: alloc, B: 1}, api.Work{Line: 21, Op: alloc, B: 1, H: 1, V: 1}},
		row{"pop", api.Work{Line: 22, Op: alloc, B: 1, H: 1, V: 1, N: 2}, api.Work{Line: 40, Op: alloc, B: 1, H: 1, V: 1, N: 2, I: 1}},
		row{"load the generation", api.Work{Line: 40, Op: alloc, B: 1, I: 1}, api.Work{Line: 41, Op: alloc, B: 1, I: 1, G: 1}},
		row{"create", api.Work{Line: 41, Op: alloc, B: 1, I: 1, G: 1}, api.Work{Line: 90, Op: alloc, G: 1, T: 65537}},
		row{"create, with a hold list", api.Work{Line: 41, Op: alloc, B: 1, I: 1, G: 1, Hold: []int{1}}, api.Work{Line: 39, Op: alloc, G: 1, T: 65537, K: 2, Give: true}},
		row{"create, pinned", api.Work{Line: 41, Op: alloc, B: 1, I: 1, G: 1, Pinned: true}, api.Work{Op: alloc, G: 1, T: 65537, Pinned: true}},
		row{"find to free", api.Work{Line: 42, Op: free, T: ticket, E: 9}, api.Work{Line: 43, Op: free, T: ticket, E: 9, V: live, C: 3, Bags: roomy}},
		row{"find to free, no room", api.Work{Line: 42, Op: free, T: ticket, E: 9, Bags: full}, api.Work{Line: 90, Op: free, T: ticket, E: 9, V: live, Bags: full, Ret: api.ErrBusy}},
		row{"find to free, stale", api.Work{Line: 42, Op: free, T: 65537, E: 9}, api.Work{Line: 90, Op: free, T: 65537, E: 9, Ret: api.ErrStale}},
		row{"free", api.Work{Line: 43, Op: free, T: ticket, E: 9, V: live, C: 3}, api.Work{Line: 23, Op: free, T: ticket, E: 9, V: live, I: 2, Bags: [3]api.Bag{1: {Tag: 10, L: []int{2}}}}},
		row{"free fails", api.Work{Line: 43, Op: free, T: ticket, E: 9, V: 5, C: 3}, api.Work{Line: 42, Op: free, T: ticket, E: 9, V: 5, C: 3}},
		row{"push the entry", api.Work{Line: 25, Op: free, I: 2, V: 1}, api.Work{Line: 90, Op: free, V: 1}},
		row{"push the entry fails", api.Work{Line: 25, Op: free, I: 2, V: 2}, api.Work{Line: 23, Op: free, I: 2, V: 2}},
		row{"find to write", api.Work{Line: 46, Op: write, T: ticket, E: 9, Rack: []int{0}}, api.Work{Line: 35, Op: write, T: ticket, E: 9, V: live, C: 3, B: 1}},
		row{"find to write, stale", api.Work{Line: 46, Op: write, T: 65537}, api.Work{Line: 90, Op: write, T: 65537, Ret: api.ErrStale}},
		row{"find to replace", api.Work{Line: 44, Op: write, T: ticket, E: 9, B: 1}, api.Work{Line: 45, Op: write, T: ticket, E: 9, B: 1, V: live, C: 3, Bags: roomy}},
		row{"find to replace, no room", api.Work{Line: 44, Op: write, T: ticket, E: 9, B: 1, Bags: full}, api.Work{Line: 39, Op: write, T: ticket, E: 9, V: live, K: 1, Bags: full, Ret: api.ErrBusy, Give: true}},
		row{"find to replace, stale", api.Work{Line: 44, Op: write, T: 65537, B: 1, C: 5, Hold: []int{3}}, api.Work{Line: 39, Op: write, T: 65537, K: 4, Hold: []int{0}, Ret: api.ErrStale, Give: true}},
		row{"replace", api.Work{Line: 45, Op: write, T: ticket, E: 9, B: 1, V: live, C: 3}, api.Work{Line: 90, Op: write, T: ticket, E: 9, V: live, Bags: [3]api.Bag{1: {Tag: 10, L: []int{2}}}}},
		row{"replace, with an entry in hand", api.Work{Line: 45, Op: write, T: ticket, E: 9, B: 1, V: live, C: 3, I: 1}, api.Work{Line: 90, Op: write, T: ticket, E: 9, V: live, I: 1, Bags: [3]api.Bag{1: {Tag: 10, L: []int{2}}}}},
		row{"replace fails", api.Work{Line: 45, Op: write, T: ticket, E: 9, B: 1, V: 5, C: 3}, api.Work{Line: 44, Op: write, T: ticket, E: 9, B: 1, V: 5, C: 3}},
		row{"find to read", api.Work{Line: 60, Op: deref, T: ticket, J: 7}, api.Work{Line: 61, Op: deref, T: ticket, V: live, C: 3}},
		row{"find to read, stale", api.Work{Line: 60, Op: deref, T: 65537}, api.Work{Line: 90, Op: deref, T: 65537, Ret: api.ErrStale}},
	)
	checkRows(t, func(m *memory.Memory) { m.Store(plan.AtEntries, 0) },
		row{"no entry free", api.Work{Line: 20, Op: alloc, B: 1}, api.Work{Line: 39, Op: alloc, K: 1, Ret: api.ErrFull, Give: true}})
	last := pack.Entry(9, 2, api.Live)
	checkRows(t, func(m *memory.Memory) { m.Store(layout.Entry(1), last) },
		row{"free the last generation", api.Work{Line: 43, Op: free, T: pack.Ticket(1, 9), E: 9, V: last, C: 3, Hold: []int{1}},
			api.Work{Line: 39, Op: free, T: pack.Ticket(1, 9), E: 9, V: last, K: 2, Give: true, Bags: [3]api.Bag{1: {Tag: 10, L: []int{2}}}}})
}

// P13.1: lines 61 and 62 read the words of a block.
func TestReadLines(t *testing.T) {
	deref, peek := op(api.OpDeref), op(api.OpPeek)
	checkRows(t, nil,
		row{"first word", api.Work{Line: 61, Op: deref, C: 3}, api.Work{Line: 61, Op: deref, C: 3, J: 1, Read: []api.Word{70}}},
		row{"last word", api.Work{Line: 61, Op: deref, C: 3, J: 1, Read: []api.Word{70}, Borrow: 2}, api.Work{Line: 90, Op: deref, J: 2, Read: []api.Word{70, 71}, Borrow: 2}},
		row{"last word, pinned", api.Work{Line: 61, Op: deref, C: 3, J: 1, Pinned: true, Borrow: 2}, api.Work{Op: deref, J: 2, Read: []api.Word{71}, Pinned: true, Borrow: 3}},
		row{"last word, with a hold list", api.Work{Line: 61, Op: deref, C: 3, J: 1, Hold: []int{0}}, api.Work{Line: 39, Op: deref, J: 2, Read: []api.Word{71}, K: 1, Give: true}},
		row{"no such block", api.Work{Line: 61, Op: deref, C: 5}, api.Work{Line: 61, Op: deref, C: 5, J: 1, Read: []api.Word{0}}},
		row{"no such word", api.Work{Line: 61, Op: deref, C: 3, J: 2}, api.Work{Line: 90, Op: deref, J: 3, Read: []api.Word{0}}},
		row{"peek", api.Work{Line: 62, Op: peek, Borrow: 3, Pinned: true}, api.Work{Line: 62, Op: peek, Borrow: 3, Pinned: true, J: 1, Read: []api.Word{70}}},
		row{"peek, last word", api.Work{Line: 62, Op: peek, Borrow: 3, Pinned: true, J: 1, Read: []api.Word{70}, Hold: []int{1}}, api.Work{Op: peek, Borrow: 3, Pinned: true, J: 2, Read: []api.Word{70, 71}, Hold: []int{1}}},
		row{"peek at no block", api.Work{Line: 62, Op: peek, J: 1}, api.Work{Op: peek, J: 2, Read: []api.Word{0}}},
	)
}

// P13.1: the lines of taking are unknown with Give set, and those of releasing without.
func TestLinesByGive(t *testing.T) {
	for give, lines := range map[bool][]int{true: {10, 11, 12, 33, 34, 35, 38}, false: {13, 14, 15, 39}} {
		for _, line := range lines {
			m := scene(t)
			m.Load(0)
			seen, words := m.Seen, m.All()
			x := api.Work{Line: line, Op: op(api.OpAlloc), B: 1, K: 1, Give: give}
			if got, ok := Step(m, 0, x); ok || !rack.Same(got, x) || m.Seen != seen || !slices.Equal(words, m.All()) {
				t.Errorf("line %d with Give %v: %+v, %v", line, give, got, ok)
			}
			x.Give = !give
			if _, ok := Step(m, 0, x); !ok {
				t.Errorf("line %d with Give %v is unknown", line, !give)
			}
		}
	}
}

// P13.1: the example of the chapter.
func TestExample(t *testing.T) {
	m := newMemory(t, api.Config{Workers: 1, Slabs: 1, Blocks: 1, Words: 1, Entries: 1, Bag: 1, Last: 9})
	x, lines := run(t, m, api.Work{}, api.Op{Kind: api.OpAlloc, X: 7}, 0)
	if want := []int{1, 2, 3, 10, 33, 34, 50, 20, 21, 22, 40, 41, 90}; !slices.Equal(lines, want) || x.T != 65537 || x.Ret != api.OK {
		t.Errorf("lines %v, ticket %d, %d", lines, x.T, x.Ret)
	}
}

// P13.1: the examples of the document: alloc, deref, free, stale, the next generation, a full bucket.
func TestExamplesOfTheDocument(t *testing.T) {
	c := api.Config{Workers: 1, Slabs: 1, Blocks: 3, Words: 1, Entries: 1, Bag: 1, Last: 9}
	m := newMemory(t, c)
	x := api.Work{}
	for i, s := range []struct {
		o      api.Op
		ticket api.Word
		ret    api.Errno
		t      api.Word
		read   []api.Word
	}{
		{api.Op{Kind: api.OpAlloc, X: 7}, 0, api.OK, 65537, nil},
		{api.Op{Kind: api.OpDeref}, 65537, api.OK, 65537, []api.Word{7}},
		{api.Op{Kind: api.OpWrite, X: 9}, 65537, api.OK, 65537, nil},
		{api.Op{Kind: api.OpDeref}, 65537, api.OK, 65537, []api.Word{9}},
		{api.Op{Kind: api.OpFree}, 65537, api.ErrBusy, 65537, nil},
		{api.Op{Kind: api.OpWrite, X: 5}, 65537, api.ErrBusy, 65537, nil},
		{api.Op{Kind: api.OpDeref}, 65537, api.OK, 65537, []api.Word{9}},
		{api.Op{Kind: api.OpAlloc, X: 8}, 0, api.ErrFull, 0, nil},
		{api.Op{Kind: api.OpCollect}, 0, api.OK, 0, nil},
		{api.Op{Kind: api.OpFree}, 65537, api.OK, 65537, nil},
		{api.Op{Kind: api.OpDeref}, 65537, api.ErrStale, 65537, nil},
		{api.Op{Kind: api.OpFree}, 65537, api.ErrStale, 65537, nil},
		{api.Op{Kind: api.OpWrite}, 65537, api.ErrStale, 65537, nil},
		{api.Op{Kind: api.OpAlloc, X: 3}, 0, api.OK, 131073, nil},
		{api.Op{Kind: api.OpDeref}, 0, api.ErrBad, 0, nil},
		{api.Op{Kind: api.OpCollect}, 0, api.OK, 0, nil},
		{api.Op{Kind: api.OpPin}, 0, api.OK, 0, nil},
		{api.Op{Kind: api.OpPin}, 0, api.ErrState, 0, nil},
		{api.Op{Kind: api.OpPeek}, 0, api.ErrState, 0, nil},
		{api.Op{Kind: api.OpDeref}, 131073, api.OK, 131073, []api.Word{3}},
		{api.Op{Kind: api.OpFree}, 131073, api.OK, 131073, nil},
		{api.Op{Kind: api.OpPeek}, 0, api.OK, 0, []api.Word{3}},
		{api.Op{Kind: api.OpUnpin}, 0, api.OK, 0, nil},
		{api.Op{Kind: api.OpUnpin}, 0, api.ErrState, 0, nil},
		{api.Op{Kind: api.OpPeek}, 0, api.ErrState, 0, nil},
		{api.Op{Kind: api.OpDrain, Slab: 1}, 0, api.ErrBad, 0, nil},
	} {
		x, _ = run(t, m, x, s.o, s.ticket)
		if x.Ret != s.ret || x.T != s.t || !slices.Equal(x.Read, s.read) {
			t.Errorf("%d: %+v returned %d, ticket %d, read %v", i, s.o, x.Ret, x.T, x.Read)
		}
	}
}

// P13.1: example 9 of the document: a slab is drained, emptied, out two epochs later and claimed again.
func TestDrainAndReclaim(t *testing.T) {
	c := api.Config{Workers: 1, Slabs: 1, Blocks: 2, Words: 1, Entries: 2, Rack: 1, Bag: 2, Last: 9}
	m := newMemory(t, c)
	x, _ := run(t, m, api.Work{}, api.Op{Kind: api.OpAlloc, X: 7}, 0)
	first := x.T
	x, _ = run(t, m, x, api.Op{Kind: api.OpDrain}, 0)
	if x.Ret != api.OK || slab.State(c, m.All(), 0) != api.Draining {
		t.Fatalf("drain: %d, state %d", x.Ret, slab.State(c, m.All(), 0))
	}
	x, _ = run(t, m, x, api.Op{Kind: api.OpDrain}, 0)
	if x.Ret != api.ErrState {
		t.Errorf("a second drain: %d", x.Ret)
	}
	x, _ = run(t, m, x, api.Op{Kind: api.OpAlloc, X: 8}, 0)
	if x.Ret != api.ErrFull || slab.Parked(c, m.All(), 0) != 1 {
		t.Errorf("alloc: %d, %d parked", x.Ret, slab.Parked(c, m.All(), 0))
	}
	x, _ = run(t, m, x, api.Op{Kind: api.OpFree}, first)
	if x.Ret != api.OK || slab.State(c, m.All(), 0) != api.Draining {
		t.Errorf("free: %d", x.Ret)
	}
	for i := 1; slab.State(c, m.All(), 0) != api.Empty; i++ {
		if i > 3 {
			t.Fatal("the slab is not empty after three collects")
		}
		x, _ = run(t, m, x, api.Op{Kind: api.OpCollect}, 0)
	}
	for i := range 2 {
		if slab.Gone(c, m.All(), 0) {
			t.Errorf("out after %d epochs", i)
		}
		x, _ = run(t, m, x, api.Op{Kind: api.OpCollect}, 0)
	}
	if !slab.Gone(c, m.All(), 0) {
		t.Error("not out after two epochs")
	}
	x, _ = run(t, m, x, api.Op{Kind: api.OpAlloc, X: 9}, 0)
	if block, live := entry.Live(c, m.All(), x.T); x.Ret != api.OK || !live || block != 0 || slab.State(c, m.All(), 0) != api.Active {
		t.Errorf("alloc: %d, block %d", x.Ret, block)
	}
}

// randomOp returns an operation and its ticket, often one of those that were told.
func randomOp(r *rand.Rand, c api.Config, told []api.Word) (api.Op, api.Word) {
	kinds := []int{api.OpPin, api.OpUnpin, api.OpPeek, api.OpCollect, api.OpCollect, api.OpAlloc, api.OpAlloc, api.OpAlloc, api.OpFree, api.OpFree, api.OpWrite, api.OpWrite, api.OpDeref, api.OpDrain}
	o := api.Op{Kind: kinds[r.Intn(len(kinds))]}
	var ticket api.Word
	switch o.Kind {
	case api.OpAlloc:
		o.X = r.Uint64()
	case api.OpWrite:
		o.X = r.Uint64()
		fallthrough
	case api.OpFree, api.OpDeref:
		if len(told) > 0 {
			ticket = told[max(0, len(told)-1-r.Intn(6))]
		}
	case api.OpDrain:
		o.Slab = r.Intn(c.Slabs + 1)
	}
	return o, ticket
}

// P13.2: alone, after any history, each operation completes within its bound, and each step is at most one access that explains the change of the memory.
func TestAloneWithinTheBound(t *testing.T) {
	r := rand.New(rand.NewSource(13))
	for range 150 {
		c := api.Config{
			Workers: 1 + r.Intn(3), Slabs: 1 + r.Intn(4), Blocks: 1 + r.Intn(5), Words: 1 + r.Intn(4), Entries: 1 + r.Intn(6),
			Rack: r.Intn(5), Bag: 1 + r.Intn(8), Last: api.Word(1 + r.Intn(5)),
		}
		m := newMemory(t, c)
		bound := 60 + 2*c.Words + 10*m.Total()
		x := api.Work{}
		var told []api.Word
		for range 200 {
			o, ticket := randomOp(r, c, told)
			x = Begin(c, x, o, ticket)
			for n := 0; !Idle(x); n++ {
				if n >= bound {
					t.Fatalf("%+v: more than %d steps, line %d", o, bound, x.Line)
				}
				x = checkedStep(t, m, x)
			}
			if o.Kind == api.OpAlloc && x.Ret == api.OK {
				told = append(told, x.T)
			}
		}
	}
}

// checkedStep executes a step of worker 0 and compares the memory with what the recorded access says.
func checkedStep(t *testing.T, m *memory.Memory, x api.Work) api.Work {
	t.Helper()
	words := m.All()
	y, ok := Step(m, 0, x)
	if !ok {
		t.Fatalf("line %d is unknown", x.Line)
	}
	switch a := m.Seen; {
	case a.Kind == api.AStore:
		words[a.At] = a.X
	case a.Kind == api.AAdd:
		words[a.At] += a.X
	case a.Kind == api.ACas && a.X == words[a.At]:
		words[a.At] = a.Y
	}
	if !slices.Equal(words, m.All()) {
		t.Fatalf("line %d: the access %+v does not explain the memory", x.Line, m.Seen)
	}
	return y
}
