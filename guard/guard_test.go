package guard

import (
	"fmt"
	"math"
	"math/rand"
	"slices"
	"testing"

	"coatcheck/api"
	"coatcheck/hall"
	"coatcheck/pack"
	"coatcheck/plan"
)

// P18.1: the blocks at line 61 and the borrowed ones, sorted and without duplicates.
func TestSeen(t *testing.T) {
	for _, x := range []struct {
		name string
		l    []api.Work
		want []int
	}{
		{"nobody", nil, nil},
		{"the chapter's example", []api.Work{{Line: 61, C: 3}, {Pinned: true, Borrow: 3}}, []int{2}},
		{"block 0 at line 61", []api.Work{{Line: 61, C: 1}}, []int{0}},
		{"block 0 borrowed", []api.Work{{Pinned: true, Borrow: 1}}, []int{0}},
		{"one worker reads two blocks", []api.Work{{Line: 61, C: 9, Pinned: true, Borrow: 4}}, []int{3, 8}},
		{"one worker reads the same block twice", []api.Work{{Line: 61, C: 4, Pinned: true, Borrow: 4}}, []int{3}},
		{"a borrowed block at any line", []api.Work{{Line: 40, Pinned: true, Borrow: 4}, {Line: 62, Pinned: true, Borrow: 2}}, []int{1, 3}},
		{"a pinned worker may be at line 61", []api.Work{{Line: 61, Pinned: true, C: 6}}, []int{5}},
		{"C at other lines", []api.Work{{C: 1}, {Line: 60, C: 2}, {Line: 62, C: 3}, {Line: 43, C: 4}, {Line: -61, C: 5}}, nil},
		{"a borrowed block of a worker that is not pinned", []api.Work{{Borrow: 1}, {Line: 61, Borrow: 2}, {Line: 62, Borrow: 3}}, nil},
		{"no block", []api.Work{{Line: 61}, {Pinned: true}, {Line: 61, Pinned: true}}, nil},
		{"no block has a negative number", []api.Work{{Line: 61, C: -1, Pinned: true, Borrow: math.MinInt}}, nil},
		{"other blocks in hand", []api.Work{{Line: 61, Pinned: true, B: 3, K: 4, I: 5, Hold: []int{6}, Rack: []int{7}}}, nil},
		{"in order, once each", []api.Work{{Line: 61, C: 12}, {Pinned: true, Borrow: 2}, {Line: 61, C: 2}, {Pinned: true, Borrow: 12}, {Line: 61, C: 7}}, []int{1, 6, 11}},
		{"the greatest number", []api.Work{{Line: 61, C: math.MaxInt}, {Pinned: true, Borrow: 1}}, []int{0, math.MaxInt - 1}},
	} {
		if got := Seen(x.l); !slices.Equal(got, x.want) {
			t.Errorf("%s: %v, not %v", x.name, got, x.want)
		}
	}
}

// P18.1: random states, compared with a set.
func TestSeenInRandomStates(t *testing.T) {
	r := rand.New(rand.NewSource(1))
	for range 5000 {
		l := make([]api.Work, r.Intn(10))
		set := map[int]bool{}
		for i := range l {
			l[i] = api.Work{Line: 60 + r.Intn(3), C: r.Intn(6), Pinned: r.Intn(2) == 0, Borrow: r.Intn(6)}
			set[l[i].C-1] = set[l[i].C-1] || l[i].Line == 61
			set[l[i].Borrow-1] = set[l[i].Borrow-1] || l[i].Pinned
		}
		var want []int
		for b := range 6 {
			if set[b] {
				want = append(want, b)
			}
		}
		if got := Seen(l); !slices.Equal(got, want) {
			t.Fatalf("%+v: %v, not %v", l, got, want)
		}
	}
}

var configs = []api.Config{
	{Workers: 1, Slabs: 1, Blocks: 1, Words: 1, Entries: 1, Bag: 1, Last: 1},
	{Workers: 1, Slabs: 1, Blocks: 2, Words: 1, Entries: 1, Bag: 1, Last: 9},
	{Workers: 3, Slabs: 2, Blocks: 5, Words: 2, Entries: 7, Rack: 1, Bag: 1, Last: 9},
	{Workers: 8, Slabs: 8, Blocks: 16, Words: 4, Entries: 32, Rack: 4, Bag: 8, Last: 1 << 20},
}

func stored(at int) api.Event {
	return api.Event{Tick: 3, Worker: 1, Kind: api.EStep, Line: 50, Access: api.Access{Kind: api.AStore, At: at, X: 5, Old: 5}}
}

// owners returns the block whose payload is at each address, or -1, by the layout of the chapter of plan: the payloads are at the end, each behind its link.
func owners(c api.Config) []int {
	l := slices.Repeat([]int{-1}, 3+c.Workers+c.Slabs+2*c.Entries)
	for b := range c.Slabs * c.Blocks {
		l = append(append(l, -1), slices.Repeat([]int{b}, c.Words)...)
	}
	return l
}

// P18.1: a store at each address, and at addresses that do not exist.
func TestWritten(t *testing.T) {
	for _, c := range configs {
		l := owners(c)
		for at, want := range l {
			if b, ok := Written(c, stored(at)); b != want || ok != (want >= 0) {
				t.Errorf("%+v, address %d: block %d, %v, not %d", c, at, b, ok, want)
			}
		}
		for _, at := range []int{-1, -2, len(l), len(l) + 1, math.MinInt, math.MaxInt} {
			if b, ok := Written(c, stored(at)); b != -1 || ok {
				t.Errorf("%+v, address %d of %d: block %d, %v", c, at, len(l), b, ok)
			}
		}
	}
}

// P18.1: only the step of a store writes, and at whatever line it does.
func TestWrittenByStoresOnly(t *testing.T) {
	c := configs[1]
	for kind := -1; kind <= 6; kind++ {
		for access := -1; access <= 6; access++ {
			e := stored(10)
			e.Kind, e.Access.Kind, e.Line = kind, access, 7
			want := kind == api.EStep && access == api.AStore
			if b, ok := Written(c, e); ok != want || want && b != 1 || !want && b != -1 {
				t.Errorf("event %d, access %d: block %d, %v", kind, access, b, ok)
			}
			if clean := Clean(c, []api.Work{{Line: 61, C: 2}}, e); clean == want {
				t.Errorf("event %d, access %d: clean %v", kind, access, clean)
			}
		}
	}
}

// P18.1: nothing is written if the configuration is not valid.
func TestWrittenInvalid(t *testing.T) {
	for i, change := range []func(c *api.Config){
		func(c *api.Config) { *c = api.Config{} },
		func(c *api.Config) { c.Workers = 0 },
		func(c *api.Config) { c.Slabs = api.MaxSlabs + 1 },
		func(c *api.Config) { c.Blocks = math.MaxInt },
		func(c *api.Config) { c.Words = math.MinInt },
		func(c *api.Config) { c.Words = math.MaxInt },
		func(c *api.Config) { c.Entries = -1 },
		func(c *api.Config) { c.Rack = -1 },
		func(c *api.Config) { c.Bag = 0 },
		func(c *api.Config) { c.Last = 0 },
		func(c *api.Config) { c.Last = math.MaxUint64 },
	} {
		c := configs[1]
		change(&c)
		for at := -1; at < 20; at++ {
			if b, ok := Written(c, stored(at)); b != -1 || ok {
				t.Errorf("configuration %d, address %d: block %d, %v", i, at, b, ok)
			}
			if !Clean(c, []api.Work{{Line: 61, C: 1}, {Line: 61, C: 2}}, stored(at)) {
				t.Errorf("configuration %d, address %d: not clean", i, at)
			}
		}
	}
}

// P18.1: an event is clean unless some worker reads the block that it writes.
func TestClean(t *testing.T) {
	c := configs[2]
	p := plan.Plan{Config: c}
	for b := range p.Total() {
		for i := range c.Words {
			e := stored(p.Word(b, i))
			for other := range p.Total() {
				for _, x := range []api.Work{{Line: 61, C: other + 1}, {Pinned: true, Borrow: other + 1}} {
					l := []api.Work{{Line: 60, C: b + 1}, {Borrow: b + 1}, {Line: 61, C: p.Total() + 1}, x, {Pinned: true}}
					if got := Clean(c, l, e); got != (other != b) {
						t.Errorf("a write of block %d, a reader of %d: %v", b, other, got)
					}
				}
			}
			if !Clean(c, nil, e) {
				t.Errorf("a write of block %d without workers is not clean", b)
			}
		}
		if e := stored(p.BlockLink(b)); !Clean(c, []api.Work{{Line: 61, C: b + 1}}, e) {
			t.Errorf("the link of block %d is no payload", b)
		}
	}
	if !Clean(c, []api.Work{{Line: 61}}, stored(-1)) {
		t.Error("a store that has no address is not clean")
	}
}

// Rules: the workers are not changed, and a result shares nothing with a later one.
func TestNothingIsShared(t *testing.T) {
	l := []api.Work{{Line: 61, C: 9}, {Pinned: true, Borrow: 2}, {Line: 61, C: 4}}
	before := fmt.Sprint(l)
	first := Seen(l)
	first[0] = 100
	if got := Seen(l); !slices.Equal(got, []int{1, 3, 8}) || fmt.Sprint(l) != before {
		t.Errorf("%v, %v", got, l)
	}
}

// P18.2: consecutive words of the given number.
func TestPayload(t *testing.T) {
	const most = math.MaxUint64
	for _, x := range []struct {
		words int
		l     []api.Word
		want  api.Word
		ok    bool
	}{
		{3, []api.Word{7, 8, 9}, 7, true}, // the chapter's example
		{1, []api.Word{7}, 7, true},
		{1, []api.Word{0}, 0, true},
		{2, []api.Word{0, 1}, 0, true},
		{1, []api.Word{most}, most, true},
		{3, []api.Word{most - 1, most, 0}, most - 1, true},
		{5, []api.Word{most, 0, 1, 2, 3}, most, true}, // also more words than a block can have
		{0, nil, 0, false},
		{0, []api.Word{7}, 0, false},
		{1, nil, 0, false},
		{-1, nil, 0, false},
		{math.MinInt, []api.Word{7}, 0, false},
		{math.MaxInt, []api.Word{7}, 0, false},
		{2, []api.Word{7}, 0, false},
		{2, []api.Word{7, 8, 9}, 0, false},
		{2, []api.Word{7, 7}, 0, false},
		{2, []api.Word{7, 9}, 0, false},
		{2, []api.Word{8, 7}, 0, false},
		{2, []api.Word{most, 1}, 0, false},
		{4, []api.Word{7, 8, 9, 11}, 0, false},
		{4, []api.Word{7, 9, 9, 10}, 0, false},
		{4, []api.Word{7, 8, 8, 9}, 0, false},
	} {
		if got, ok := Payload(x.words, x.l); got != x.want || ok != x.ok {
			t.Errorf("%d words %v: %d, %v", x.words, x.l, got, ok)
		}
	}
}

// P18.2: a payload of any length, whole, cut, and with one word changed.
func TestPayloadChanged(t *testing.T) {
	r := rand.New(rand.NewSource(2))
	for range 2000 {
		first, n := r.Uint64()>>r.Intn(64), 1+r.Intn(6)
		if r.Intn(4) == 0 {
			first = -first
		}
		var l []api.Word
		for i := range n {
			l = append(l, first+api.Word(i))
		}
		if got, ok := Payload(n, l); got != first || !ok {
			t.Fatalf("%v: %d, %v", l, got, ok)
		}
		if got, ok := Payload(n, l[1:]); got != 0 || ok {
			t.Fatalf("%v without its first: %d, %v", l, got, ok)
		}
		l[r.Intn(n)] += 1 + api.Word(r.Intn(5))
		if got, ok := Payload(n, l); ok != (n == 1) || !ok && got != 0 {
			t.Fatalf("%v changed: %d, %v", l, got, ok)
		}
	}
}

// watch executes a hall and keeps what it looked like after each number of picks.
type watch struct {
	c      api.Config
	plan   plan.Plan
	h      *hall.Hall
	states [][]api.Work
	words  [][]api.Word
}

func newWatch(t *testing.T, c api.Config, programs ...[]api.Op) *watch {
	t.Helper()
	h, e := hall.New(c, programs)
	if e != api.OK {
		t.Fatal(e)
	}
	x := &watch{c: c, plan: plan.Plan{Config: c}, h: h}
	x.save()
	return x
}

func (x *watch) save() {
	var l []api.Work
	for w := range x.c.Workers {
		l = append(l, x.h.Work(w))
	}
	x.states, x.words = append(x.states, l), append(x.words, x.h.Words())
}

func (x *watch) pick(w int) {
	x.h.Pick(w)
	x.save()
}

// finish picks a worker until it has completed so many more operations.
func (x *watch) finish(w, operations int) {
	for left := x.h.Left(w) - operations; x.h.Left(w) > left || x.h.Work(w).Line != 0; {
		x.pick(w)
	}
}

// tally counts what executions came across.
type tally struct{ writes, meanwhile, reads, peeks, replaced int }

func (s *tally) add(o tally) {
	s.writes += o.writes
	s.meanwhile += o.meanwhile
	s.reads += o.reads
	s.peeks += o.peeks
	s.replaced += o.replaced
}

// check fails at an event that is not clean, at a read that is no payload, and at a borrowed block that changes.
func (x *watch) check(t *testing.T) tally {
	t.Helper()
	var sum tally
	events := x.h.Events()
	tickets := ticketsOf(events)
	borrowed := make([][]api.Word, x.c.Workers) // what the block of each worker contained at first
	for tick := 1; tick < len(x.states); tick++ {
		for ; len(events) > 0 && events[0].Tick == tick; events = events[1:] {
			x.checkEvent(t, events[0], tickets, borrowed, &sum)
		}
		for w, s := range x.states[tick] {
			if !s.Pinned || s.Borrow == 0 {
				borrowed[w] = nil
				continue
			}
			at := x.plan.Word(s.Borrow-1, 0)
			now := x.words[tick][at : at+x.c.Words]
			if was := x.states[tick-1][w]; !was.Pinned || was.Borrow != s.Borrow || was.Line == 61 {
				borrowed[w] = now
			}
			if !slices.Equal(now, borrowed[w]) {
				t.Fatalf("%+v, tick %d: the block that worker %d borrows became %v, it was %v", x.c, tick, w, now, borrowed[w])
			}
			if x.replaced(x.words[tick], s.Borrow-1) {
				sum.replaced++
			}
		}
	}
	return sum
}

func (x *watch) checkEvent(t *testing.T, e api.Event, tickets map[api.Word]api.Word, borrowed [][]api.Word, sum *tally) {
	t.Helper()
	before := x.states[e.Tick-1]
	if !Clean(x.c, before, e) {
		t.Fatalf("%+v: %+v writes what is read", x.c, e)
	}
	if _, ok := Written(x.c, e); ok {
		sum.writes++
		sum.meanwhile += min(len(Seen(before)), 1)
	}
	a := e.Answer
	if e.Kind != api.EReturn || a.Ret != api.OK || a.Op.Kind != api.OpDeref && a.Op.Kind != api.OpPeek {
		return
	}
	sum.reads++
	number, ok := Payload(x.c.Words, a.Read)
	ticket, known := tickets[number]
	if !ok || !known || a.Op.Kind == api.OpDeref && ticket != a.T {
		t.Fatalf("%+v: %+v reads no payload of its ticket", x.c, e)
	}
	if a.Op.Kind == api.OpPeek {
		sum.peeks++
		if !slices.Equal(a.Read, borrowed[e.Worker]) {
			t.Fatalf("%+v: %+v does not read %v", x.c, e, borrowed[e.Worker])
		}
	}
}

// ticketsOf returns the ticket under which each number was put in. No two Allocs or Writes of these tests put in the same.
func ticketsOf(events []api.Event) map[api.Word]api.Word {
	tickets := map[api.Word]api.Word{}
	for _, e := range events {
		if k := e.Answer.Op.Kind; e.Kind == api.EPoint && e.Answer.Ret == api.OK && (k == api.OpAlloc || k == api.OpWrite) {
			tickets[e.Answer.Op.X] = e.Answer.T
		}
	}
	return tickets
}

// replaced reports whether no entry refers to a block any more.
func (x *watch) replaced(words []api.Word, block int) bool {
	for i := range x.c.Entries {
		if _, b, state := pack.Unentry(words[x.plan.Entry(i)]); state == api.Live && b == block {
			return false
		}
	}
	return true
}

// randomConfig returns a configuration of few blocks, so that they are used again soon.
func randomConfig(r *rand.Rand) api.Config {
	return api.Config{
		Workers: 2 + r.Intn(4), Slabs: 1 + r.Intn(3), Blocks: 1 + r.Intn(4), Words: 1 + r.Intn(3), Entries: 1 + r.Intn(3),
		Rack: r.Intn(2), Bag: 1 + r.Intn(2), Last: 1000,
	}
}

// randomProgram returns operations of a worker. A reader pins, dereferences and peeks most of the time.
func randomProgram(r *rand.Rand, c api.Config, reader bool, next *api.Word) []api.Op {
	kinds := []int{api.OpAlloc, api.OpAlloc, api.OpFree, api.OpFree, api.OpWrite, api.OpWrite, api.OpWrite, api.OpCollect, api.OpCollect, api.OpCollect, api.OpDeref, api.OpDrain, api.OpPin, api.OpUnpin, api.OpUnpin}
	if reader {
		kinds = []int{api.OpPin, api.OpDeref, api.OpDeref, api.OpDeref, api.OpPeek, api.OpPeek, api.OpPeek, api.OpUnpin, api.OpAlloc, api.OpWrite}
	}
	var l []api.Op
	for range api.MaxOps {
		o := api.Op{Kind: kinds[r.Intn(len(kinds))]}
		switch o.Kind {
		case api.OpAlloc, api.OpWrite:
			*next += 10
			o.X = *next
		case api.OpDrain:
			o.Slab = r.Intn(c.Slabs)
		}
		switch o.Kind {
		case api.OpFree, api.OpWrite, api.OpDeref:
			o.T = pack.Ticket(r.Intn(c.Entries), 1+api.Word(r.Intn(1+len(l)/15)))
		}
		l = append(l, o)
	}
	return l
}

// P2, P18.3: every event of random executions is clean, every read is one payload, and a borrowed block stays as it is.
func TestEventsAreClean(t *testing.T) {
	r := rand.New(rand.NewSource(3))
	var sum tally
	for range 150 {
		c := randomConfig(r)
		programs := make([][]api.Op, c.Workers)
		var next api.Word
		for w := range programs {
			programs[w] = randomProgram(r, c, r.Intn(2) == 0, &next)
		}
		x := newWatch(t, c, programs...)
		for n := 0; n < 1500; {
			w := r.Intn(c.Workers)
			for range 1 + r.Intn(1+r.Intn(40)) {
				x.pick(w)
				n++
			}
		}
		sum.add(x.check(t))
	}
	if sum.writes < 2000 || sum.meanwhile < 500 || sum.reads < 500 || sum.peeks < 200 || sum.replaced < 1000 {
		t.Errorf("too little happened: %+v", sum)
	}
}

var (
	pin     = api.Op{Kind: api.OpPin}
	unpin   = api.Op{Kind: api.OpUnpin}
	peek    = api.Op{Kind: api.OpPeek}
	collect = api.Op{Kind: api.OpCollect}
	deref   = api.Op{Kind: api.OpDeref, Use: true}
	free    = api.Op{Kind: api.OpFree, Use: true}
)

func alloc(x api.Word) api.Op { return api.Op{Kind: api.OpAlloc, X: x} }
func write(x api.Word) api.Op { return api.Op{Kind: api.OpWrite, Use: true, X: x} }

// P18.3: a pinned reader keeps its block although the object is written and freed and all other blocks are used up. As soon as it unpins, the block is used again.
func TestBorrowedBlockIsKept(t *testing.T) {
	c := api.Config{Workers: 2, Slabs: 1, Blocks: 2, Words: 2, Entries: 4, Rack: 0, Bag: 2, Last: 9}
	program := []api.Op{alloc(10), write(20), free}
	for i := range 8 {
		program = append(program, collect, collect, collect, collect, alloc(api.Word(30+10*i)))
	}
	x := newWatch(t, c, program, []api.Op{pin, deref, peek, peek, unpin})
	x.finish(0, 1)
	x.finish(1, 2)
	block := x.h.Work(1).Borrow - 1
	x.finish(0, 12)
	x.finish(1, 2)
	l := x.h.Events()
	if got := l[len(l)-1].Answer; !slices.Equal(got.Read, []api.Word{10, 11}) {
		t.Fatalf("the last Peek: %+v", got)
	}
	if sum := x.check(t); sum.replaced < 50 || len(x.h.Told(0)) != 1 {
		t.Fatalf("the block was read without an entry for %d picks, tickets %v", sum.replaced, x.h.Told(0))
	}
	x.finish(1, 1)
	x.finish(0, x.h.Left(0))
	x.check(t)
	again := 0
	for _, e := range x.h.Events()[len(l):] {
		if b, ok := Written(c, e); ok && b == block {
			again++
		}
	}
	if again == 0 {
		t.Error("the block is never used again")
	}
}

// P2, P18.3: all schedules of a reader and of a worker that replaces what it reads and uses the blocks again.
func TestCleanUnderEverySchedule(t *testing.T) {
	tight := api.Config{Workers: 2, Slabs: 1, Blocks: 2, Words: 2, Entries: 1, Rack: 0, Bag: 2, Last: 9}
	slabs := api.Config{Workers: 2, Slabs: 2, Blocks: 1, Words: 1, Entries: 2, Rack: 1, Bag: 1, Last: 9}
	drain := api.Op{Kind: api.OpDrain}
	for _, x := range []struct {
		name           string
		c              api.Config
		before         []api.Op // of the writer, executed alone before
		reader, writer []api.Op
	}{
		{"one deref", tight, []api.Op{alloc(10), write(20)}, []api.Op{deref}, []api.Op{collect, collect, collect, write(30)}},
		{"a deref of what is freed", tight, []api.Op{alloc(10), collect, collect}, []api.Op{deref}, []api.Op{free, collect, collect, collect, alloc(20)}},
		{"pinned", tight, []api.Op{alloc(10), write(20)}, []api.Op{pin, deref, peek, unpin}, []api.Op{collect, collect, collect, write(30)}},
		{"the reader advances the epoch meanwhile", tight, []api.Op{alloc(10)}, []api.Op{collect, collect, deref}, []api.Op{write(20), collect, collect, write(30)}},
		{"slabs are drained", slabs, []api.Op{alloc(10), drain}, []api.Op{pin, deref, peek}, []api.Op{write(20), collect, collect, collect, alloc(30)}},
	} {
		t.Run(x.name, func(t *testing.T) { everySchedule(t, x.c, x.before, x.reader, x.writer) })
	}
}

// everySchedule visits each state that the reader, worker 1, and the writer, worker 0, can reach, by the picks that led to it first.
func everySchedule(t *testing.T, c api.Config, before, reader, writer []api.Op) {
	t.Helper()
	replay := func(picks []int) *watch {
		x := newWatch(t, c, slices.Concat(before, writer), reader)
		x.finish(0, len(before))
		for _, w := range picks {
			x.pick(w)
		}
		return x
	}
	known := map[string]bool{}
	for paths := [][]int{nil}; len(paths) > 0; {
		path := paths[len(paths)-1]
		paths = paths[:len(paths)-1]
		for w := range 2 {
			picks := append(slices.Clone(path), w)
			x := replay(picks)
			x.check(t)
			now := len(x.states) - 1
			key := fmt.Sprint(x.words[now], x.states[now], x.h.Left(0), x.h.Left(1))
			if !known[key] {
				known[key] = true
				paths = append(paths, picks)
			}
		}
	}
	if len(known) < 500 {
		t.Errorf("only %d states", len(known))
	}
}
