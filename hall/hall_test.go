package hall

import (
	"math"
	"math/rand"
	"slices"
	"testing"

	"coatcheck/api"
	"coatcheck/pack"
	"coatcheck/plan"
	"coatcheck/rack"
)

var config = api.Config{Workers: 2, Slabs: 2, Blocks: 2, Words: 2, Entries: 2, Rack: 1, Bag: 1, Last: 9}

var (
	pin     = api.Op{Kind: api.OpPin}
	unpin   = api.Op{Kind: api.OpUnpin}
	peek    = api.Op{Kind: api.OpPeek}
	collect = api.Op{Kind: api.OpCollect}
	alloc   = api.Op{Kind: api.OpAlloc, X: 7}
	free    = api.Op{Kind: api.OpFree, Use: true}
	write   = api.Op{Kind: api.OpWrite, Use: true, X: 9}
	deref   = api.Op{Kind: api.OpDeref, Use: true}
	drain   = api.Op{Kind: api.OpDrain}
)

func newHall(t *testing.T, c api.Config, programs ...[]api.Op) *Hall {
	t.Helper()
	h, e := New(c, programs)
	if e != api.OK {
		t.Fatal(e)
	}
	return h
}

// finish picks a worker until it is idle and has no operations left.
func finish(t *testing.T, h *Hall, w int) {
	t.Helper()
	for n := 0; h.Left(w) > 0 || h.Work(w).Line != 0; n++ {
		if n > 2000 {
			t.Fatalf("worker %d does not finish", w)
		}
		h.Pick(w)
	}
}

// until picks a worker until it is at a line.
func until(t *testing.T, h *Hall, w, line int) {
	t.Helper()
	for n := 0; h.Work(w).Line != line || n == 0; n++ {
		if n > 200 {
			t.Fatalf("worker %d does not reach line %d", w, line)
		}
		h.Pick(w)
	}
}

// P15.1: the errors of New, each before the next.
func TestNewErrors(t *testing.T) {
	long := slices.Repeat([]api.Op{pin}, api.MaxOps+1)
	wrong := []api.Op{pin, {Kind: api.OpAlloc, Slab: 1}}
	bad, great := config, config
	bad.Bag = 0
	great.Words = 5
	for _, c := range []struct {
		name     string
		c        api.Config
		programs [][]api.Op
		want     api.Errno
	}{
		{"too small, before all others", bad, [][]api.Op{wrong, long, nil}, api.ErrArg},
		{"too great, before all others", great, [][]api.Op{wrong, long, nil}, api.ErrRange},
		{"zero", api.Config{}, nil, api.ErrArg},
		{"three programs for two workers", config, [][]api.Op{wrong, long, nil}, api.ErrArg},
		{"three empty programs", config, [][]api.Op{nil, nil, nil}, api.ErrArg},
		{"a long program behind a wrong one", config, [][]api.Op{wrong, long}, api.ErrFull},
		{"a long program", config, [][]api.Op{long}, api.ErrFull},
		{"a long wrong program", config, [][]api.Op{append(slices.Clone(long), api.Op{})}, api.ErrFull},
		{"a wrong operation", config, [][]api.Op{wrong}, api.ErrForm},
		{"a wrong operation of the second", config, [][]api.Op{nil, wrong}, api.ErrForm},
		{"the zero operation", config, [][]api.Op{{{}}}, api.ErrForm},
	} {
		if h, e := New(c.c, c.programs); h != nil || e != c.want {
			t.Errorf("%s: %v, %d, want %d", c.name, h, e, c.want)
		}
	}
	for name, programs := range map[string][][]api.Op{"none": nil, "one": {{pin}}, "two": {nil, {pin}}, "longest": {long[1:], long[1:]}} {
		if h, e := New(config, programs); h == nil || e != api.OK {
			t.Errorf("%s: %v, %d", name, h, e)
		}
	}
}

// P15.1: a new hall, with programs that are copied.
func TestNew(t *testing.T) {
	programs := [][]api.Op{{alloc, pin}}
	h, e := New(config, programs)
	if e != api.OK || h.Tick() != 0 || len(h.Events()) != 0 || h.Left(0) != 2 || h.Left(1) != 0 || !slices.Equal(h.Words(), plan.First(config)) {
		t.Fatalf("%+v, %d", h, e)
	}
	programs[0][0] = pin
	h.Pick(0)
	if h.Work(0).Op != alloc || h.Left(0) != 1 {
		t.Error("a change of the argument changed the program")
	}
}

// P15.1, P15.2: the example, event by event.
func TestExample(t *testing.T) {
	c := api.Config{Workers: 1, Slabs: 1, Blocks: 1, Words: 1, Entries: 1, Bag: 1, Last: 9}
	h := newHall(t, c, []api.Op{alloc})
	for range 14 {
		h.Pick(0)
	}
	lines := []int{1, 2, 3, 10, 33, 34, 50, 20, 21, 22, 40, 41, 90}
	const word = api.Word(1<<20 | 1<<4 | 1) // of the entry: generation 1, block 0, Live
	accesses := []api.Access{
		{Kind: api.ALoad, At: 0, Old: 2}, {Kind: api.AStore, At: 3, X: 5}, {Kind: api.ALoad, At: 0, Old: 2},
		{Kind: api.ALoad, At: 1}, {Kind: api.ALoad, At: 4}, {Kind: api.ACas, At: 4, Y: 1}, {Kind: api.AStore, At: 8, X: 7},
		{Kind: api.ALoad, At: 2, Old: 1}, {Kind: api.ALoad, At: 6}, {Kind: api.ACas, At: 2, X: 1, Y: 1 << 32, Old: 1},
		{Kind: api.ALoad, At: 5, Old: 1 << 20}, {Kind: api.AStore, At: 5, X: word, Old: 1 << 20}, {Kind: api.AStore, At: 3, X: 4, Old: 5},
	}
	before, after := api.Answer{Op: alloc}, api.Answer{Op: alloc, T: 65537}
	want := []api.Event{{Tick: 1, Kind: api.ECall, Answer: before}}
	for i, line := range lines {
		e := api.Event{Tick: i + 2, Kind: api.EStep, Answer: before, Line: line, Access: accesses[i]}
		if i >= 11 {
			e.Answer = after
		}
		want = append(want, e)
		if line == 41 {
			want = append(want, api.Event{Tick: i + 2, Kind: api.EPoint, Answer: after})
		}
	}
	want = append(want, api.Event{Tick: 14, Kind: api.EReturn, Answer: after})
	checkEvents(t, h.Events(), want)
	if h.Tick() != 14 || h.Left(0) != 0 || !slices.Equal(h.Told(0), []api.Word{65537}) {
		t.Errorf("tick %d, told %v", h.Tick(), h.Told(0))
	}
}

// same reports whether two events are equal.
func same(a, b api.Event) bool {
	return a.Tick == b.Tick && a.Worker == b.Worker && a.N == b.N && a.Kind == b.Kind && a.Line == b.Line && a.Access == b.Access &&
		a.Answer.Op == b.Answer.Op && a.Answer.T == b.Answer.T && a.Answer.Ret == b.Answer.Ret && slices.Equal(a.Answer.Read, b.Answer.Read)
}

func checkEvents(t *testing.T, got, want []api.Event) {
	t.Helper()
	if len(got) != len(want) {
		t.Fatalf("%d events, want %d: %+v", len(got), len(want), got)
	}
	for i := range got {
		if !same(got[i], want[i]) {
			t.Errorf("event %d: %+v, want %+v", i, got[i], want[i])
		}
	}
}

// P15.1: picks that only increment the tick.
func TestPicksWithoutWork(t *testing.T) {
	h := newHall(t, config, []api.Op{pin})
	for _, w := range []int{1, 2, -1, 8, math.MinInt, math.MaxInt} {
		h.Pick(w)
	}
	if h.Tick() != 6 || len(h.Events()) != 0 || h.Left(0) != 1 {
		t.Errorf("tick %d, events %v", h.Tick(), h.Events())
	}
	finish(t, h, 0)
	n, tick := len(h.Events()), h.Tick()
	h.Run(0, 0)
	if len(h.Events()) != n || h.Tick() != tick+2 {
		t.Error("a worker without operations did something")
	}
}

// P15.1: Run executes its picks in order, as Pick does one by one.
func TestRun(t *testing.T) {
	picks := []int{0, 1, 1, 0, 5, 0, 1, 1, 1, 0, 0, -1, 0, 1, 0, 0}
	a := newHall(t, config, []api.Op{alloc}, []api.Op{pin, collect})
	b := newHall(t, config, []api.Op{alloc}, []api.Op{pin, collect})
	a.Run(picks...)
	for _, w := range picks {
		b.Pick(w)
	}
	checkEvents(t, a.Events(), b.Events())
	if a.Tick() != len(picks) || len(a.Events()) < 14 {
		t.Errorf("tick %d, %d events", a.Tick(), len(a.Events()))
	}
	a.Run()
	if a.Tick() != len(picks) {
		t.Error("no picks changed the tick")
	}
}

// P15.1: an operation that is done when it starts: the call is OK, the point and the return have the error.
func TestDoneAtTheStart(t *testing.T) {
	for _, c := range []struct {
		o   api.Op
		ret api.Errno
	}{
		{unpin, api.ErrState}, {peek, api.ErrState}, {free, api.ErrBad}, {deref, api.ErrBad}, {write, api.ErrBad}, {api.Op{Kind: api.OpDrain, Slab: 2}, api.ErrBad},
	} {
		h := newHall(t, config, nil, []api.Op{pin, c.o})
		if c.o == unpin || c.o == peek {
			h = newHall(t, config, nil, []api.Op{c.o, c.o})
			h.Pick(1)
		} else {
			h.Run(1, 1, 1, 1)
		}
		n, tick := len(h.Events()), h.Tick()
		h.Pick(1)
		e := api.Event{Tick: tick + 1, Worker: 1, N: 1, Answer: api.Answer{Op: c.o}}
		call, point, back := e, e, e
		call.Kind, point.Kind, back.Kind = api.ECall, api.EPoint, api.EReturn
		point.Answer.Ret, back.Answer.Ret = c.ret, c.ret
		checkEvents(t, h.Events()[n:], []api.Event{call, point, back})
	}
}

// P15.1: the points of operations that succeed and fail, by the line of the step before each EPoint.
func TestPoints(t *testing.T) {
	for _, c := range []struct {
		name    string
		program []api.Op
		points  []int // the line of the point of each operation; 0 at its start
	}{
		{"pin and unpin", []api.Op{pin, pin, unpin, unpin}, []int{3, 0, 90, 0}},
		{"alloc, deref, write, free", []api.Op{alloc, deref, write, collect, free}, []int{41, 60, 45, 73, 43}},
		{"peek", []api.Op{alloc, pin, deref, peek, peek, unpin, peek}, []int{41, 3, 60, 62, 62, 90, 0}},
		{"stale", []api.Op{alloc, free, free, write, deref}, []int{41, 43, 42, 46, 60}},
		{"busy", []api.Op{alloc, write, free, write}, []int{41, 45, 42, 44}},
		{"drain", []api.Op{drain, alloc, drain, drain}, []int{36, 41, 37, 36}},
		{"no entry", []api.Op{alloc, alloc, alloc}, []int{41, 41, 20}},
		{"bad", []api.Op{deref, {Kind: api.OpDrain, Slab: 2}}, []int{0, 0}},
	} {
		h := newHall(t, config, c.program)
		finish(t, h, 0)
		var points []int
		line := 0
		for _, e := range h.Events() {
			switch e.Kind {
			case api.ECall:
				line = 0
			case api.EStep:
				line = e.Line
			case api.EPoint:
				points = append(points, line)
				if e.Line != 0 || e.Access != (api.Access{}) || len(e.Answer.Read) != 0 {
					t.Errorf("%s: the point %+v has the fields of a step", c.name, e)
				}
			}
		}
		if !slices.Equal(points, c.points) {
			t.Errorf("%s: points at %v, want %v", c.name, points, c.points)
		}
	}
}

// P15.1: a read has its point before or at its first word, a Deref at line 60 and a Peek at line 62 with J 0, however many words it reads.
func TestPointOfAReadIsBeforeItsSecondWord(t *testing.T) {
	for words := 1; words <= api.MaxWords; words++ {
		c := config
		c.Words = words
		h := newHall(t, c, []api.Op{pin, alloc, deref, peek, peek})
		for h.Left(0) > 3 || h.Work(0).Line != 0 {
			h.Pick(0)
		}
		n := len(h.Events())
		finish(t, h, 0)
		var kinds []int
		for _, e := range h.Events()[n:] {
			kinds = append(kinds, e.Kind)
		}
		more := slices.Repeat([]int{api.EStep}, words-1)
		wantDeref := slices.Concat([]int{api.ECall, api.EStep, api.EPoint, api.EStep}, more, []int{api.EReturn})
		wantPeek := slices.Concat([]int{api.ECall, api.EStep, api.EPoint}, more, []int{api.EReturn})
		if want := slices.Concat(wantDeref, wantPeek, wantPeek); !slices.Equal(kinds, want) {
			t.Errorf("%d words: events %v, want %v", words, kinds, want)
		}
	}
}

// P15.1: an Alloc that finds no block has its point at line 38.
func TestPointOfAFullPool(t *testing.T) {
	c := config
	c.Slabs, c.Blocks = 1, 1
	h := newHall(t, c, []api.Op{alloc, alloc, write})
	finish(t, h, 0)
	line := 0
	var full []int
	for _, e := range h.Events() {
		if e.Kind == api.EStep {
			line = e.Line
		}
		if e.Kind == api.EPoint && e.Answer.Ret == api.ErrFull {
			full = append(full, line)
		}
	}
	if !slices.Equal(full, []int{38, 38}) {
		t.Errorf("points at %v", full)
	}
}

// P15.1: a compare-and-swap that fails, because another worker stepped in between, is no point.
func TestFailedSwapIsNoPoint(t *testing.T) {
	c := config
	c.Bag = 2
	for line, program := range map[int][]api.Op{43: {free}, 45: {write}} {
		h := newHall(t, c, []api.Op{alloc, write}, program)
		for h.Left(0) > 1 || h.Work(0).Line != 0 {
			h.Pick(0)
		}
		until(t, h, 1, line)
		finish(t, h, 0)
		n := len(h.Events())
		h.Pick(1)
		l := h.Events()[n:]
		if len(l) != 1 || l[0].Kind != api.EStep || l[0].Line != line || h.Work(1).Line != line-1 {
			t.Errorf("line %d: %+v, next line %d", line, l, h.Work(1).Line)
		}
		finish(t, h, 1)
		points := 0
		for _, e := range h.Events()[n:] {
			if e.Kind == api.EPoint {
				points++
			}
		}
		if points != 1 {
			t.Errorf("line %d: %d points", line, points)
		}
	}
}

// P15.1: a drain whose swap fails has its point at line 36, when it finds the slab drained by another.
func TestFailedDrain(t *testing.T) {
	h := newHall(t, config, []api.Op{alloc, drain}, []api.Op{drain})
	for h.Left(0) > 1 || h.Work(0).Line != 0 {
		h.Pick(0)
	}
	until(t, h, 1, 37)
	finish(t, h, 0)
	n := len(h.Events())
	h.Run(1, 1)
	var kinds []int
	for _, e := range h.Events()[n:] {
		kinds = append(kinds, e.Kind)
	}
	if !slices.Equal(kinds, []int{api.EStep, api.EStep, api.EPoint, api.EReturn}) || h.Work(1).Ret != api.ErrState {
		t.Errorf("events %v, %d", kinds, h.Work(1).Ret)
	}
}

// P15.1: a pin whose announcement came too late has its point when it is inside.
func TestLatePin(t *testing.T) {
	h := newHall(t, config, []api.Op{pin}, []api.Op{collect})
	until(t, h, 0, 2)
	finish(t, h, 1)
	h.Run(0, 0)
	if h.Work(0).Line != 2 || h.Work(0).E != 3 || h.Work(0).Pinned {
		t.Fatalf("%+v", h.Work(0))
	}
	h.Run(0, 0)
	l := h.Events()
	if l[len(l)-2].Kind != api.EPoint || l[len(l)-1].Kind != api.EReturn || !h.Work(0).Pinned {
		t.Errorf("%+v", l[len(l)-2:])
	}
	points := 0
	for _, e := range l {
		if e.Kind == api.EPoint && e.Worker == 0 {
			points++
		}
	}
	if points != 1 {
		t.Errorf("%d points", points)
	}
}

// P15.2: what is read is in the EReturn only.
func TestReadIsInTheReturn(t *testing.T) {
	h := newHall(t, config, []api.Op{pin, alloc, deref, peek})
	finish(t, h, 0)
	returns := 0
	for _, e := range h.Events() {
		want := 0
		if e.Kind == api.EReturn && (e.Answer.Op == deref || e.Answer.Op == peek) {
			want = 2
			returns++
			if !slices.Equal(e.Answer.Read, []api.Word{7, 8}) {
				t.Errorf("read %v", e.Answer.Read)
			}
		}
		if len(e.Answer.Read) != want {
			t.Errorf("%+v", e)
		}
	}
	if returns != 2 {
		t.Errorf("%d returns", returns)
	}
}

// P15.1: a reference denotes the ticket of an Alloc that returned before the operation starts.
func TestReferences(t *testing.T) {
	full := api.Op{Kind: api.OpAlloc, X: 5}
	at := func(by, nth int) api.Op { return api.Op{Kind: api.OpDeref, Use: true, By: by, Nth: nth} }
	first, second := pack.Ticket(0, 1), pack.Ticket(1, 1)
	h := newHall(t, config, []api.Op{at(0, 0), alloc, alloc, full, at(0, 0), at(0, 1), at(0, 2), at(1, 0), at(2, 0), at(math.MaxInt, 0), at(0, math.MaxInt)})
	finish(t, h, 0)
	var got []api.Word
	for _, e := range h.Events() {
		if e.Kind == api.ECall && e.Answer.Op.Kind == api.OpDeref {
			got = append(got, e.Answer.T)
		}
	}
	if want := []api.Word{0, first, second, 0, 0, 0, 0, 0}; !slices.Equal(got, want) {
		t.Errorf("tickets %v, want %v", got, want)
	}
	if !slices.Equal(h.Told(0), []api.Word{first, second}) || len(h.Told(1)) != 0 {
		t.Errorf("told %v and %v", h.Told(0), h.Told(1))
	}
}

// P15.1: a reference to another worker's Alloc; before that has returned there is no ticket.
func TestReferenceBeforeTheReturn(t *testing.T) {
	for _, c := range []struct {
		line int
		t    api.Word
	}{{41, 0}, {90, 0}, {0, 65537}} {
		h := newHall(t, config, []api.Op{alloc}, []api.Op{deref})
		until(t, h, 0, c.line)
		if c.line == 0 {
			finish(t, h, 0)
		}
		h.Pick(1)
		if got := h.Work(1).T; got != c.t || (len(h.Told(0)) == 0) != (c.t == 0) {
			t.Errorf("with the Alloc at line %d: ticket %d, told %v", c.line, got, h.Told(0))
		}
	}
	h := newHall(t, config, []api.Op{alloc}, []api.Op{{Kind: api.OpDeref, T: 65537}})
	h.Pick(1)
	if h.Work(1).T != 65537 {
		t.Errorf("the literal became %d", h.Work(1).T)
	}
}

// P15.2: workers that do not exist.
func TestWorkersThatDoNotExist(t *testing.T) {
	h := newHall(t, config, []api.Op{alloc, alloc}, []api.Op{alloc, alloc})
	finish(t, h, 0)
	h.Run(1, 1, 1)
	for _, w := range []int{-1, 2, 8, math.MinInt, math.MaxInt} {
		if !rack.Same(h.Work(w), api.Work{}) || h.Left(w) != 0 || len(h.Told(w)) != 0 {
			t.Errorf("worker %d: %+v, %d, %v", w, h.Work(w), h.Left(w), h.Told(w))
		}
	}
	if h.Left(1) != 1 || h.Work(1).Line != 3 {
		t.Errorf("worker 1: %d left, line %d", h.Left(1), h.Work(1).Line)
	}
}

// P15.2: results are copies.
func TestResultsAreCopies(t *testing.T) {
	h := newHall(t, config, []api.Op{alloc, deref, pin})
	finish(t, h, 0)
	events, state, words, told := h.Events(), h.Work(0), h.Words(), h.Told(0)
	if len(state.Rack) == 0 {
		t.Fatal("the rack is empty")
	}
	for i := range events {
		for j := range events[i].Answer.Read {
			events[i].Answer.Read[j] = 99
		}
		events[i].Tick = -1
	}
	state.Rack[0], words[0], told[0] = 99, 99, 99
	for _, e := range h.Events() {
		if e.Tick < 1 || slices.Contains(e.Answer.Read, 99) {
			t.Fatalf("%+v", e)
		}
	}
	if h.Work(0).Rack[0] == 99 || h.Words()[0] == 99 || h.Told(0)[0] == 99 {
		t.Error("a change of a result changed the hall")
	}
}

// P15.2: a nil hall and the zero hall.
func TestNilHall(t *testing.T) {
	var none *Hall
	for name, h := range map[string]*Hall{"nil": none, "zero": {}} {
		h.Pick(0)
		h.Run(0, 1, -1)
		if h != nil && h.Tick() != 4 || h == nil && h.Tick() != 0 {
			t.Errorf("%s: tick %d", name, h.Tick())
		}
		if len(h.Events()) != 0 || !rack.Same(h.Work(0), api.Work{}) || h.Left(0) != 0 || len(h.Words()) != 0 || len(h.Told(0)) != 0 {
			t.Errorf("%s has something", name)
		}
	}
}

// P15.2: one step's events are of the worker that was picked, with its tick and the index of its operation.
func TestEventFields(t *testing.T) {
	h := newHall(t, config, []api.Op{pin, unpin}, []api.Op{alloc, free})
	r := rand.New(rand.NewSource(2))
	for range 200 {
		w := r.Intn(2)
		before, line := len(h.Events()), h.Work(w).Line
		left := h.Left(w)
		h.Pick(w)
		l := h.Events()[before:]
		n := []int{2, 2}[w] - h.Left(w) - 1
		for i, e := range l {
			if e.Tick != h.Tick() || e.Worker != w || e.N != n || i > 0 && e.Kind <= l[i-1].Kind {
				t.Fatalf("event %+v of worker %d at tick %d", e, w, h.Tick())
			}
		}
		switch {
		case line != 0 && (len(l) == 0 || l[0].Kind != api.EStep || l[0].Line != line):
			t.Fatalf("a step at line %d: %+v", line, l)
		case line == 0 && left > 0 && (len(l) == 0 || l[0].Kind != api.ECall || h.Left(w) != left-1):
			t.Fatalf("a start: %+v", l)
		case line == 0 && left == 0 && len(l) != 0:
			t.Fatalf("nothing to do: %+v", l)
		}
	}
}
