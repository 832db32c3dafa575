// Package steps tests what the step functions of layers 6 to 13 have in common.
package steps

import (
	"math"
	"math/rand"
	"slices"
	"testing"

	"coatcheck/api"
	"coatcheck/bag"
	"coatcheck/entry"
	"coatcheck/epoch"
	"coatcheck/give"
	"coatcheck/memory"
	"coatcheck/oper"
	"coatcheck/plan"
	"coatcheck/rack"
	"coatcheck/slab"
	"coatcheck/stack"
	"coatcheck/take"
	"coatcheck/work"
)

var config = api.Config{Workers: 3, Slabs: 2, Blocks: 2, Words: 2, Entries: 3, Rack: 2, Bag: 2, Last: 9}

// layer is a step function with the lines that it knows. The step of layer 13 has no outcome of its own: it is never finished otherwise than by its line.
type layer struct {
	name  string
	step  func(m *memory.Memory, w int, x api.Work) (api.Work, int, bool)
	lines []int
}

func layers() []layer {
	plain := func(step func(*memory.Memory, api.Work) (api.Work, int, bool)) func(*memory.Memory, int, api.Work) (api.Work, int, bool) {
		return func(m *memory.Memory, _ int, x api.Work) (api.Work, int, bool) { return step(m, x) }
	}
	whole := func(give bool) func(m *memory.Memory, w int, x api.Work) (api.Work, int, bool) {
		return func(m *memory.Memory, w int, x api.Work) (api.Work, int, bool) {
			x.Give = give
			y, ok := work.Step(m, w, x)
			return y, api.Going, ok
		}
	}
	common := []int{1, 2, 3, 90, 70, 71, 72, 73, 36, 37, 50, 20, 21, 22, 40, 41, 42, 43, 23, 24, 25, 46, 44, 45, 60, 61, 62}
	return []layer{
		{"stack", plain(stack.Step), []int{10, 11, 12, 13, 14, 15, 20, 21, 22, 23, 24, 25}},
		{"epoch", epoch.Step, []int{1, 2, 3, 90, 70, 71, 72}},
		{"slab", plain(slab.Step), []int{30, 31, 32, 33, 34, 35, 36, 37, 39}},
		{"take", plain(take.Step), []int{10, 11, 12, 30, 31, 32, 33, 34, 35, 38}},
		{"give", plain(give.Step), []int{13, 14, 15, 30, 31, 32, 39}},
		{"entry", plain(entry.Step), []int{20, 21, 22, 23, 24, 25, 40, 41, 42, 43, 44, 45, 46, 60}},
		{"work", whole(false), append([]int{10, 11, 12, 30, 31, 32, 33, 34, 35, 38}, common...)},
		{"work, giving", whole(true), append([]int{13, 14, 15, 30, 31, 32, 39}, common...)},
	}
}

// someLines returns lines around those that exist.
func someLines() []int {
	l := []int{math.MinInt, math.MaxInt, 1000}
	for i := -5; i < 120; i++ {
		l = append(l, i)
	}
	return l
}

// spare returns a list with capacity to spare, so that an append into it would show.
func spare[T any](l ...T) []T {
	n := make([]T, len(l)+6)
	copy(n, l)
	return n[:len(l)]
}

// full returns a state in which each field is set.
func full(line int) api.Work {
	return api.Work{
		Line: line, Op: api.Op{Kind: api.OpWrite, T: 65537, X: 7, Slab: 1}, Pinned: true, E: 2,
		Rack: spare(0), Hold: spare(1, 2), Bags: [3]api.Bag{{Tag: 3, L: spare(3)}, {Tag: 1, L: spare(3)}, {Tag: 2, L: spare(0)}},
		B: 1, K: 2, I: 1, C: 3, Borrow: 4, H: 1, N: 2, V: 3, U: 4, G: 5, J: 1, Read: spare[api.Word](6), T: 65537,
	}
}

func newMemory(t *testing.T) *memory.Memory {
	t.Helper()
	m, e := memory.New(config)
	if e != api.OK {
		t.Fatal(e)
	}
	return m
}

// P6.1, P7.1, P8.1, P9.1, P10.1, P11.1, P13.1: lines that a layer does not have leave everything as it is, also the recorded access.
func TestLinesThatAreUnknown(t *testing.T) {
	for _, l := range layers() {
		for _, line := range someLines() {
			m := newMemory(t)
			m.Load(2)
			seen, words := m.Seen, m.All()
			x := full(line)
			y, outcome, ok := l.step(m, 0, x)
			if known := slices.Contains(l.lines, line); ok != known {
				t.Errorf("%s, line %d: %v", l.name, line, ok)
			}
			if ok {
				continue
			}
			x.Give = y.Give
			if outcome != api.Going || !rack.Same(x, y) || m.Seen != seen || !slices.Equal(words, m.All()) {
				t.Errorf("%s, line %d: %+v, %d, seen %+v", l.name, line, y, outcome, m.Seen)
			}
		}
	}
}

// The same promises: with a nil memory each line is unknown.
func TestNilMemory(t *testing.T) {
	for _, l := range layers() {
		for _, line := range someLines() {
			x := full(line)
			y, outcome, ok := l.step(nil, 0, x)
			x.Give = y.Give
			if ok || outcome != api.Going || !rack.Same(x, y) {
				t.Errorf("%s, line %d: %+v, %d, %v", l.name, line, y, outcome, ok)
			}
		}
	}
}

// The same promises: after a step the record is of this step only, and a step that is finished has line 0.
func TestRecordAndLine(t *testing.T) {
	for _, l := range layers() {
		for _, line := range l.lines {
			m := newMemory(t)
			m.Store(3, 12345)
			old := m.Seen
			y, outcome, _ := l.step(m, 0, full(line))
			if m.Seen == old {
				t.Errorf("%s, line %d: the record was not replaced", l.name, line)
			}
			if outcome != api.Going && y.Line != 0 || outcome == api.Going && y.Line == 0 && l.name[:4] != "work" {
				t.Errorf("%s, line %d: outcome %d, next line %d", l.name, line, outcome, y.Line)
			}
		}
	}
}

// whole returns all numbers of the lists of a state, with those beyond their lengths.
func whole(x api.Work) []int {
	var n []int
	for _, l := range [][]int{x.Rack, x.Hold, x.Bags[0].L, x.Bags[1].L, x.Bags[2].L} {
		n = append(n, l[:cap(l)]...)
	}
	for _, w := range x.Read[:cap(x.Read)] {
		n = append(n, int(w))
	}
	return n
}

// scribble overwrites the lists of a state.
func scribble(x api.Work) {
	for _, l := range [][]int{x.Rack, x.Hold, x.Bags[0].L, x.Bags[1].L, x.Bags[2].L} {
		l = l[:cap(l)]
		for i := range l {
			l[i] = -99
		}
	}
	l := x.Read[:cap(x.Read)]
	for i := range l {
		l[i] = 99
	}
}

// The rules of the document: no step modifies the lists of its argument or shares memory with it, whether it knows the line or not.
func TestNoSharedMemory(t *testing.T) {
	for _, l := range layers() {
		for _, line := range someLines() {
			for _, m := range []*memory.Memory{newMemory(t), nil} {
				x, want := full(line), full(line)
				y, _, _ := l.step(m, 0, x)
				scribble(y)
				if !rack.Same(x, want) || !slices.Equal(whole(x), whole(want)) {
					t.Errorf("%s, line %d: the argument became %+v", l.name, line, x)
				}
			}
		}
	}
}

// The same rules for the functions that start an operation.
func TestStartsShareNoMemory(t *testing.T) {
	starts := map[string]func(x api.Work) api.Work{
		"take": take.Begin,
		"give": func(x api.Work) api.Work { y, _ := give.Begin(x); return y },
		"take, rack empty": func(x api.Work) api.Work {
			x.Rack = nil
			return take.Begin(x)
		},
		"give, hold list empty": func(x api.Work) api.Work {
			x.Hold = nil
			y, _ := give.Begin(x)
			return y
		},
	}
	for kind := range 11 {
		for _, pinned := range []bool{false, true} {
			starts["work"+string(rune('0'+kind))+map[bool]string{true: ", pinned"}[pinned]] = func(x api.Work) api.Work {
				x.Pinned = pinned
				return work.Begin(config, x, api.Op{Kind: kind}, 65537)
			}
		}
	}
	for name, start := range starts {
		x, want := full(5), full(5)
		scribble(start(x))
		if !rack.Same(x, want) || !slices.Equal(whole(x), whole(want)) {
			t.Errorf("%s: the argument became %+v", name, x)
		}
	}
}

// odd has numbers at the borders of what exists and of what fits.
var odd = []int{math.MinInt, math.MinInt + 1, -2, -1, 0, 1, 2, 3, 4, 5, 8, 9, 16, 100, 1 << 16, 1 << 32, 1<<32 + 1, math.MaxInt - 1, math.MaxInt}

func oddInt(r *rand.Rand) int { return odd[r.Intn(len(odd))] }

func oddWord(r *rand.Rand) api.Word {
	if r.Intn(4) == 0 {
		return r.Uint64()
	}
	return api.Word(oddInt(r))
}

func oddInts(r *rand.Rand) []int {
	var l []int
	for range r.Intn(4) {
		l = append(l, oddInt(r))
	}
	return l
}

// anyWork returns a state of any numbers at a line.
func anyWork(r *rand.Rand, line int) api.Work {
	x := api.Work{
		Line: line, Op: anyOp(r), Pinned: r.Intn(2) == 0, E: oddWord(r), Rack: oddInts(r), Hold: oddInts(r),
		B: oddInt(r), K: oddInt(r), I: oddInt(r), C: oddInt(r), Borrow: oddInt(r), H: oddWord(r), N: oddWord(r), V: oddWord(r), U: oddWord(r),
		G: oddWord(r), J: oddInt(r), T: oddWord(r), Ret: api.Errno(oddInt(r)), Give: r.Intn(2) == 0,
	}
	for i := range x.Bags {
		x.Bags[i] = api.Bag{Tag: oddWord(r), L: oddInts(r)}
	}
	for range r.Intn(3) {
		x.Read = append(x.Read, oddWord(r))
	}
	return x
}

func anyOp(r *rand.Rand) api.Op {
	return api.Op{Kind: r.Intn(13) - 1, T: oddWord(r), X: oddWord(r), Slab: oddInt(r), Use: r.Intn(2) == 0, By: oddInt(r), Nth: oddInt(r)}
}

// anyMemory returns a memory of any words, or one without words.
func anyMemory(r *rand.Rand) *memory.Memory {
	if r.Intn(8) == 0 {
		return &memory.Memory{}
	}
	l := make([]api.Word, plan.Plan{Config: config}.Size())
	for i := range l {
		l[i] = oddWord(r)
	}
	m, _ := memory.From(config, l...)
	return m
}

// P1, P2: no step panics, whatever the state and the memory are, and its recorded access explains the change of the memory.
func TestAnyStateAndMemory(t *testing.T) {
	r := rand.New(rand.NewSource(1))
	for _, l := range layers() {
		for _, line := range l.lines {
			for range 300 {
				m, w, x := anyMemory(r), oddInt(r), anyWork(r, line)
				words := m.All()
				_, _, ok := l.step(m, w, x)
				if !ok {
					t.Fatalf("%s, line %d is unknown", l.name, line)
				}
				switch a := m.Seen; {
				case a.Kind == api.AStore:
					words[a.At] = a.X
				case a.Kind == api.AAdd:
					words[a.At] += a.X
				case a.Kind == api.ACas && a.X == words[a.At]:
					words[a.At] = a.Y
				}
				if !slices.Equal(words, m.All()) {
					t.Fatalf("%s, line %d: the access %+v does not explain the memory", l.name, line, m.Seen)
				}
			}
		}
	}
}

// P1: none of the other functions panics, whatever its arguments are.
func TestAnyArguments(t *testing.T) {
	r := rand.New(rand.NewSource(2))
	for range 20000 {
		c := config
		if r.Intn(3) == 0 {
			c = api.Config{Workers: oddInt(r), Slabs: oddInt(r), Blocks: oddInt(r), Words: oddInt(r), Entries: oddInt(r), Rack: oddInt(r), Bag: oddInt(r), Last: oddWord(r)}
		}
		words := anyMemory(r).All()
		x, y, i, w := anyWork(r, r.Intn(100)), anyWork(r, 0), oddInt(r), oddWord(r)
		rack.Put(c, x, i)
		rack.Take(x)
		rack.Hold(x, oddInts(r)...)
		rack.Next(x)
		rack.Same(x, y)
		bag.Room(c, x)
		bag.Put(c, x, i)
		bag.Ripe(x, w)
		bag.Count(x)
		bag.Waits(x, i)
		stack.List(c, words, r.Intn(2) == 0)
		epoch.Inside(c, words, i)
		epoch.Least(c, words)
		slab.Ready(w, oddWord(r))
		slab.Gone(c, words, i)
		slab.Parked(c, words, i)
		slab.State(c, words, i)
		take.Begin(x)
		take.Spare(c, words, w)
		give.Begin(x)
		give.Owes(x)
		entry.Good(c, w)
		entry.Live(c, words, w)
		work.Begin(c, x, anyOp(r), w)
		work.Idle(x)
		o := anyOp(r)
		if text, e := oper.Text(o); e == api.OK {
			if back, e := oper.Parse(text); e != api.OK || back != o {
				t.Fatalf("%+v became %q and %+v", o, text, back)
			}
		}
	}
}
