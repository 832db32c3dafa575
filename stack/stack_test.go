package stack

import (
	"math"
	"math/rand"
	"slices"
	"testing"

	"coatcheck/api"
	"coatcheck/memory"
	"coatcheck/pack"
	"coatcheck/plan"
	"coatcheck/rack"
)

var config = api.Config{Workers: 3, Slabs: 2, Blocks: 2, Words: 1, Entries: 4, Rack: 0, Bag: 1, Last: 9}

var layout = plan.Plan{Config: config}

// lists are the two free lists, by which a test runs for both: the first line, the head, the number of elements, and the link of an element.
var lists = []struct {
	name    string
	base    int
	head    int
	count   int
	link    func(element int) int
	entries bool
}{
	{"blocks", 10, plan.AtBlocks, 4, layout.BlockLink, false},
	{"entries", 20, plan.AtEntries, 4, layout.EntryLink, true},
}

// empty returns a memory with both lists empty at these versions.
func empty(t *testing.T, version api.Word) *memory.Memory {
	t.Helper()
	m, e := memory.New(config)
	if e != api.OK {
		t.Fatal(e)
	}
	m.Store(plan.AtBlocks, pack.Head(-1, version))
	m.Store(plan.AtEntries, pack.Head(-1, version))
	return m
}

// chain makes a list of these elements, from top to bottom.
func chain(m *memory.Memory, head int, link func(int) int, version api.Word, l ...int) {
	m.Store(head, pack.Head(-1, version))
	for _, x := range slices.Backward(l) {
		top, _ := pack.Unhead(m.Peek(head))
		m.Store(link(x), api.Word(top+1))
		m.Store(head, pack.Head(x, version))
	}
}

// pushing returns a state that is to push an element.
func pushing(base, element int) api.Work {
	x := api.Work{Line: base + 3}
	if base == 10 {
		x.K = element + 1
	} else {
		x.I = element + 1
	}
	return x
}

// run executes steps until the operation is finished.
func run(t *testing.T, m *memory.Memory, x api.Work) (api.Work, int, int) {
	t.Helper()
	for n := 1; n < 100; n++ {
		y, outcome, ok := Step(m, x)
		if !ok {
			t.Fatalf("line %d is unknown", x.Line)
		}
		if outcome != api.Going {
			return y, outcome, n
		}
		x = y
	}
	t.Fatal("the operation does not finish")
	return x, 0, 0
}

// P6.1: each row of the table, with its access, its next line and its outcome.
func TestLines(t *testing.T) {
	const version = 5
	for _, f := range lists {
		for _, c := range []struct {
			name    string
			x       api.Work
			want    api.Work
			outcome int
			seen    api.Access
		}{
			{"load an empty head", api.Work{Line: f.base, H: 7}, api.Work{V: 6 << 32}, api.None, api.Access{Kind: api.ALoad, At: f.head, Old: 6 << 32}},
			{"load a head", api.Work{Line: f.base}, api.Work{Line: f.base + 1, H: 3, V: version<<32 | 3}, api.Going, api.Access{Kind: api.ALoad, At: f.head, Old: version<<32 | 3}},
			{"load a link", api.Work{Line: f.base + 1, H: 3, V: 9}, api.Work{Line: f.base + 2, H: 3, V: 9, N: 77<<32 | 2}, api.Going, api.Access{Kind: api.ALoad, At: f.link(2), Old: 77<<32 | 2}},
			{"pop", api.Work{Line: f.base + 2, H: 3, V: version<<32 | 3, N: 77<<32 | 2}, api.Work{H: 3, V: version<<32 | 3, N: 77<<32 | 2}, api.Got, api.Access{Kind: api.ACas, At: f.head, X: version<<32 | 3, Y: 6<<32 | 2, Old: version<<32 | 3}},
			{"pop fails", api.Work{Line: f.base + 2, H: 3, V: 4<<32 | 3, N: 2}, api.Work{Line: f.base, H: 3, V: 4<<32 | 3, N: 2}, api.Going, api.Access{Kind: api.ACas, At: f.head, X: 4<<32 | 3, Y: 5<<32 | 2, Old: version<<32 | 3}},
			{"load the head below", api.Work{Line: f.base + 3, K: 2, I: 2}, api.Work{Line: f.base + 4, K: 2, I: 2, V: version<<32 | 3}, api.Going, api.Access{Kind: api.ALoad, At: f.head, Old: version<<32 | 3}},
			{"store the link", api.Work{Line: f.base + 4, K: 4, I: 4, V: version<<32 | 3}, api.Work{Line: f.base + 5, K: 4, I: 4, V: version<<32 | 3}, api.Going, api.Access{Kind: api.AStore, At: f.link(3), X: 3, Old: 55}},
			{"push", api.Work{Line: f.base + 5, K: 4, I: 4, V: version<<32 | 3}, api.Work{K: 4, I: 4, V: version<<32 | 3}, api.Got, api.Access{Kind: api.ACas, At: f.head, X: version<<32 | 3, Y: 6<<32 | 4, Old: version<<32 | 3}},
			{"push fails", api.Work{Line: f.base + 5, K: 4, I: 4, V: version<<32 | 2}, api.Work{Line: f.base + 3, K: 4, I: 4, V: version<<32 | 2}, api.Going, api.Access{Kind: api.ACas, At: f.head, X: version<<32 | 2, Y: 6<<32 | 4, Old: version<<32 | 3}},
		} {
			m := empty(t, 6)
			if c.name != "load an empty head" {
				chain(m, f.head, f.link, version, 2, 1)
				m.Store(f.link(2), 77<<32|2)
				m.Store(f.link(3), 55)
			}
			words := m.All()
			got, outcome, ok := Step(m, c.x)
			if !ok || outcome != c.outcome || !rack.Same(got, c.want) || m.Seen != c.seen {
				t.Errorf("%s, %s: %+v, %d, %v, seen %+v, want %+v, %d, %+v", f.name, c.name, got, outcome, ok, m.Seen, c.want, c.outcome, c.seen)
			}
			checkEffect(t, f.name+", "+c.name, words, m)
		}
	}
}

// checkEffect compares the memory with the words before a step and its recorded access.
func checkEffect(t *testing.T, name string, words []api.Word, m *memory.Memory) {
	t.Helper()
	switch a := m.Seen; {
	case a.Kind == api.AStore:
		words[a.At] = a.X
	case a.Kind == api.ACas && a.Old == a.X:
		words[a.At] = a.Y
	}
	if !slices.Equal(words, m.All()) {
		t.Errorf("%s: the words are %v, want %v", name, m.All(), words)
	}
}

// P6.1: where the element does not exist there is no access, and 0 is loaded.
func TestElementsThatDoNotExist(t *testing.T) {
	for _, f := range lists {
		for _, h := range []api.Word{0, 5, 1 << 32, 1<<32 | 1, 1 << 63, math.MaxUint64} {
			m := empty(t, 6)
			m.Store(f.link(0), 4)
			words := m.All()
			x := api.Work{Line: f.base + 1, H: h, N: 9}
			got, outcome, ok := Step(m, x)
			want := api.Work{Line: f.base + 2, H: h}
			if !ok || outcome != api.Going || !rack.Same(got, want) || m.Seen != (api.Access{}) || !slices.Equal(words, m.All()) {
				t.Errorf("%s, link of %d: %+v, seen %+v", f.name, h, got, m.Seen)
			}
		}
		for _, element := range []int{math.MinInt, -2, -1, 4, math.MaxInt - 1} {
			m := empty(t, 6)
			words := m.All()
			x := pushing(f.base, element)
			x.Line = f.base + 4
			got, outcome, ok := Step(m, x)
			x.Line = f.base + 5
			if !ok || outcome != api.Going || !rack.Same(got, x) || m.Seen != (api.Access{}) || !slices.Equal(words, m.All()) {
				t.Errorf("%s, push of %d: %+v, seen %+v", f.name, element, got, m.Seen)
			}
		}
	}
}

// P6.3: alone, a pop removes the top and a push adds one, each in three steps; the example is the first pop.
func TestPopAndPushAlone(t *testing.T) {
	for _, f := range lists {
		m := empty(t, 0)
		chain(m, f.head, f.link, 0, 1, 0)
		for i, c := range []struct {
			x       api.Work
			outcome int
			popped  api.Word
			after   []int
		}{
			{api.Work{Line: f.base}, api.Got, 2, []int{0}},
			{pushing(f.base, 3), api.Got, 0, []int{3, 0}},
			{pushing(f.base, 1), api.Got, 0, []int{1, 3, 0}},
			{api.Work{Line: f.base}, api.Got, 2, []int{3, 0}},
			{api.Work{Line: f.base}, api.Got, 4, []int{0}},
			{api.Work{Line: f.base}, api.Got, 1, nil},
			{api.Work{Line: f.base}, api.None, 0, nil},
			{pushing(f.base, 2), api.Got, 0, []int{2}},
		} {
			x, outcome, steps := run(t, m, c.x)
			if outcome != c.outcome || x.H != c.popped || x.Line != 0 || outcome == api.Got && steps != 3 {
				t.Errorf("%s %d: %d after %d steps, H %d", f.name, i, outcome, steps, x.H)
			}
			if l, ok := List(config, m.All(), f.entries); !ok || !slices.Equal(l, c.after) {
				t.Errorf("%s %d: the list is %v, %v", f.name, i, l, ok)
			}
		}
		if _, version := pack.Unhead(m.Peek(f.head)); version != 7 {
			t.Errorf("%s: version %d after 7 successes", f.name, version)
		}
	}
}

// P6.1: the version wraps around modulo 2^32 and leaves the index alone.
func TestVersionWraps(t *testing.T) {
	for _, f := range lists {
		m := empty(t, math.MaxUint32)
		run(t, m, pushing(f.base, 3))
		if m.Peek(f.head) != 4 {
			t.Errorf("%s: push made the head %#x", f.name, m.Peek(f.head))
		}
		chain(m, f.head, f.link, math.MaxUint32, 3)
		run(t, m, api.Work{Line: f.base})
		if m.Peek(f.head) != 0 {
			t.Errorf("%s: pop made the head %#x", f.name, m.Peek(f.head))
		}
	}
}

// P6.3: a pop whose top was popped and pushed again in between does not succeed with its old link.
func TestNoABA(t *testing.T) {
	for _, f := range lists {
		m := empty(t, 0)
		chain(m, f.head, f.link, 0, 2, 1, 0)
		x, _, _ := Step(m, api.Work{Line: f.base})
		x, _, _ = Step(m, x)
		run(t, m, api.Work{Line: f.base})
		run(t, m, api.Work{Line: f.base})
		run(t, m, pushing(f.base, 2))
		y, outcome, _ := Step(m, x)
		if outcome != api.Going || y.Line != f.base {
			t.Errorf("%s: the old pop succeeded: %+v", f.name, y)
		}
		y, _, _ = run(t, m, y)
		if l, ok := List(config, m.All(), f.entries); y.H != 3 || !ok || !slices.Equal(l, []int{0}) {
			t.Errorf("%s: popped %d, left %v", f.name, y.H, l)
		}
	}
}

// actor pops an element and pushes it again, for some rounds.
type actor struct {
	x      api.Work
	rounds int
	mine   int // the popped element, or -1
}

// act executes a step of an actor on a list and returns what it popped or pushed, or -1.
func (a *actor) act(t *testing.T, m *memory.Memory, base int) (popped, pushed int) {
	t.Helper()
	var outcome int
	a.x, outcome, _ = Step(m, a.x)
	if outcome == api.Going {
		return -1, -1
	}
	a.rounds--
	if a.mine >= 0 {
		pushed, a.mine, a.x = a.mine, -1, api.Work{Line: base}
		return -1, pushed
	}
	if outcome == api.None {
		a.x = api.Work{Line: base}
		return -1, -1
	}
	a.mine = int(a.x.H) - 1
	a.x = pushing(base, a.mine)
	return a.mine, -1
}

// checkParts reports an element that is not exactly once on the list or with an actor.
func checkParts(t *testing.T, m *memory.Memory, entries bool, actors []actor) bool {
	t.Helper()
	l, ok := List(config, m.All(), entries)
	if !ok {
		t.Errorf("not a list: %v", m.All())
		return false
	}
	for _, a := range actors {
		if a.mine >= 0 {
			l = append(l, a.mine)
		}
	}
	slices.Sort(l)
	if !slices.Equal(l, []int{0, 1, 2, 3}) {
		t.Errorf("the elements are %v", l)
		return false
	}
	return true
}

// P6.3: under all interleavings of two workers that pop and push, no element is doubled or lost.
func TestAllInterleavingsOfTwo(t *testing.T) {
	for _, f := range lists {
		m := empty(t, 0)
		chain(m, f.head, f.link, 0, 3, 2, 1, 0)
		start := []actor{{api.Work{Line: f.base}, 2, -1}, {api.Work{Line: f.base}, 2, -1}}
		n := explore(t, m, f.base, f.entries, start)
		if n < 1000 {
			t.Errorf("%s: only %d interleavings", f.name, n)
		}
	}
}

// explore executes each next step in a copy, and returns the number of complete interleavings.
func explore(t *testing.T, m *memory.Memory, base int, entries bool, actors []actor) int {
	n, ended := 0, true
	for i := range actors {
		if actors[i].rounds == 0 {
			continue
		}
		ended = false
		next, after := m.Copy(), slices.Clone(actors)
		after[i].act(t, next, base)
		if !checkParts(t, next, entries, after) {
			t.FailNow()
		}
		n += explore(t, next, base, entries, after)
	}
	if ended {
		return 1
	}
	return n
}

// P6.3: long random interleavings of three workers, in which each push and each pop counts once.
func TestRandomInterleavings(t *testing.T) {
	r := rand.New(rand.NewSource(1))
	for _, f := range lists {
		m := empty(t, math.MaxUint32-50)
		chain(m, f.head, f.link, math.MaxUint32-50, 3, 2, 1, 0)
		actors := []actor{{api.Work{Line: f.base}, 0, -1}, {api.Work{Line: f.base}, 0, -1}, {api.Work{Line: f.base}, 0, -1}}
		out := map[int]bool{}
		for range 20000 {
			popped, pushed := actors[r.Intn(3)].act(t, m, f.base)
			if popped >= 0 && out[popped] || pushed >= 0 && !out[pushed] {
				t.Fatalf("%s: popped %d or pushed %d twice", f.name, popped, pushed)
			}
			if popped >= 0 {
				out[popped] = true
			}
			if pushed >= 0 {
				delete(out, pushed)
			}
			if !checkParts(t, m, f.entries, actors) {
				t.FailNow()
			}
		}
	}
}

// P6.2: lists as they are, with bits above the low 32 in heads and links.
func TestList(t *testing.T) {
	for _, f := range lists {
		m := empty(t, 7)
		if l, ok := List(config, m.All(), f.entries); !ok || len(l) != 0 {
			t.Errorf("%s: an empty list is %v, %v", f.name, l, ok)
		}
		chain(m, f.head, f.link, math.MaxUint32, 2, 0, 3, 1)
		m.Store(f.link(0), 123<<32|4)
		m.Store(f.link(1), 123<<32)
		words := m.All()
		keep := slices.Clone(words)
		if l, ok := List(config, words, f.entries); !ok || !slices.Equal(l, []int{2, 0, 3, 1}) {
			t.Errorf("%s: %v, %v", f.name, l, ok)
		}
		if !slices.Equal(words, keep) {
			t.Errorf("%s: the words were modified", f.name)
		}
	}
	if l, ok := List(config, plan.First(config), true); !ok || !slices.Equal(l, []int{0, 1, 2, 3}) {
		t.Errorf("at first: %v, %v", l, ok)
	}
}

// P6.2: what is not a list.
func TestListThatIsNone(t *testing.T) {
	for _, f := range lists {
		for name, spoil := range map[string]func(m *memory.Memory){
			"head to none":        func(m *memory.Memory) { m.Store(f.head, 5) },
			"head far out":        func(m *memory.Memory) { m.Store(f.head, math.MaxUint32) },
			"link to none":        func(m *memory.Memory) { m.Store(f.link(1), 5) },
			"cycle of one":        func(m *memory.Memory) { m.Store(f.link(1), 2) },
			"cycle of all":        func(m *memory.Memory) { m.Store(f.link(1), 3) },
			"cycle with a tail":   func(m *memory.Memory) { m.Store(f.link(1), 1) },
			"cycle with a mark":   func(m *memory.Memory) { m.Store(f.link(1), 9<<32|3) },
			"head to itself, too": func(m *memory.Memory) { m.Store(f.link(2), 3) },
		} {
			m := empty(t, 0)
			chain(m, f.head, f.link, 0, 2, 0, 1)
			spoil(m)
			if l, ok := List(config, m.All(), f.entries); ok || len(l) != 0 {
				t.Errorf("%s, %s: %v, %v", f.name, name, l, ok)
			}
		}
		words := plan.First(config)
		for _, wrong := range [][]api.Word{nil, {}, words[1:], append(slices.Clone(words), 0)} {
			if l, ok := List(config, wrong, f.entries); ok || len(l) != 0 {
				t.Errorf("%s, %d words: %v, %v", f.name, len(wrong), l, ok)
			}
		}
		bad := config
		bad.Last = 0
		for _, c := range []api.Config{bad, {}} {
			if l, ok := List(c, words, f.entries); ok || len(l) != 0 {
				t.Errorf("%s, invalid: %v, %v", f.name, l, ok)
			}
			if _, ok := List(c, nil, f.entries); ok {
				t.Errorf("%s, invalid without words", f.name)
			}
		}
	}
}
