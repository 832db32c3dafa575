package entry

import (
	"math"
	"math/rand"
	"slices"
	"testing"

	"coatcheck/api"
	"coatcheck/memory"
	"coatcheck/pack"
	"coatcheck/plan"
	"coatcheck/rack"
	"coatcheck/stack"
)

var config = api.Config{Workers: 2, Slabs: 2, Blocks: 2, Words: 1, Entries: 3, Rack: 0, Bag: 1, Last: 9}

var layout = plan.Plan{Config: config}

// at returns a memory with the word of entry 1.
func at(t *testing.T, w api.Word) *memory.Memory {
	t.Helper()
	m, e := memory.New(config)
	if e != api.OK {
		t.Fatal(e)
	}
	m.Store(layout.Entry(1), w)
	m.Clear()
	return m
}

// P11.1: which tickets are well-formed.
func TestGood(t *testing.T) {
	for ticket, want := range map[api.Word]bool{
		0: false, pack.Ticket(0, 0): false, pack.Ticket(0, 1): true, pack.Ticket(2, 1): true, pack.Ticket(2, 9): true,
		pack.Ticket(0, 10): false, pack.Ticket(3, 1): false, pack.Ticket(-1, 1): false, pack.Ticket(65534, 1): false,
		pack.Ticket(0, 1<<48-1): false, math.MaxUint64: false, 65537: true,
	} {
		if got := Good(config, ticket); got != want {
			t.Errorf("Good(%d) = %v", ticket, got)
		}
	}
	bad, great := config, config
	bad.Bag = 0
	great.Words = 5
	for _, c := range []api.Config{bad, great, {}} {
		if Good(c, pack.Ticket(0, 1)) {
			t.Errorf("a ticket of %+v is good", c)
		}
	}
	c := config
	c.Last = api.MaxLast
	if !Good(c, pack.Ticket(0, api.MaxLast)) || Good(c, pack.Ticket(0, api.MaxLast+1)) {
		t.Error("the greatest generation")
	}
}

// P11.1: each row of the table, on entry 1.
func TestLines(t *testing.T) {
	ticket := pack.Ticket(1, 4)
	lastTicket := pack.Ticket(1, 9)
	free, live, other := pack.Entry(4, -1, api.Free), pack.Entry(4, 2, api.Live), pack.Entry(4, 3, api.Live)
	lastLive, nextLive := pack.Entry(9, 2, api.Live), pack.Entry(5, 2, api.Live)
	word := layout.Entry(1)
	load := func(w api.Word) api.Access { return api.Access{Kind: api.ALoad, At: word, Old: w} }
	cas := func(x, y, old api.Word) api.Access { return api.Access{Kind: api.ACas, At: word, X: x, Y: y, Old: old} }
	type row struct {
		name    string
		w       api.Word // of entry 1
		x, want api.Work
		outcome int
		seen    api.Access
		after   api.Word // of entry 1
	}
	rows := []row{
		{"load the generation", free, api.Work{Line: 40, I: 2, G: 7}, api.Work{Line: 41, I: 2, G: 4}, api.Going, load(free), free},
		{"create", free, api.Work{Line: 41, I: 2, B: 3, G: 4}, api.Work{G: 4, T: ticket}, api.Got, api.Access{Kind: api.AStore, At: word, X: live, Old: free}, live},
		{"invalidate", live, api.Work{Line: 43, T: ticket, V: live, C: 3}, api.Work{T: ticket, V: live, C: 3, I: 2}, api.Got, cas(live, pack.Entry(5, -1, api.Free), live), pack.Entry(5, -1, api.Free)},
		{"invalidate the last", lastLive, api.Work{Line: 43, T: lastTicket, V: lastLive, C: 3, I: 7}, api.Work{T: lastTicket, V: lastLive, C: 3}, api.Got, cas(lastLive, pack.Entry(9, -1, api.Out), lastLive), pack.Entry(9, -1, api.Out)},
		{"invalidate fails", other, api.Work{Line: 43, T: ticket, V: live, C: 3}, api.Work{Line: 42, T: ticket, V: live, C: 3}, api.Going, cas(live, pack.Entry(5, -1, api.Free), other), other},
		{"replace", live, api.Work{Line: 45, T: ticket, V: live, B: 4, C: 3}, api.Work{T: ticket, V: live, C: 3}, api.Got, cas(live, other, live), other},
		{"replace fails", nextLive, api.Work{Line: 45, T: ticket, V: live, B: 4, C: 3}, api.Work{Line: 44, T: ticket, V: live, B: 4, C: 3}, api.Going, cas(live, other, nextLive), nextLive},
	}
	for _, line := range []int{42, 44, 46, 60} {
		rows = append(rows,
			row{"live", live, api.Work{Line: line, T: ticket, V: 5, C: 9}, api.Work{T: ticket, V: live, C: 3}, api.Got, load(live), live},
			row{"free", free, api.Work{Line: line, T: ticket, V: 5, C: 9}, api.Work{T: ticket, V: 5, C: 9}, api.None, load(free), free},
			row{"later", nextLive, api.Work{Line: line, T: ticket, V: 5}, api.Work{T: ticket, V: 5}, api.None, load(nextLive), nextLive},
			row{"out", pack.Entry(4, 2, api.Out), api.Work{Line: line, T: ticket}, api.Work{T: ticket}, api.None, load(pack.Entry(4, 2, api.Out)), pack.Entry(4, 2, api.Out)},
		)
	}
	for _, c := range rows {
		m := at(t, c.w)
		words := m.All()
		got, outcome, ok := Step(m, c.x)
		if !ok || outcome != c.outcome || !rack.Same(got, c.want) || m.Seen != c.seen {
			t.Errorf("%s at %d: %+v, %d, %v, seen %+v, want %+v, %d, %+v", c.name, c.x.Line, got, outcome, ok, m.Seen, c.want, c.outcome, c.seen)
		}
		words[word] = c.after
		if !slices.Equal(words, m.All()) {
			t.Errorf("%s: the words are %v, want %v", c.name, m.All(), words)
		}
	}
}

// P11.1: the lines of layer 6, and what follows them.
func TestPopAndPushLines(t *testing.T) {
	for _, c := range []struct {
		name    string
		head    api.Word
		x, want api.Work
		outcome int
	}{
		{"load the head", 7<<32 | 2, api.Work{Line: 20}, api.Work{Line: 21, H: 2, V: 7<<32 | 2}, api.Going},
		{"nothing free", 7 << 32, api.Work{Line: 20, I: 5}, api.Work{V: 7 << 32, I: 5}, api.None},
		{"load the link", 7<<32 | 2, api.Work{Line: 21, H: 2}, api.Work{Line: 22, H: 2, N: 3}, api.Going},
		{"pop", 7<<32 | 2, api.Work{Line: 22, H: 2, N: 3, V: 7<<32 | 2}, api.Work{Line: 40, H: 2, N: 3, V: 7<<32 | 2, I: 2}, api.Going},
		{"pop fails", 7<<32 | 2, api.Work{Line: 22, H: 2, N: 3, V: 6<<32 | 2}, api.Work{Line: 20, H: 2, N: 3, V: 6<<32 | 2}, api.Going},
		{"load the head below", 7<<32 | 3, api.Work{Line: 23, I: 2}, api.Work{Line: 24, I: 2, V: 7<<32 | 3}, api.Going},
		{"store the link", 7<<32 | 3, api.Work{Line: 24, I: 2, V: 7<<32 | 3}, api.Work{Line: 25, I: 2, V: 7<<32 | 3}, api.Going},
		{"push", 7<<32 | 3, api.Work{Line: 25, I: 2, V: 7<<32 | 3}, api.Work{V: 7<<32 | 3}, api.Got},
		{"push fails", 7<<32 | 3, api.Work{Line: 25, I: 2, V: 6<<32 | 3}, api.Work{Line: 23, I: 2, V: 6<<32 | 3}, api.Going},
	} {
		m := at(t, 0)
		m.Store(plan.AtEntries, c.head)
		got, outcome, ok := Step(m, c.x)
		if !ok || outcome != c.outcome || !rack.Same(got, c.want) {
			t.Errorf("%s: %+v, %d, %v, want %+v, %d", c.name, got, outcome, ok, c.want, c.outcome)
		}
	}
}

// P11.1: of an entry that does not exist 0 is loaded, nothing is stored, and a CAS fails.
func TestEntriesThatDoNotExist(t *testing.T) {
	for _, i := range []int{-1, 3, 65534} {
		ticket := pack.Ticket(i, 4)
		for _, c := range []struct {
			name    string
			x, want api.Work
			outcome int
		}{
			{"load the generation", api.Work{Line: 40, I: i + 1, G: 7}, api.Work{Line: 41, I: i + 1}, api.Going},
			{"create", api.Work{Line: 41, I: i + 1, B: 3, G: 4}, api.Work{G: 4, T: ticket}, api.Got},
			{"find to free", api.Work{Line: 42, T: ticket}, api.Work{T: ticket}, api.None},
			{"find to replace", api.Work{Line: 44, T: ticket}, api.Work{T: ticket}, api.None},
			{"find to write", api.Work{Line: 46, T: ticket}, api.Work{T: ticket}, api.None},
			{"find to read", api.Work{Line: 60, T: ticket}, api.Work{T: ticket}, api.None},
			{"invalidate", api.Work{Line: 43, T: ticket}, api.Work{Line: 42, T: ticket}, api.Going},
			{"replace", api.Work{Line: 45, T: ticket, B: 3}, api.Work{Line: 44, T: ticket, B: 3}, api.Going},
		} {
			m := at(t, pack.Entry(4, 2, api.Live))
			m.Load(0)
			words := m.All()
			got, outcome, ok := Step(m, c.x)
			if !ok || outcome != c.outcome || !rack.Same(got, c.want) || m.Seen != (api.Access{}) || !slices.Equal(words, m.All()) {
				t.Errorf("%s of %d: %+v, %d, seen %+v", c.name, i, got, outcome, m.Seen)
			}
		}
	}
}

// run executes lines from a first one until the operation is finished.
func run(t *testing.T, m *memory.Memory, x api.Work) (api.Work, int) {
	t.Helper()
	for range 100 {
		y, outcome, ok := Step(m, x)
		if !ok {
			t.Fatalf("line %d is unknown", x.Line)
		}
		if outcome != api.Going {
			return y, outcome
		}
		x = y
	}
	t.Fatal("the operation does not finish")
	return x, 0
}

// P11.1: the example, and the entries one after another until none is free.
func TestCreate(t *testing.T) {
	m, _ := memory.New(config)
	for i, want := range []api.Word{65537, 65538, 65539} {
		x, outcome := run(t, m, api.Work{Line: 20, B: 4 - i})
		if outcome != api.Got || x.T != want || x.B != 0 || x.I != 0 {
			t.Errorf("%d: %+v, %d", i, x, outcome)
		}
		if block, ok := Live(config, m.All(), want); !ok || block != 3-i {
			t.Errorf("%d: block %d, %v", i, block, ok)
		}
	}
	if x, outcome := run(t, m, api.Work{Line: 20, B: 1}); outcome != api.None || x.B != 1 || x.T != 0 {
		t.Errorf("%+v, %d", x, outcome)
	}
}

// P11.2: Live by the word of the entry.
func TestLive(t *testing.T) {
	for _, c := range []struct {
		w, ticket api.Word
		block     int
		ok        bool
	}{
		{pack.Entry(4, 2, api.Live), pack.Ticket(1, 4), 2, true},
		{pack.Entry(4, 0, api.Live), pack.Ticket(1, 4), 0, true},
		{pack.Entry(4, -1, api.Live), pack.Ticket(1, 4), -1, true},
		{pack.Entry(9, 2, api.Live), pack.Ticket(1, 9), 2, true},
		{pack.Entry(4, 2, api.Live), pack.Ticket(1, 3), -1, false},
		{pack.Entry(4, 2, api.Live), pack.Ticket(1, 5), -1, false},
		{pack.Entry(4, 2, api.Live), pack.Ticket(0, 4), -1, false},
		{pack.Entry(4, 2, api.Free), pack.Ticket(1, 4), -1, false},
		{pack.Entry(4, 2, api.Out), pack.Ticket(1, 4), -1, false},
		{pack.Entry(4, 2, 3), pack.Ticket(1, 4), -1, false},
		{pack.Entry(10, 2, api.Live), pack.Ticket(1, 10), -1, false},
		{pack.Entry(0, 2, api.Live), pack.Ticket(1, 0), -1, false},
		{pack.Entry(4, 2, api.Live), pack.Ticket(3, 4), -1, false},
		{pack.Entry(4, 2, api.Live), 0, -1, false},
		{pack.Entry(4, 2, api.Live), math.MaxUint64, -1, false},
	} {
		if block, ok := Live(config, at(t, c.w).All(), c.ticket); block != c.block || ok != c.ok {
			t.Errorf("word %#x, ticket %d: %d, %v", c.w, c.ticket, block, ok)
		}
	}
	words := at(t, pack.Entry(4, 2, api.Live)).All()
	bad := config
	bad.Bag = 0
	for name, c := range map[string]struct {
		c     api.Config
		words []api.Word
	}{"invalid": {bad, words}, "zero": {api.Config{}, nil}, "no words": {config, nil}, "a word less": {config, words[1:]}, "a word more": {config, append(slices.Clone(words), 0)}} {
		if block, ok := Live(c.c, c.words, pack.Ticket(1, 4)); block != -1 || ok {
			t.Errorf("%s: %d, %v", name, block, ok)
		}
	}
}

// P11.3: of workers that invalidate one ticket under random interleavings exactly one succeeds, while another one replaces its block.
func TestConcurrentInvalidations(t *testing.T) {
	r := rand.New(rand.NewSource(9))
	ticket := pack.Ticket(1, 4)
	for range 3000 {
		m := at(t, pack.Entry(4, 2, api.Live))
		states := []api.Work{{Line: 42, T: ticket}, {Line: 42, T: ticket}, {Line: 42, T: ticket}, {Line: 44, T: ticket, B: 4}}
		next := map[int]int{42: 43, 44: 45}
		freed := 0
		for left := len(states); left > 0; {
			w := r.Intn(len(states))
			if states[w].Line == 0 {
				continue
			}
			line := states[w].Line
			var outcome int
			states[w], outcome, _ = Step(m, states[w])
			switch {
			case outcome == api.Got && next[line] != 0:
				states[w].Line = next[line]
			case outcome != api.Going:
				left--
				if line == 43 {
					freed++
				}
			}
			if _, live := Live(config, m.All(), ticket); live != (freed == 0) || freed > 1 {
				t.Fatalf("freed %d times, live %v", freed, live)
			}
		}
		if freed != 1 || m.Peek(layout.Entry(1)) != pack.Entry(5, -1, api.Free) {
			t.Fatalf("freed %d times, word %#x", freed, m.Peek(layout.Entry(1)))
		}
	}
}

// P11.3: a ticket that was invalidated is never live again, up to the last generation, after which the entry is out.
func TestTicketsNeverComeBack(t *testing.T) {
	c := config
	c.Entries, c.Last = 1, 5
	m, _ := memory.New(c)
	var dead []api.Word
	for gen := api.Word(1); gen <= 5; gen++ {
		x, outcome := run(t, m, api.Work{Line: 20, B: 2})
		if outcome != api.Got || x.T != pack.Ticket(0, gen) {
			t.Fatalf("generation %d: %+v", gen, x)
		}
		x.Line = 42
		x, _, _ = Step(m, x)
		x.Line = 43
		x, outcome, _ = Step(m, x)
		if outcome != api.Got || (x.I == 0) != (gen == 5) {
			t.Fatalf("generation %d: %+v, %d", gen, x, outcome)
		}
		if x.I != 0 {
			x.Line = 23
			run(t, m, x)
		}
		dead = append(dead, x.T)
		for _, ticket := range dead {
			if _, live := Live(c, m.All(), ticket); live {
				t.Errorf("generation %d: ticket %d is live", gen, ticket)
			}
		}
	}
	if l, ok := stack.List(c, m.All(), true); !ok || len(l) != 0 || m.Peek(m.Entry(0)) != pack.Entry(5, -1, api.Out) {
		t.Errorf("free entries %v, word %#x", l, m.Peek(m.Entry(0)))
	}
}
