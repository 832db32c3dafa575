package order

import (
	"fmt"
	"math/rand"
	"slices"
	"testing"

	"coatcheck/api"
	"coatcheck/hall"
)

var (
	pin     = api.Op{Kind: api.OpPin}
	unpin   = api.Op{Kind: api.OpUnpin}
	peek    = api.Op{Kind: api.OpPeek}
	collect = api.Op{Kind: api.OpCollect}
	alloc   = api.Op{Kind: api.OpAlloc, X: 7}
	free    = api.Op{Kind: api.OpFree, Use: true}
	write   = api.Op{Kind: api.OpWrite, Use: true, X: 9}
	deref   = api.Op{Kind: api.OpDeref, Use: true}
	drain   = api.Op{Kind: api.OpDrain}
)

func newHall(t *testing.T, c api.Config, programs ...[]api.Op) *hall.Hall {
	t.Helper()
	h, e := hall.New(c, programs)
	if e != api.OK {
		t.Fatal(e)
	}
	return h
}

// right reports whether an execution is a linearization as far as its events go.
func right(c api.Config, l []api.Event) bool {
	return Whole(l) && Keeps(l) && Fits(c.Words, l) == len(Of(l))
}

// P2, P16.1 to P16.3: after every pick of every schedule of two workers with short programs, the execution is linearizable.
func TestEverySchedule(t *testing.T) {
	small := api.Config{Workers: 2, Slabs: 1, Blocks: 3, Words: 1, Entries: 2, Bag: 1, Last: 9}
	tiny := api.Config{Workers: 2, Slabs: 1, Blocks: 2, Words: 2, Entries: 1, Bag: 1, Last: 2}
	for _, x := range []struct {
		name   string
		c      api.Config
		before []api.Op // of worker 0, executed alone before
		a, b   []api.Op
	}{
		{"read and free", tiny, []api.Op{alloc}, []api.Op{free}, []api.Op{deref}},
		{"read and write", tiny, []api.Op{alloc}, []api.Op{write}, []api.Op{deref}},
		{"both write", small, []api.Op{alloc}, []api.Op{write}, []api.Op{{Kind: api.OpWrite, Use: true, X: 11}}},
		{"write and free", small, []api.Op{alloc}, []api.Op{write}, []api.Op{free}},
		{"both free", small, []api.Op{alloc}, []api.Op{free}, []api.Op{{Kind: api.OpFree, T: 65537}}},
		{"allocate and read", tiny, nil, []api.Op{alloc}, []api.Op{deref}},
		{"free and read while pinned", tiny, []api.Op{alloc}, []api.Op{free}, []api.Op{pin, deref, peek, unpin}},
		{"allocate what is freed", tiny, []api.Op{alloc}, []api.Op{alloc}, []api.Op{free}},
		{"drain and collect", small, []api.Op{alloc, free}, []api.Op{drain}, []api.Op{collect}},
	} {
		t.Run(x.name, func(t *testing.T) { everySchedule(t, x.c, x.before, x.a, x.b) })
	}
}

// everySchedule visits each state that two workers can reach, once for each order of the calls, points and returns that led to it.
func everySchedule(t *testing.T, c api.Config, before, a, b []api.Op) {
	t.Helper()
	known, last := map[string]bool{}, map[string]bool{}
	for paths := [][]int{nil}; len(paths) > 0; {
		path := paths[len(paths)-1]
		paths = paths[:len(paths)-1]
		for w := range 2 {
			picks := append(slices.Clone(path), w)
			h := newHall(t, c, slices.Concat(before, a), b)
			for h.Left(0) > len(a) || h.Work(0).Line != 0 {
				h.Pick(0)
			}
			h.Run(picks...)
			l := h.Events()
			if !right(c, l) {
				t.Fatalf("not linearizable after %v", picks)
			}
			if key := fmt.Sprint(h.Words(), h.Work(0), h.Work(1), history(l)); !known[key] {
				known[key] = true
				paths = append(paths, picks)
			}
			if h.Left(0)+h.Left(1)+h.Work(0).Line+h.Work(1).Line == 0 {
				last[fmt.Sprint(Of(l))] = true
			}
		}
	}
	if len(known) < 50 || len(last) < 2 {
		t.Errorf("only %d states, and %d orders in the end", len(known), len(last))
	}
}

// history is what matters of the events: all but steps, without ticks.
func history(l []api.Event) string {
	var s []string
	for _, e := range l {
		if e.Kind != api.EStep {
			s = append(s, fmt.Sprint(e.Kind, e.Worker, e.N, e.Answer))
		}
	}
	return fmt.Sprint(s)
}

// randomRun returns an execution of workers that mostly use one another's tickets.
func randomRun(t *testing.T, r *rand.Rand) (api.Config, []api.Event) {
	t.Helper()
	c := api.Config{
		Workers: 2 + r.Intn(3), Slabs: 1 + r.Intn(2), Blocks: 2 + r.Intn(3), Words: 1 + r.Intn(3), Entries: 1 + r.Intn(4),
		Rack: r.Intn(2), Bag: 1 + r.Intn(2), Last: []api.Word{2, 5, 1000}[r.Intn(3)],
	}
	ops := []api.Op{alloc, alloc, alloc, free, free, write, write, deref, deref, deref, pin, unpin, unpin, peek, collect, collect, collect, drain}
	programs := make([][]api.Op, c.Workers)
	for w := range programs {
		for i := range 40 {
			o := ops[r.Intn(len(ops))]
			o.By, o.Nth = r.Intn(c.Workers), max(0, i/6-r.Intn(3))
			if o.X > 0 {
				o.X = api.Word(r.Intn(1000)) * 10
			}
			if !o.Use {
				o.By, o.Nth = 0, 0
			}
			programs[w] = append(programs[w], o)
		}
	}
	h := newHall(t, c, programs...)
	for range 400 {
		w := r.Intn(c.Workers)
		for range 1 + r.Intn(1+r.Intn(12)) {
			h.Pick(w)
		}
	}
	return c, h.Events()
}

// P2, P16.2, P16.3: every prefix of a random execution is linearizable.
func TestEveryPrefix(t *testing.T) {
	r := rand.New(rand.NewSource(2))
	for range 20 {
		c, l := randomRun(t, r)
		for n := range len(l) + 1 {
			if n < len(l) && l[n].Kind == api.EStep {
				continue
			}
			if !right(c, l[:n]) {
				t.Fatalf("%+v: not linearizable up to event %d", c, n)
			}
		}
	}
}

// P16.1 to P16.3: executions in which one event was changed, compared with the definitions.
func TestChangedExecutions(t *testing.T) {
	r := rand.New(rand.NewSource(3))
	var c api.Config
	var run []api.Event
	unfit, notWhole, misplaced := 0, 0, 0
	for n := range 1000 {
		if n%10 == 0 {
			c, run = randomRun(t, r)
			run = slices.DeleteFunc(run, func(e api.Event) bool { return e.Kind == api.EStep })
		}
		l := slices.Clone(run)
		i, j := r.Intn(len(l)), r.Intn(len(l))
		switch e := l[i]; r.Intn(4) {
		case 0:
			l = slices.Delete(l, i, i+1)
		case 1:
			l = slices.Insert(slices.Delete(l, i, i+1), min(j, len(l)-1), e)
		case 2:
			l[i].Answer.Ret = api.Errno(r.Intn(10))
		case 3:
			l[i].Answer.T++
		}
		whole, keeps := check(t, c.Words, l)
		if !whole {
			notWhole++
		}
		if !keeps {
			misplaced++
		}
		if Fits(c.Words, l) < len(Of(l)) {
			unfit++
		}
	}
	if unfit < 20 || notWhole < 20 || misplaced < 20 {
		t.Errorf("only %d do not fit, %d are not whole, %d do not keep the order", unfit, notWhole, misplaced)
	}
}
