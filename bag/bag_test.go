package bag

import (
	"math"
	"slices"
	"testing"

	"coatcheck/api"
	"coatcheck/rack"
)

const top = api.Word(math.MaxUint64)

// spare returns a list with capacity to spare, so that an append into it would show.
func spare(l ...int) []int {
	n := make([]int, 8)
	copy(n, l)
	return n[:len(l)]
}

// sample returns a state at epoch e whose buckets have these tags and two blocks each: 10 and 11, 20 and 21, 30 and 31.
func sample(e api.Word, tags ...api.Word) api.Work {
	x := api.Work{Line: 42, E: e, B: 3, Hold: spare(7), Rack: spare(8)}
	for i, tag := range tags {
		x.Bags[i] = api.Bag{Tag: tag, L: spare(10+10*i, 11+10*i)}
	}
	return x
}

// with returns a copy of a state after changes.
func with(x api.Work, change func(x *api.Work)) api.Work {
	x = rack.Copy(x)
	change(&x)
	return x
}

// P5.1: the current bucket is that of the tag E + 1, and of another tag it is emptied into the hold list.
func TestRoomPreparesTheCurrentBucket(t *testing.T) {
	for _, c := range []struct {
		name string
		x    api.Work
		want func(x *api.Work)
		room bool
	}{
		{"first", api.Work{E: 2}, func(x *api.Work) { x.Bags[0].Tag = 3 }, true},
		{"bucket 1", api.Work{E: 3}, func(x *api.Work) { x.Bags[1].Tag = 4 }, true},
		{"bucket 2", api.Work{E: 4}, func(x *api.Work) { x.Bags[2].Tag = 5 }, true},
		{"same tag, full", sample(5, 6, 4, 5), func(x *api.Work) {}, false},
		{"old tag", sample(6, 6, 4, 5), func(x *api.Work) {
			x.Bags[1] = api.Bag{Tag: 7}
			x.Hold = []int{7, 20, 21}
		}, true},
		{"later tag", sample(3, 6, 7, 5), func(x *api.Work) {
			x.Bags[1] = api.Bag{Tag: 4}
			x.Hold = []int{7, 20, 21}
		}, true},
		{"around", sample(top, 6, 4, 5), func(x *api.Work) {
			x.Bags[0] = api.Bag{}
			x.Hold = []int{7, 10, 11}
		}, true},
		{"greatest tag", sample(top-1, top, 4, 5), func(x *api.Work) {}, false},
	} {
		x, room := Room(api.Config{Bag: 2}, c.x)
		if want := with(c.x, c.want); room != c.room || !rack.Same(x, want) {
			t.Errorf("%s: %v, %+v, want %+v", c.name, room, x, want)
		}
	}
}

// P5.1: there is room below Config.Bag blocks only.
func TestRoomCountsBlocks(t *testing.T) {
	x := sample(5, 6, 4, 5)
	for size, want := range map[int]bool{math.MinInt: false, -1: false, 0: false, 1: false, 2: false, 3: true, math.MaxInt: true} {
		if y, room := Room(api.Config{Bag: size}, x); room != want || !rack.Same(x, y) {
			t.Errorf("size %d: %v", size, room)
		}
	}
	if _, room := Room(api.Config{Bag: 0}, api.Work{}); room {
		t.Error("a bucket of no blocks has room")
	}
}

// P5.1: Put appends to the bucket that it prepared, and without room it prepares it all the same.
func TestPut(t *testing.T) {
	c := api.Config{Bag: 2}
	x, ok := Put(c, api.Work{E: 2}, 5)
	if want := (api.Work{E: 2, Bags: [3]api.Bag{{Tag: 3, L: []int{5}}}}); !ok || !rack.Same(x, want) {
		t.Fatalf("%+v, %v", x, ok)
	}
	x, ok = Put(c, x, -6)
	if !ok || !slices.Equal(x.Bags[0].L, []int{5, -6}) {
		t.Errorf("%+v, %v", x, ok)
	}
	if y, ok := Put(c, x, 7); ok || !rack.Same(x, y) {
		t.Errorf("a full bucket took a block: %+v", y)
	}
	x.E = 5
	x, ok = Put(c, x, 7)
	if want := (api.Work{E: 5, Hold: []int{5, -6}, Bags: [3]api.Bag{{Tag: 6, L: []int{7}}}}); !ok || !rack.Same(x, want) {
		t.Errorf("%+v, %v", x, ok)
	}
	y, ok := Put(api.Config{}, sample(6, 6, 4, 5), 9)
	want := with(sample(6, 6, 4, 5), func(x *api.Work) { x.Bags[1] = api.Bag{Tag: 7}; x.Hold = []int{7, 20, 21} })
	if ok || !rack.Same(y, want) {
		t.Errorf("without room: %+v, %v", y, ok)
	}
}

// P5.2: the ripe buckets move to the hold list in the order of their numbers and become zero; the others stay.
func TestRipe(t *testing.T) {
	for _, c := range []struct {
		epoch api.Word
		tags  []api.Word
		ripe  []int // numbers of the ripe buckets
	}{
		{0, []api.Word{0, 0, 0}, nil},
		{1, []api.Word{0, 1, top}, nil},
		{2, []api.Word{0, 1, 2}, []int{0}},
		{4, []api.Word{3, 4, 5}, nil},
		{5, []api.Word{3, 4, 5}, []int{0}},
		{6, []api.Word{3, 4, 5}, []int{0, 1}},
		{6, []api.Word{6, 4, 2}, []int{1, 2}},
		{7, []api.Word{3, 4, 5}, []int{0, 1, 2}},
		{7, []api.Word{3, 7, 5}, []int{0, 2}},
		{top, []api.Word{top - 2, top - 1, top}, []int{0}},
	} {
		x := sample(9, c.tags...)
		want := with(x, func(w *api.Work) {
			for _, i := range c.ripe {
				w.Hold = append(w.Hold, 10+10*i, 11+10*i)
				w.Bags[i] = api.Bag{}
			}
		})
		if got := Ripe(x, c.epoch); !rack.Same(got, want) {
			t.Errorf("epoch %d, tags %v: %+v, want %+v", c.epoch, c.tags, got, want)
		}
	}
	if got := Ripe(api.Work{}, 9); !rack.Same(got, api.Work{}) {
		t.Errorf("%+v", got)
	}
}

// P5.3: a block that was put at epoch E becomes ripe at E + 3 and not before. The example has E = 2.
func TestPutIsRipeAfterThreeEpochs(t *testing.T) {
	for e := range api.Word(20) {
		x, ok := Put(api.Config{Bag: 1}, api.Work{E: e}, 5)
		if !ok || x.Bags[(e+1)%3].Tag != e+1 {
			t.Fatalf("epoch %d: %+v", e, x)
		}
		for now := range api.Word(30) {
			ripe := slices.Contains(Ripe(x, now).Hold, 5)
			if ripe != (now >= e+3) {
				t.Errorf("put at %d, at %d: %v", e, now, ripe)
			}
		}
	}
}

// P5.3: what a preparation moves out was put at least three epochs ago, while epochs grow.
func TestPrepareMovesRipeBlocksOnly(t *testing.T) {
	x := api.Work{}
	for e := api.Word(2); e < 30; e += 1 + e%3 {
		x.E = e
		before := len(x.Hold)
		x, _ = Put(api.Config{Bag: 8}, x, int(e))
		for _, block := range x.Hold[before:] {
			if api.Word(block)+3 > e {
				t.Errorf("put at %d, moved at %d", block, e)
			}
		}
	}
}

// P5.2: Count and Waits look at all three buckets and at nothing else.
func TestCountAndWaits(t *testing.T) {
	x := sample(5, 6, 4, 5)
	x.Bags[1].L = append(x.Bags[1].L, 22)
	if Count(x) != 7 || Count(api.Work{}) != 0 || Count(api.Work{Hold: []int{1}, Rack: []int{2}}) != 0 {
		t.Errorf("count %d", Count(x))
	}
	for block, want := range map[int]bool{10: true, 11: true, 20: true, 22: true, 31: true, 7: false, 8: false, 0: false, -1: false, 12: false} {
		if Waits(x, block) != want {
			t.Errorf("block %d: %v", block, !want)
		}
	}
}

// P5.2: arguments are not modified, and no result shares memory with them.
func TestNoSharedMemory(t *testing.T) {
	for name, do := range map[string]func(x api.Work) api.Work{
		"Room":          func(x api.Work) api.Work { y, _ := Room(api.Config{Bag: 4}, x); return y },
		"Room, old":     func(x api.Work) api.Work { x.E = 9; y, _ := Room(api.Config{Bag: 4}, x); return y },
		"Put":           func(x api.Work) api.Work { y, _ := Put(api.Config{Bag: 4}, x, 99); return y },
		"Put, old":      func(x api.Work) api.Work { x.E = 9; y, _ := Put(api.Config{Bag: 4}, x, 99); return y },
		"Put, full":     func(x api.Work) api.Work { y, _ := Put(api.Config{Bag: 1}, x, 99); return y },
		"Ripe":          func(x api.Work) api.Work { return Ripe(x, 7) },
		"Ripe, nothing": func(x api.Work) api.Work { return Ripe(x, 0) },
	} {
		x, want := sample(5, 6, 4, 5), sample(5, 6, 4, 5)
		y := do(x)
		keep := rack.Copy(do(x))
		if got := do(x); !rack.Same(got, keep) {
			t.Errorf("%s has another result the second time", name)
		}
		for _, l := range [][]int{y.Rack, y.Hold, y.Bags[0].L, y.Bags[1].L, y.Bags[2].L} {
			l = l[:cap(l)]
			for i := range l {
				l[i] = -99
			}
		}
		if !rack.Same(x, want) || !slices.Equal(x.Hold[:8], want.Hold[:8]) || !slices.Equal(x.Bags[0].L[:8], want.Bags[0].L[:8]) || !slices.Equal(x.Bags[1].L[:8], want.Bags[1].L[:8]) {
			t.Errorf("%s modified its argument: %+v", name, x)
		}
	}
}
