package plan

import (
	"math"
	"slices"
	"testing"

	"coatcheck/api"
	"coatcheck/pack"
)

var small = api.Config{Workers: 1, Slabs: 1, Blocks: 2, Words: 1, Entries: 1, Rack: 0, Bag: 1, Last: 9}

var middle = api.Config{Workers: 3, Slabs: 2, Blocks: 4, Words: 3, Entries: 5, Rack: 2, Bag: 2, Last: 7}

var greatest = api.Config{Workers: 8, Slabs: 8, Blocks: 16, Words: 4, Entries: 32, Rack: 4, Bag: 8, Last: 1048576}

// limits has a setter and the limits of each number of a configuration but Last.
var limits = []struct {
	name        string
	set         func(c *api.Config, n int)
	least, most int
}{
	{"Workers", func(c *api.Config, n int) { c.Workers = n }, 1, 8},
	{"Slabs", func(c *api.Config, n int) { c.Slabs = n }, 1, 8},
	{"Blocks", func(c *api.Config, n int) { c.Blocks = n }, 1, 16},
	{"Words", func(c *api.Config, n int) { c.Words = n }, 1, 4},
	{"Entries", func(c *api.Config, n int) { c.Entries = n }, 1, 32},
	{"Rack", func(c *api.Config, n int) { c.Rack = n }, 0, 4},
	{"Bag", func(c *api.Config, n int) { c.Bag = n }, 1, 8},
}

// invalid returns configurations of which each is not valid, for one number each.
func invalid() []api.Config {
	var l []api.Config
	for _, f := range limits {
		for _, n := range []int{f.least - 1, f.most + 1, math.MinInt, math.MaxInt} {
			c := middle
			f.set(&c, n)
			l = append(l, c)
		}
	}
	for _, last := range []api.Word{0, api.MaxLast + 1, math.MaxUint64} {
		c := middle
		c.Last = last
		l = append(l, c)
	}
	return append(l, api.Config{})
}

// P2.1: each number at its limits and just beyond them.
func TestCheckLimits(t *testing.T) {
	for _, base := range []api.Config{small, middle, greatest} {
		for _, f := range limits {
			for n, want := range map[int]api.Errno{
				f.least: api.OK, f.most: api.OK, f.least - 1: api.ErrArg, math.MinInt: api.ErrArg, f.most + 1: api.ErrRange, math.MaxInt: api.ErrRange,
			} {
				c := base
				f.set(&c, n)
				if got := Check(c); got != want {
					t.Errorf("%s %d: %d, want %d", f.name, n, got, want)
				}
			}
		}
		for last, want := range map[api.Word]api.Errno{0: api.ErrArg, 1: api.OK, 1048576: api.OK, 1048577: api.ErrRange, 1 << 63: api.ErrRange, math.MaxUint64: api.ErrRange} {
			c := base
			c.Last = last
			if got := Check(c); got != want {
				t.Errorf("Last %d: %d, want %d", last, got, want)
			}
		}
	}
}

// P2.1: ErrArg goes before ErrRange, whichever number comes first.
func TestCheckPrefersErrArg(t *testing.T) {
	for i, low := range limits {
		for j, high := range limits {
			if i == j {
				continue
			}
			c := middle
			low.set(&c, low.least-1)
			high.set(&c, high.most+1)
			if got := Check(c); got != api.ErrArg {
				t.Errorf("%s too small, %s too great: %d", low.name, high.name, got)
			}
		}
		c := middle
		low.set(&c, low.most+1)
		c.Last = 0
		if got := Check(c); got != api.ErrArg {
			t.Errorf("Last 0, %s too great: %d", low.name, got)
		}
		c = middle
		low.set(&c, low.least-1)
		c.Last = math.MaxUint64
		if got := Check(c); got != api.ErrArg {
			t.Errorf("Last too great, %s too small: %d", low.name, got)
		}
	}
}

// P2.1: New returns the plan, or the zero Plan with the error of Check.
func TestNew(t *testing.T) {
	for _, c := range []api.Config{small, middle, greatest} {
		if p, e := New(c); e != api.OK || p.Config != c {
			t.Errorf("New(%+v) = %+v, %d", c, p, e)
		}
	}
	for _, c := range invalid() {
		if p, e := New(c); e != Check(c) || e == api.OK || p != (Plan{}) {
			t.Errorf("New(%+v) = %+v, %d", c, p, e)
		}
	}
}

// P2.2: the example of the chapter.
func TestExample(t *testing.T) {
	p := Plan{small}
	if p.Size() != 11 || p.Word(1, 0) != 10 || p.Total() != 2 {
		t.Errorf("size %d, word %d, total %d", p.Size(), p.Word(1, 0), p.Total())
	}
}

// addresses returns the addresses of all words in the order of the layout.
func addresses(p Plan) []int {
	l := []int{AtEpoch, AtBlocks, AtEntries}
	for w := range p.Workers {
		l = append(l, p.Announce(w))
	}
	for s := range p.Slabs {
		l = append(l, p.Slab(s))
	}
	for e := range p.Entries {
		l = append(l, p.Entry(e), p.EntryLink(e))
	}
	for b := range p.Slabs * p.Blocks {
		l = append(l, p.BlockLink(b))
		for i := range p.Words {
			l = append(l, p.Word(b, i))
		}
	}
	return l
}

// P2.2, P2.3: the words lie one behind the other from 0, so each address belongs to exactly one of them.
func TestLayout(t *testing.T) {
	configs := []api.Config{small, middle, greatest}
	for _, f := range limits {
		for _, n := range []int{f.least, f.most} {
			c := middle
			f.set(&c, n)
			configs = append(configs, c)
		}
	}
	for _, c := range configs {
		p := Plan{c}
		l := addresses(p)
		for i, at := range l {
			if at != i {
				t.Fatalf("%+v: word %d of the layout is at %d", c, i, at)
			}
		}
		if p.Size() != len(l) || p.Total() != c.Slabs*c.Blocks {
			t.Errorf("%+v: size %d and total %d, want %d and %d", c, p.Size(), p.Total(), len(l), c.Slabs*c.Blocks)
		}
	}
}

// P2.2: block b belongs to slab b / Blocks.
func TestHome(t *testing.T) {
	p := Plan{middle}
	for b, want := range []int{0, 0, 0, 0, 1, 1, 1, 1} {
		if got := p.Home(b); got != want {
			t.Errorf("block %d is of slab %d", b, got)
		}
	}
}

// P2.2: what does not exist has no address.
func TestIndicesThatDoNotExist(t *testing.T) {
	p := Plan{middle}
	for name, f := range map[string]struct {
		at    func(int) int
		count int
	}{
		"Announce": {p.Announce, 3}, "Slab": {p.Slab, 2}, "Entry": {p.Entry, 5}, "EntryLink": {p.EntryLink, 5},
		"BlockLink": {p.BlockLink, 8}, "Home": {p.Home, 8},
		"Word":         {func(b int) int { return p.Word(b, 0) }, 8},
		"Word of":      {func(i int) int { return p.Word(7, i) }, 3},
		"Word of none": {func(i int) int { return p.Word(8, i) }, 0},
	} {
		for _, i := range []int{-1, f.count, f.count + 1, math.MinInt, math.MaxInt} {
			if got := f.at(i); got != -1 {
				t.Errorf("%s(%d) = %d", name, i, got)
			}
		}
		if f.count > 0 && (f.at(0) < 0 || f.at(f.count-1) < 0) {
			t.Errorf("%s has no first or last", name)
		}
	}
}

// P2.2: a plan of an invalid configuration has no words.
func TestInvalidPlan(t *testing.T) {
	for _, c := range invalid() {
		p := Plan{c}
		if p.Size() != 0 || p.Total() != 0 || len(First(c)) != 0 {
			t.Errorf("%+v: size %d, total %d, %d words at first", c, p.Size(), p.Total(), len(First(c)))
		}
		for _, at := range []int{p.Announce(0), p.Slab(0), p.Entry(0), p.EntryLink(0), p.BlockLink(0), p.Word(0, 0), p.Home(0)} {
			if at != -1 {
				t.Errorf("%+v: an address is %d", c, at)
			}
		}
	}
}

// P2.2: the initial contents, written out.
func TestFirst(t *testing.T) {
	const free = 1 << 20
	if got, want := First(small), []api.Word{2, 0, 1, 0, 0, free, 0, 0, 0, 0, 0}; !slices.Equal(got, want) {
		t.Errorf("small: %v, want %v", got, want)
	}
	want := make([]api.Word, 3+3+2+10+8*4)
	want[0], want[2] = 2, 1
	copy(want[8:], []api.Word{free, 2, free, 3, free, 4, free, 5, free, 0})
	if got := First(middle); !slices.Equal(got, want) {
		t.Errorf("middle: %v, want %v", got, want)
	}
	if gen, block, state := pack.Unentry(free); gen != 1 || block != -1 || state != api.Free {
		t.Error("the word of a free entry is another one")
	}
	if got := First(greatest); len(got) != (Plan{greatest}).Size() {
		t.Errorf("greatest: %d words", len(got))
	}
}

// P2.2: each call of First returns new memory.
func TestFirstIsNew(t *testing.T) {
	l := First(middle)
	l[0] = 99
	if First(middle)[0] != 2 {
		t.Error("a change of the result changed the next one")
	}
}
