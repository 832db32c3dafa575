package script

import (
	"math"
	"reflect"
	"slices"
	"strings"
	"testing"

	"coatcheck/api"
)

// config is a configuration with two workers, and hall is its line.
var config = api.Config{Workers: 2, Slabs: 1, Blocks: 2, Words: 1, Entries: 3, Rack: 0, Bag: 1, Last: 9}

const hall = "hall 2 1 2 1 3 0 1 9\n"

// greatest is the configuration at all limits.
var greatest = api.Config{Workers: 8, Slabs: 8, Blocks: 16, Words: 4, Entries: 32, Rack: 4, Bag: 8, Last: 1 << 20}

const greatestHall = "hall 8 8 16 4 32 4 8 1048576\n"

var (
	pin   = api.Op{Kind: api.OpPin}
	write = api.Op{Kind: api.OpWrite, Use: true, By: 1, X: 7}
)

// pins returns a program of so many operations.
func pins(n int) []api.Op { return slices.Repeat([]api.Op{pin}, n) }

// picks returns so many picks of worker 1, and pickLines their lines.
func picks(n int) []int { return slices.Repeat([]int{1}, n) }

func pickLines(n int) string {
	full := "pick" + strings.Repeat(" 1", 20) + "\n"
	lines := strings.Repeat(full, n/20)
	if n%20 > 0 {
		lines += "pick" + strings.Repeat(" 1", n%20) + "\n"
	}
	return lines
}

// valid has valid scripts with their texts.
var valid = []struct {
	name   string
	script Script
	text   string
}{
	{"the chapter's example", Script{
		api.Config{Workers: 1, Slabs: 1, Blocks: 2, Words: 1, Entries: 1, Rack: 0, Bag: 1, Last: 9}, [][]api.Op{{{Kind: api.OpAlloc, X: 7}}}, []int{0, 0},
	}, "hall 1 1 2 1 1 0 1 9\ndo 0 alloc 7\npick 0 0\n"},
	{"no programs and no picks", Script{config, nil, nil}, hall},
	{"no programs", Script{config, nil, []int{1, 0}}, hall + "pick 1 0\n"},
	{"no picks", Script{config, [][]api.Op{{pin}}, nil}, hall + "do 0 pin\n"},
	{"the least configuration", Script{api.Config{Workers: 1, Slabs: 1, Blocks: 1, Words: 1, Entries: 1, Bag: 1, Last: 1}, nil, nil}, "hall 1 1 1 1 1 0 1 1\n"},
	{"the greatest configuration", Script{greatest, nil, []int{7}}, greatestHall + "pick 7\n"},
	{"an empty program before another", Script{config, [][]api.Op{{}, {pin, write}}, nil}, hall + "do 1 pin\ndo 1 write @1.0 7\n"},
	{"empty programs between others", Script{greatest, [][]api.Op{{pin}, nil, nil, {write}, {}, {pin}}, nil}, greatestHall + "do 0 pin\ndo 3 write @1.0 7\ndo 5 pin\n"},
	{"as many programs as workers", Script{config, [][]api.Op{{write}, {pin}}, nil}, hall + "do 0 write @1.0 7\ndo 1 pin\n"},
	{"each operation", Script{config, [][]api.Op{{
		{Kind: api.OpPin},
		{Kind: api.OpUnpin},
		{Kind: api.OpAlloc, X: math.MaxUint64},
		{Kind: api.OpFree, T: 65537},
		{Kind: api.OpWrite, T: 0, X: 0},
		{Kind: api.OpDeref, Use: true, By: 99, Nth: 1000},
		{Kind: api.OpPeek},
		{Kind: api.OpCollect},
		{Kind: api.OpDrain, Slab: 100},
	}}, nil}, hall + "do 0 pin\ndo 0 unpin\ndo 0 alloc 18446744073709551615\ndo 0 free 65537\ndo 0 write 0 0\ndo 0 deref @99.1000\ndo 0 peek\ndo 0 collect\ndo 0 drain 100\n"},
	{"200 operations", Script{config, [][]api.Op{pins(200)}, nil}, hall + strings.Repeat("do 0 pin\n", 200)},
	{"200 operations of each worker", Script{config, [][]api.Op{pins(200), pins(200)}, nil}, hall + strings.Repeat("do 0 pin\n", 200) + strings.Repeat("do 1 pin\n", 200)},
	{"1 pick", Script{config, nil, picks(1)}, hall + "pick 1\n"},
	{"19 picks", Script{config, nil, picks(19)}, hall + pickLines(19)},
	{"20 picks", Script{config, nil, picks(20)}, hall + pickLines(20)},
	{"21 picks", Script{config, nil, picks(21)}, hall + pickLines(20) + "pick 1\n"},
	{"40 picks after a program", Script{config, [][]api.Op{{pin}}, picks(40)}, hall + "do 0 pin\n" + pickLines(40)},
	{"1,999 picks", Script{config, nil, picks(1999)}, hall + pickLines(1999)},
	{"2,000 picks", Script{config, nil, picks(2000)}, hall + pickLines(2000)},
	{"picks in their order", Script{greatest, nil, []int{0, 7, 3, 3, 1, 2, 6, 5, 4, 0, 0, 1, 2, 3, 4, 5, 6, 7, 7, 6, 5, 4, 3}}, greatestHall + "pick 0 7 3 3 1 2 6 5 4 0 0 1 2 3 4 5 6 7 7 6\npick 5 4 3\n"},
}

// invalid has scripts that are not valid.
var invalid = []struct {
	name   string
	script Script
}{
	{"the zero script", Script{}},
	{"no workers", Script{with(func(c *api.Config) { c.Workers = 0 }), nil, nil}},
	{"9 workers", Script{with(func(c *api.Config) { c.Workers = 9 }), nil, nil}},
	{"no slabs", Script{with(func(c *api.Config) { c.Slabs = 0 }), nil, nil}},
	{"17 blocks", Script{with(func(c *api.Config) { c.Blocks = 17 }), nil, nil}},
	{"5 words", Script{with(func(c *api.Config) { c.Words = 5 }), nil, nil}},
	{"33 entries", Script{with(func(c *api.Config) { c.Entries = 33 }), nil, nil}},
	{"a rack of -1", Script{with(func(c *api.Config) { c.Rack = -1 }), nil, nil}},
	{"no bag", Script{with(func(c *api.Config) { c.Bag = 0 }), nil, nil}},
	{"no last generation", Script{with(func(c *api.Config) { c.Last = 0 }), nil, nil}},
	{"a last generation above its limit", Script{with(func(c *api.Config) { c.Last = 1<<20 + 1 }), nil, nil}},
	{"a last generation that fits no int", Script{with(func(c *api.Config) { c.Last = math.MaxUint64 }), nil, nil}},
	{"a program more than workers", Script{config, [][]api.Op{{pin}, {pin}, {pin}}, nil}},
	{"programs more than workers, the first ones empty", Script{config, [][]api.Op{{}, {}, {pin}}, nil}},
	{"very many programs", Script{config, make([][]api.Op, 1<<20), nil}},
	{"an empty program", Script{config, [][]api.Op{{}}, nil}},
	{"a program that is nil", Script{config, [][]api.Op{nil}, nil}},
	{"an empty last program", Script{config, [][]api.Op{{pin}, {}}, nil}},
	{"201 operations", Script{config, [][]api.Op{pins(201)}, nil}},
	{"201 operations of the second worker", Script{config, [][]api.Op{{pin}, pins(201)}, nil}},
	{"an operation that is not valid", Script{config, [][]api.Op{{{}}}, nil}},
	{"a field that the kind does not have", Script{config, [][]api.Op{{pin}, {pin, {Kind: api.OpPeek, X: 1}, pin}}, nil}},
	{"an invalid last operation", Script{config, [][]api.Op{{pin, {Kind: api.OpDrain, Slab: -1}}, {pin}}, nil}},
	{"an invalid 200th operation", Script{config, [][]api.Op{append(pins(199), api.Op{Kind: 10})}, nil}},
	{"2,001 picks", Script{config, nil, picks(2001)}},
	{"a pick of -1", Script{config, nil, []int{0, -1}}},
	{"a pick of the number of workers", Script{config, nil, []int{2, 0}}},
	{"a pick of the least int", Script{config, nil, []int{math.MinInt}}},
	{"a pick of the greatest int", Script{config, nil, []int{math.MaxInt}}},
	{"an invalid last pick", Script{config, nil, append(picks(1999), 2)}},
}

// with returns config with a change.
func with(change func(c *api.Config)) api.Config {
	c := config
	change(&c)
	return c
}

// equal reports whether two scripts are equal, apart from nil slices and empty ones. It does not rely on Same.
func equal(a, b Script) bool {
	equalOps := func(x, y []api.Op) bool { return slices.Equal(x, y) }
	return a.Config == b.Config && slices.EqualFunc(a.Programs, b.Programs, equalOps) && slices.Equal(a.Picks, b.Picks)
}

// P21.1, P21.2 and P21.3: valid scripts and their texts, both ways.
func TestValid(t *testing.T) {
	for _, c := range valid {
		if !Right(c.script) {
			t.Errorf("%s: not valid", c.name)
		}
		if text, e := Text(c.script); text != c.text || e != api.OK {
			t.Errorf("%s: Text is %q, %d, not %q", c.name, text, e, c.text)
		}
		if s, n, e := Parse(c.text); !equal(s, c.script) || n != 0 || e != api.OK {
			t.Errorf("%s: Parse returns %+v, %d, %d", c.name, s, n, e)
		}
	}
}

// P21.1: scripts that are not valid have no text.
func TestInvalid(t *testing.T) {
	for _, c := range invalid {
		if Right(c.script) {
			t.Errorf("%s: valid", c.name)
		}
		if text, e := Text(c.script); text != "" || e != api.ErrForm {
			t.Errorf("%s: Text is %q, %d", c.name, text, e)
		}
	}
}

// P21.1: Same compares all scripts, valid or not. A missing program equals an empty one.
func TestSame(t *testing.T) {
	base := Script{config, [][]api.Op{{pin}, {write, pin}}, []int{1, 0}}
	for _, c := range []struct {
		name string
		a, b Script
		want bool
	}{
		{"zero scripts", Script{}, Script{}, true},
		{"equal scripts", base, Script{config, [][]api.Op{{pin}, {write, pin}}, []int{1, 0}}, true},
		{"nil and empty", Script{config, nil, nil}, Script{config, [][]api.Op{}, []int{}}, true},
		{"missing and empty", Script{config, nil, nil}, Script{config, [][]api.Op{{}, nil, {}}, nil}, true},
		{"an empty program behind", base, Script{config, [][]api.Op{{pin}, {write, pin}, {}}, []int{1, 0}}, true},
		{"more programs than workers", Script{config, make([][]api.Op, 100), nil}, Script{config, make([][]api.Op, 3), nil}, true},
		{"an empty program before", Script{config, [][]api.Op{nil, {pin}}, nil}, Script{config, [][]api.Op{{}, {pin}}, nil}, true},
		{"missing and not empty", Script{config, [][]api.Op{{pin}}, nil}, Script{config, [][]api.Op{{pin}, {pin}}, nil}, false},
		{"not empty behind an empty one", Script{config, nil, nil}, Script{config, [][]api.Op{{}, {pin}}, nil}, false},
		{"another worker's program", Script{config, [][]api.Op{{}, {pin}}, nil}, Script{config, [][]api.Op{{pin}, {}}, nil}, false},
		{"the same operations, split otherwise", Script{config, [][]api.Op{{pin, pin}, {pin}}, nil}, Script{config, [][]api.Op{{pin}, {pin, pin}}, nil}, false},
		{"an operation more", base, Script{config, [][]api.Op{{pin}, {write, pin, pin}}, []int{1, 0}}, false},
		{"operations in another order", base, Script{config, [][]api.Op{{pin}, {pin, write}}, []int{1, 0}}, false},
		{"a pick more", base, Script{config, base.Programs, []int{1, 0, 0}}, false},
		{"picks in another order", base, Script{config, base.Programs, []int{0, 1}}, false},
		{"no picks", base, Script{config, base.Programs, nil}, false},
		{"invalid picks", Script{Picks: []int{-1, 99}}, Script{Picks: []int{-1, 99}}, true},
		{"other invalid picks", Script{Picks: []int{-1, 99}}, Script{Picks: []int{-1, 98}}, false},
		{"invalid operations", Script{Programs: [][]api.Op{{{Kind: -1, X: 3}}}}, Script{Programs: [][]api.Op{{{Kind: -1, X: 3}}}}, true},
	} {
		if Same(c.a, c.b) != c.want || Same(c.b, c.a) != c.want {
			t.Errorf("%s: %v, %v", c.name, Same(c.a, c.b), Same(c.b, c.a))
		}
	}
}

// P21.1: Same distinguishes each field of the configuration and of an operation.
func TestSameFields(t *testing.T) {
	for i, change := range []func(c *api.Config, o *api.Op){
		func(c *api.Config, o *api.Op) { c.Workers++ },
		func(c *api.Config, o *api.Op) { c.Slabs++ },
		func(c *api.Config, o *api.Op) { c.Blocks++ },
		func(c *api.Config, o *api.Op) { c.Words++ },
		func(c *api.Config, o *api.Op) { c.Entries++ },
		func(c *api.Config, o *api.Op) { c.Rack++ },
		func(c *api.Config, o *api.Op) { c.Bag++ },
		func(c *api.Config, o *api.Op) { c.Last++ },
		func(c *api.Config, o *api.Op) { o.Kind++ },
		func(c *api.Config, o *api.Op) { o.T++ },
		func(c *api.Config, o *api.Op) { o.X++ },
		func(c *api.Config, o *api.Op) { o.Slab++ },
		func(c *api.Config, o *api.Op) { o.Use = !o.Use },
		func(c *api.Config, o *api.Op) { o.By++ },
		func(c *api.Config, o *api.Op) { o.Nth++ },
	} {
		c, o := config, write
		change(&c, &o)
		a, b := Script{config, [][]api.Op{{pin}, {pin, write}}, nil}, Script{c, [][]api.Op{{pin}, {pin, o}}, nil}
		if Same(a, b) || Same(b, a) {
			t.Errorf("change %d is not seen", i)
		}
	}
}

// Rules: no function changes its argument, and no result shares memory with a later one.
func TestNoSharing(t *testing.T) {
	s := Script{config, [][]api.Op{{pin, write}, {write}}, []int{1, 0}}
	before := Script{config, [][]api.Op{{pin, write}, {write}}, []int{1, 0}}
	text, _ := Text(s)
	if Right(s); !Same(s, s) || !reflect.DeepEqual(s, before) {
		t.Error("the script was changed")
	}
	first, _, _ := Parse(text)
	second, _, _ := Parse(text)
	first.Programs[0][0], first.Programs[0][1], first.Picks[0] = write, pin, 0
	first.Programs[1] = append(first.Programs[1][:0], pin)
	if !equal(second, before) {
		t.Error("the second script was changed with the first one")
	}
	_ = append(second.Programs[0], pin)
	if !equal(second, before) {
		t.Error("one program was changed with the other one")
	}
}
