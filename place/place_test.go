package place

import (
	"cmp"
	"math"
	"math/rand"
	"slices"
	"testing"

	"coatcheck/api"
	"coatcheck/pack"
	"coatcheck/plan"
	"coatcheck/rack"
)

// Slab 0 has blocks 0 to 2, slab 1 blocks 3 to 5, slab 2 blocks 6 to 8.
var config = api.Config{Workers: 3, Slabs: 3, Blocks: 3, Words: 1, Entries: 4, Rack: 2, Bag: 2, Last: 9}

var layout = plan.Plan{Config: config}

// memory returns the initial contents with these changes applied in order.
func memory(changes ...func(words []api.Word)) []api.Word {
	words := plan.First(config)
	for _, change := range changes {
		change(words)
	}
	return words
}

// blocksFree makes the block free list consist of these blocks, from top to bottom.
func blocksFree(l ...int) func([]api.Word) {
	return func(words []api.Word) { link(words, plan.AtBlocks, layout.BlockLink, l) }
}

// entriesFree makes the entry free list consist of these entries, from top to bottom.
func entriesFree(l ...int) func([]api.Word) {
	return func(words []api.Word) { link(words, plan.AtEntries, layout.EntryLink, l) }
}

func link(words []api.Word, head int, at func(int) int, l []int) {
	below := -1
	for _, e := range slices.Backward(l) {
		words[at(e)] = api.Word(below + 1)
		below = e
	}
	words[head] = pack.Head(below, 7)
}

// entryIs gives an entry a state and a block.
func entryIs(entry, state, block int) func([]api.Word) {
	return set(layout.Entry(entry), pack.Entry(3, block, state))
}

// slabIs gives a slab a state and a number of parked blocks.
func slabIs(s, state, parked int) func([]api.Word) {
	return set(layout.Slab(s), pack.Slab(state, parked, 5))
}

func set(at int, w api.Word) func([]api.Word) {
	return func(words []api.Word) { words[at] = w }
}

func bags(l ...[]int) [3]api.Bag {
	var b [3]api.Bag
	for i := range l {
		b[i].L = l[i]
	}
	return b
}

// Definitions: the kinds have the numbers of the tables.
func TestKinds(t *testing.T) {
	got := []int{OnStack, InEntry, InRack, InBag, InHold, InHand, Given, IsOut}
	if !slices.Equal(got, []int{1, 2, 3, 4, 5, 6, 7, 8}) {
		t.Error(got)
	}
}

// P17.1: each location of a block, and what is none.
func TestBlock(t *testing.T) {
	for _, c := range []struct {
		name  string
		words []api.Word
		l     []api.Work
		block int
		want  []Spot
	}{
		{"nowhere", memory(), make([]api.Work, 3), 0, nil},
		{"no workers", memory(), nil, 0, nil},
		{"top of the free list", memory(blocksFree(4, 1, 8)), nil, 4, []Spot{{OnStack, 0}}},
		{"inside the free list", memory(blocksFree(4, 1, 8)), nil, 1, []Spot{{OnStack, 0}}},
		{"bottom of the free list", memory(blocksFree(4, 1, 8)), nil, 8, []Spot{{OnStack, 0}}},
		{"not on the free list", memory(blocksFree(4, 1, 8)), nil, 0, nil},
		{"the entry of the same number is free", memory(blocksFree(4)), nil, 2, nil},
		{"in an entry", memory(entryIs(3, api.Live, 5)), nil, 5, []Spot{{InEntry, 3}}},
		{"block 0 in an entry", memory(entryIs(2, api.Live, 0)), nil, 0, []Spot{{InEntry, 2}}},
		{"in two entries", memory(entryIs(3, api.Live, 5), entryIs(1, api.Live, 5)), nil, 5, []Spot{{InEntry, 1}, {InEntry, 3}}},
		{"in a free entry", memory(entryIs(3, api.Free, 5)), nil, 5, nil},
		{"in an entry that is out", memory(entryIs(3, api.Out, 5)), nil, 5, nil},
		{"in an entry of a state that does not exist", memory(entryIs(3, 5, 5)), nil, 5, nil},
		{"no block in an entry", memory(entryIs(0, api.Live, -1)), nil, 0, nil},
		{"another block in an entry", memory(entryIs(0, api.Live, 4)), nil, 5, nil},
		{"in a rack", memory(), []api.Work{{}, {Rack: []int{2, 6}}}, 6, []Spot{{InRack, 1}}},
		{"in two racks", memory(), []api.Work{{Rack: []int{6}}, {}, {Rack: []int{6}}}, 6, []Spot{{InRack, 0}, {InRack, 2}}},
		{"in the first bucket", memory(), []api.Work{{}, {}, {Bags: bags([]int{7, 8})}}, 7, []Spot{{InBag, 2}}},
		{"in the second bucket", memory(), []api.Work{{Bags: bags(nil, []int{8, 7})}}, 7, []Spot{{InBag, 0}}},
		{"in the third bucket", memory(), []api.Work{{Bags: bags(nil, []int{8}, []int{7})}}, 7, []Spot{{InBag, 0}}},
		{"held", memory(), []api.Work{{}, {Hold: []int{1, 0, 3}}}, 0, []Spot{{InHold, 1}}},
		{"in hand", memory(), []api.Work{{}, {B: 5}}, 4, []Spot{{InHand, 1}}},
		{"block 0 in hand", memory(), []api.Work{{B: 1}}, 0, []Spot{{InHand, 0}}},
		{"in hand at lines 31 and 32", memory(), []api.Work{{Line: 31, B: 5}, {Line: 32, B: 5}}, 4, []Spot{{InHand, 0}, {InHand, 1}}},
		{"given", memory(), []api.Work{{}, {}, {Line: 39, K: 9}}, 8, []Spot{{Given, 2}}},
		{"block 0 given", memory(), []api.Work{{Line: 30, K: 1}}, 0, []Spot{{Given, 0}}},
		{"read, borrowed, popped and loaded", memory(), []api.Work{{C: 5, Borrow: 5, H: 5, N: 5, V: 5, U: 5, J: 5, I: 5, T: 5, G: 5, E: 5, Read: []api.Word{4, 5}}}, 4, nil},
		{"more states than workers", memory(), []api.Work{{}, {}, {}, {B: 5, Hold: []int{4}}}, 4, []Spot{{InHold, 3}, {InHand, 3}}},
	} {
		if got := Block(config, c.words, c.l, c.block); !slices.Equal(got, c.want) {
			t.Errorf("%s: %v, not %v", c.name, got, c.want)
		}
	}
}

// P17.1: each location of an entry, and what is none.
func TestEntry(t *testing.T) {
	none := entriesFree()
	for _, c := range []struct {
		name  string
		words []api.Word
		l     []api.Work
		entry int
		want  []Spot
	}{
		{"top of the free list", memory(entriesFree(2, 0, 3)), nil, 2, []Spot{{OnStack, 0}}},
		{"inside the free list", memory(entriesFree(2, 0, 3)), nil, 0, []Spot{{OnStack, 0}}},
		{"bottom of the free list", memory(entriesFree(2, 0, 3)), nil, 3, []Spot{{OnStack, 0}}},
		{"not on the free list", memory(entriesFree(2, 0, 3)), nil, 1, nil},
		{"the block of the same number is free", memory(none, blocksFree(1)), nil, 1, nil},
		{"live", memory(none, entryIs(3, api.Live, 1)), nil, 3, []Spot{{InEntry, 3}}},
		{"live with no block", memory(none, entryIs(0, api.Live, -1)), nil, 0, []Spot{{InEntry, 0}}},
		{"another one is live with the block of the same number", memory(none, entryIs(3, api.Live, 1)), nil, 1, nil},
		{"out", memory(none, entryIs(2, api.Out, -1)), nil, 2, []Spot{{IsOut, 2}}},
		{"a state that does not exist", memory(none, entryIs(2, 3, -1)), nil, 2, nil},
		{"in hand", memory(none), []api.Work{{}, {}, {I: 2}}, 1, []Spot{{InHand, 2}}},
		{"entry 0 in hand", memory(none), []api.Work{{}, {I: 1}}, 0, []Spot{{InHand, 1}}},
		{"in hand at lines 31 and 32", memory(none), []api.Work{{Line: 31, I: 2}, {Line: 32, I: 2}}, 1, []Spot{{InHand, 0}, {InHand, 1}}},
		{"no entry in hand", memory(none), make([]api.Work, 3), 0, nil},
		{"blocks of the same number", memory(none), []api.Work{{Line: 39, B: 2, K: 2, C: 2, Borrow: 2, Rack: []int{1}, Hold: []int{1}, Bags: bags([]int{1}), H: 2}}, 1, nil},
		{
			"everywhere", memory(entriesFree(1, 3), entryIs(3, api.Live, 1)), []api.Work{{I: 4}, {I: 3}, {I: 4}}, 3,
			[]Spot{{OnStack, 0}, {InEntry, 3}, {InHand, 0}, {InHand, 2}},
		},
		{"out and in hand", memory(none, entryIs(1, api.Out, -1)), []api.Work{{}, {I: 2}}, 1, []Spot{{InHand, 1}, {IsOut, 1}}},
	} {
		if got := Entry(config, c.words, c.l, c.entry); !slices.Equal(got, c.want) {
			t.Errorf("%s: %v, not %v", c.name, got, c.want)
		}
	}
}

// P17.1: what occurs twice has two locations.
func TestTwice(t *testing.T) {
	for _, c := range []struct {
		name string
		x    api.Work
		want []Spot
	}{
		{"in a rack", api.Work{Rack: []int{4, 3, 4}}, []Spot{{InRack, 1}, {InRack, 1}}},
		{"in one bucket", api.Work{Bags: bags(nil, []int{4, 4})}, []Spot{{InBag, 1}, {InBag, 1}}},
		{"in several buckets", api.Work{Bags: bags([]int{4}, []int{0, 4}, []int{4})}, []Spot{{InBag, 1}, {InBag, 1}, {InBag, 1}}},
		{"in a hold list", api.Work{Hold: []int{4, 4, 1}}, []Spot{{InHold, 1}, {InHold, 1}}},
		{"given and in hand", api.Work{B: 5, K: 5}, []Spot{{InHand, 1}, {Given, 1}}},
	} {
		l := []api.Work{{}, c.x, {}}
		words := memory(slabIs(1, api.Active, 2))
		if got := Block(config, words, l, 4); !slices.Equal(got, c.want) {
			t.Errorf("%s: %v, not %v", c.name, got, c.want)
		}
		if Sound(config, words, l) {
			t.Errorf("%s: sound", c.name)
		}
	}
}

// P17.1: the locations are sorted by kind and then by the number of who has the element, not by worker.
func TestOrder(t *testing.T) {
	words := memory(blocksFree(4, 2), entryIs(3, api.Live, 2), entryIs(1, api.Live, 2))
	all := api.Work{Line: 15, Rack: []int{2, 2}, Bags: bags([]int{2}, nil, []int{1, 2}), Hold: []int{2}, B: 3, K: 3}
	l := []api.Work{all, {}, all}
	want := []Spot{
		{OnStack, 0}, {InEntry, 1}, {InEntry, 3}, {InRack, 0}, {InRack, 0}, {InRack, 2}, {InRack, 2},
		{InBag, 0}, {InBag, 0}, {InBag, 2}, {InBag, 2}, {InHold, 0}, {InHold, 2}, {InHand, 0}, {InHand, 2}, {Given, 0}, {Given, 2},
	}
	if got := Block(config, words, l, 2); !slices.Equal(got, want) {
		t.Errorf("%v, not %v", got, want)
	}
}

// P17.1: at lines 31 and 32 K is no location, at all others it is.
func TestParkedAtLines31And32(t *testing.T) {
	for line := -1; line <= 100; line++ {
		var want []Spot
		if line != 31 && line != 32 {
			want = []Spot{{Given, 1}}
		}
		l := []api.Work{{}, {Line: line, K: 4}}
		if got := Block(config, memory(), l, 3); !slices.Equal(got, want) {
			t.Errorf("line %d: %v", line, got)
		}
		if got := Count(config, memory(), l, Given); got != len(want) {
			t.Errorf("line %d: %d blocks are given", line, got)
		}
		words := memory(slabIs(1, api.Draining, 3-len(want)))
		if !Sound(config, words, l) {
			t.Errorf("line %d: not sound", line)
		}
	}
}

// P17.1, P17.2: on a free list that is not valid is nothing; the other one does not matter.
func TestInvalidFreeLists(t *testing.T) {
	sound := []func([]api.Word){slabIs(0, api.Active, 1), slabIs(1, api.Active, 2), blocksFree(0, 1, 3)}
	if !Sound(config, memory(sound...), nil) {
		t.Fatal("the memory before")
	}
	for _, c := range []struct {
		name    string
		change  func([]api.Word)
		entries bool
	}{
		{"head to a block that does not exist", set(plan.AtBlocks, pack.Head(9, 0)), false},
		{"head with all bits", set(plan.AtBlocks, math.MaxUint32), false},
		{"link to a block that does not exist", set(layout.BlockLink(3), 10), false},
		{"block under itself", set(layout.BlockLink(3), 4), false},
		{"cycle of blocks", set(layout.BlockLink(3), 1), false},
		{"head to an entry that does not exist", set(plan.AtEntries, pack.Head(4, 0)), true},
		{"link to an entry that does not exist", set(layout.EntryLink(3), 5), true},
		{"cycle of entries", set(layout.EntryLink(3), 1), true},
	} {
		words := memory(append(sound, c.change)...)
		blocks, entries := []Spot{{OnStack, 0}}, []Spot{{OnStack, 0}}
		if c.entries {
			entries = nil
		} else {
			blocks = nil
		}
		for _, b := range []int{0, 1, 3} {
			if got := Block(config, words, nil, b); !slices.Equal(got, blocks) {
				t.Errorf("%s: block %d is at %v", c.name, b, got)
			}
		}
		for e := range 4 {
			if got := Entry(config, words, nil, e); !slices.Equal(got, entries) {
				t.Errorf("%s: entry %d is at %v", c.name, e, got)
			}
		}
		if got := Count(config, words, nil, OnStack); got != 3*len(blocks) {
			t.Errorf("%s: %d blocks on the list", c.name, got)
		}
		if Sound(config, words, nil) {
			t.Errorf("%s: sound", c.name)
		}
	}
}

// P17.2: an invalid list makes a scene unsound even where the numbers of locations are right without it.
func TestInvalidListsAreNeverSound(t *testing.T) {
	allLive := []func([]api.Word){entriesFree(), entryIs(0, api.Live, -1), entryIs(1, api.Live, -1), entryIs(2, api.Live, -1), entryIs(3, api.Out, -1)}
	if words := memory(allLive...); !Sound(config, words, nil) {
		t.Error("all entries live or out, no block used")
	}
	if words := memory(append(allLive, set(plan.AtEntries, pack.Head(4, 0)))...); Sound(config, words, nil) {
		t.Error("no list of entries")
	}
	if words := memory(set(plan.AtBlocks, pack.Head(9, 0))); Sound(config, words, nil) {
		t.Error("no list of blocks")
	}
}

// crowd returns a scene with blocks of all kinds of locations: 2 on the stack, 3 in entries, 4 in racks, and so on.
func crowd() ([]api.Word, []api.Work) {
	words := memory(blocksFree(8, 0), entriesFree(3), entryIs(0, api.Live, 8), entryIs(1, api.Live, 8), entryIs(2, api.Live, 0))
	l := []api.Work{
		{Rack: []int{1, 8, 1}, Bags: bags([]int{2}, []int{3, 4}), Hold: []int{5, 6, 7}, B: 1, K: 9, I: 1},
		{Rack: []int{0}, Bags: bags(nil, nil, []int{2, 2}), Hold: []int{5, 5, 5}, B: 2, K: 1, I: 2},
		{Line: 31, K: 5, I: 3},
	}
	return words, l
}

// P17.2: the number of locations of each kind over all blocks; kinds that do not exist and the kind that only entries have have none.
func TestCount(t *testing.T) {
	words, l := crowd()
	for kind, want := range map[int]int{
		OnStack: 2, InEntry: 3, InRack: 4, InBag: 5, InHold: 6, InHand: 2, Given: 2,
		IsOut: 0, 0: 0, 9: 0, -1: 0, math.MaxInt: 0, math.MinInt: 0,
	} {
		if got := Count(config, words, l, kind); got != want {
			t.Errorf("kind %d: %d, not %d", kind, got, want)
		}
	}
	if got := Count(config, memory(entryIs(0, api.Out, 3)), nil, IsOut); got != 0 {
		t.Errorf("%d blocks are out", got)
	}
	if got := Count(config, memory(entryIs(0, api.Live, -1), entryIs(1, api.Live, 9)), nil, InEntry); got != 0 {
		t.Errorf("%d blocks in entries that refer to none", got)
	}
}

// P17.1, P17.2: numbers that are no blocks are nowhere, and do not matter.
func TestElementsThatDoNotExist(t *testing.T) {
	strange := []int{-1, 9, math.MaxInt, math.MinInt}
	var l []api.Work
	for _, b := range strange {
		l = append(l, api.Work{Rack: strange, Bags: bags(strange, strange, strange), Hold: strange, B: b + 1, K: b + 1, I: b + 1})
	}
	l[1].I = 5
	words := memory()
	for kind := range 10 {
		if got := Count(config, words, l, kind); got != 0 {
			t.Errorf("kind %d: %d", kind, got)
		}
	}
	if !Sound(config, words, l) {
		t.Error("not sound")
	}
	for _, b := range strange {
		if got := Block(config, words, l, b); len(got) != 0 {
			t.Errorf("block %d is at %v", b, got)
		}
	}
	for _, e := range []int{-1, 4, math.MaxInt, math.MinInt} {
		if got := Entry(config, words, l, e); len(got) != 0 {
			t.Errorf("entry %d is at %v", e, got)
		}
	}
}

// P17.1, P17.2: without a valid configuration and its number of words there are no locations, and nothing is sound.
func TestInvalidScenes(t *testing.T) {
	words, l := crowd()
	bad, great := config, config
	bad.Bag, great.Rack = 0, api.MaxRack+1
	for _, c := range []struct {
		name  string
		c     api.Config
		words []api.Word
	}{
		{"configuration too small", bad, words},
		{"configuration too great", great, words},
		{"zero configuration", api.Config{}, nil},
		{"zero configuration with words", api.Config{}, words},
		{"no words", config, nil},
		{"a word too few", config, words[:len(words)-1]},
		{"a word too many", config, append(slices.Clone(words), 0)},
	} {
		for i := range 9 {
			if got := Block(c.c, c.words, l, i); len(got) != 0 {
				t.Errorf("%s: block %d is at %v", c.name, i, got)
			}
			if got := Entry(c.c, c.words, l, i); len(got) != 0 {
				t.Errorf("%s: entry %d is at %v", c.name, i, got)
			}
			if got := Count(c.c, c.words, l, i); got != 0 {
				t.Errorf("%s: kind %d: %d", c.name, i, got)
			}
		}
		if Sound(c.c, c.words, l) || Sound(c.c, c.words, nil) {
			t.Errorf("%s: sound", c.name)
		}
	}
	shorter := memory()
	if !Sound(config, shorter, nil) || Sound(config, shorter[:len(shorter)-1], nil) || Sound(config, append(shorter, 0), nil) || Sound(bad, memory(), nil) || Sound(great, memory(), nil) {
		t.Error("the initial memory, with other numbers of words and other configurations")
	}
}

// P17.2: the blocks of each slab by its state.
func TestSoundSlabs(t *testing.T) {
	for _, c := range []struct {
		name          string
		state, parked int
		hold          []int
		want          bool
	}{
		{"raw", api.Raw, 0, nil, true},
		{"raw with a block", api.Raw, 0, []int{4}, false},
		{"raw with all blocks", api.Raw, 0, []int{3, 4, 5}, false},
		{"raw with a number of parked blocks", api.Raw, 2, nil, true},
		{"raw with as many others as are parked", api.Raw, 2, []int{4}, false},
		{"empty", api.Empty, 0, nil, true},
		{"empty with a block", api.Empty, 0, []int{5}, false},
		{"empty with all blocks", api.Empty, 0, []int{3, 4, 5}, false},
		{"empty with a number of parked blocks", api.Empty, 3, nil, true},
		{"empty with as many others as are parked", api.Empty, 2, []int{4}, false},
		{"active", api.Active, 0, []int{3, 4, 5}, true},
		{"active in another order", api.Active, 0, []int{5, 3, 4}, true},
		{"active with a block lost", api.Active, 0, []int{3, 5}, false},
		{"active with all blocks lost", api.Active, 0, nil, false},
		{"active with a block twice", api.Active, 0, []int{3, 4, 5, 4}, false},
		{"active with a block twice instead of another", api.Active, 0, []int{3, 4, 4}, false},
		{"active with a block twice and one parked", api.Active, 1, []int{3, 4, 4}, false},
		{"active with a parked block", api.Active, 1, []int{3, 4}, true},
		{"draining with all blocks in use", api.Draining, 0, []int{3, 4, 5}, true},
		{"draining with a parked block", api.Draining, 1, []int{3, 5}, true},
		{"draining with two parked blocks", api.Draining, 2, []int{5}, true},
		{"draining with all blocks parked", api.Draining, 3, nil, true},
		{"draining with a block lost", api.Draining, 1, []int{3}, false},
		{"draining with too many parked", api.Draining, 2, []int{3, 4}, false},
		{"draining with more parked than there are", api.Draining, 4, nil, false},
		{"draining with a parked block twice", api.Draining, 1, []int{3, 3, 5}, false},
		{"a state that does not exist, like one in use", 4, 1, []int{3, 4}, true},
		{"a state that does not exist, unlike an unused one", 15, 0, nil, false},
	} {
		for s := range 3 {
			hold := slices.Clone(c.hold)
			for i := range hold {
				hold[i] += 3*s - 3
			}
			words := memory(slabIs(s, c.state, c.parked))
			if got := Sound(config, words, []api.Work{{}, {Hold: hold}}); got != c.want {
				t.Errorf("slab %d, %s: %v", s, c.name, got)
			}
		}
	}
}

// P17.2: a slab with too many does not make up for one with too few.
func TestSoundSlabBySlab(t *testing.T) {
	words := memory(slabIs(0, api.Draining, 1), slabIs(1, api.Draining, 2))
	if !Sound(config, words, []api.Work{{Rack: []int{0, 2}, B: 5}}) {
		t.Error("not sound")
	}
	if Sound(config, words, []api.Work{{Rack: []int{0, 3}, B: 5}}) {
		t.Error("a block of slab 0 is lost and one of slab 1 is both parked and in a rack")
	}
}

// P17.2: two locations of any two kinds are one too many.
func TestSoundOfTwoKinds(t *testing.T) {
	place := map[int]func(words []api.Word, x *api.Work){
		OnStack: func(words []api.Word, _ *api.Work) { blocksFree(4)(words) },
		InEntry: func(words []api.Word, _ *api.Work) { entriesFree(0, 2, 3)(words); entryIs(1, api.Live, 4)(words) },
		InRack:  func(_ []api.Word, x *api.Work) { x.Rack = []int{4} },
		InBag:   func(_ []api.Word, x *api.Work) { x.Bags[2].L = []int{4} },
		InHold:  func(_ []api.Word, x *api.Work) { x.Hold = []int{4} },
		InHand:  func(_ []api.Word, x *api.Work) { x.B = 5 },
		Given:   func(_ []api.Word, x *api.Work) { x.K = 5 },
	}
	for a := OnStack; a <= Given; a++ {
		for b := a; b <= Given; b++ {
			words, l := memory(slabIs(1, api.Draining, 2)), make([]api.Work, 3)
			place[a](words, &l[2])
			place[b](words, &l[2])
			if got := Sound(config, words, l); got != (a == b) {
				t.Errorf("kinds %d and %d: %v", a, b, got)
			}
		}
	}
}

// P17.2: every entry has exactly one location.
func TestSoundEntries(t *testing.T) {
	for _, c := range []struct {
		name  string
		words []api.Word
		l     []api.Work
		want  bool
	}{
		{"all on the list", memory(), nil, true},
		{"one lost", memory(entriesFree(0, 1, 3)), nil, false},
		{"one in hand", memory(entriesFree(0, 1, 3)), []api.Work{{}, {I: 3}}, true},
		{"one in two hands", memory(entriesFree(0, 1, 3)), []api.Work{{I: 3}, {I: 3}}, false},
		{"one out", memory(entriesFree(0, 1, 3), entryIs(2, api.Out, -1)), nil, true},
		{"one live", memory(entriesFree(0, 1, 3), entryIs(2, api.Live, -1)), nil, true},
		{"one in a state that does not exist", memory(entriesFree(0, 1, 3), entryIs(2, 3, -1)), nil, false},
		{"one live and in hand", memory(entriesFree(0, 1, 3), entryIs(2, api.Live, -1)), []api.Work{{I: 3}}, false},
		{"one out and in hand", memory(entriesFree(0, 1, 3), entryIs(2, api.Out, -1)), []api.Work{{I: 3}}, false},
		{"one live and on the list", memory(entryIs(2, api.Live, -1)), nil, false},
		{"one out and on the list", memory(entryIs(2, api.Out, -1)), nil, false},
		{"one in hand and on the list", memory(), []api.Work{{}, {I: 4}}, false},
		{"none on the list", memory(entriesFree()), nil, false},
		{"one lost and one twice", memory(entriesFree(0, 1, 3)), []api.Work{{}, {I: 4}}, false},
	} {
		if got := Sound(config, c.words, c.l); got != c.want {
			t.Errorf("%s: %v", c.name, got)
		}
	}
}

// Rules: no argument is modified, and no result shares memory with a later one.
func TestArgumentsAndResultsAreKept(t *testing.T) {
	words, l := crowd()
	keepWords, keep := slices.Clone(words), make([]api.Work, len(l))
	for w := range l {
		keep[w] = rack.Copy(l[w])
	}
	first := Block(config, words, l, 8)
	want := slices.Clone(first)
	second := Block(config, words, l, 8)
	entry := Entry(config, words, l, 0)
	wantEntry := slices.Clone(entry)
	again := Entry(config, words, l, 0)
	Count(config, words, l, InRack)
	Sound(config, words, l)
	if len(first) < 3 || len(entry) != 2 {
		t.Fatalf("%v, %v", first, entry)
	}
	clear(first)
	clear(entry)
	if !slices.Equal(second, want) || !slices.Equal(again, wantEntry) || !slices.Equal(Block(config, words, l, 8), want) {
		t.Error("a result changed with another one")
	}
	if !slices.Equal(words, keepWords) {
		t.Error("the words changed")
	}
	for w := range l {
		if !rack.Same(l[w], keep[w]) {
			t.Errorf("worker %d changed", w)
		}
	}
}

// byKind returns the locations of a block kind by kind, as the table of the chapter lists them.
func byKind(p plan.Plan, words []api.Word, l []api.Work, block int) []Spot {
	var all []Spot
	add := func(s Spot, times int) {
		for range times {
			all = append(all, s)
		}
	}
	add(Spot{OnStack, 0}, times(chain(words, plan.AtBlocks, p.BlockLink, p.Total()), block))
	for i := range p.Entries {
		if w := words[p.Entry(i)]; w&15 == api.Live && w>>4&0xffff == api.Word(block+1) {
			add(Spot{InEntry, i}, 1)
		}
	}
	for w, x := range l {
		add(Spot{InRack, w}, times(x.Rack, block))
		add(Spot{InBag, w}, times(slices.Concat(x.Bags[0].L, x.Bags[1].L, x.Bags[2].L), block))
		add(Spot{InHold, w}, times(x.Hold, block))
		add(Spot{InHand, w}, times([]int{x.B}, block+1))
		if x.Line < 31 || x.Line > 32 {
			add(Spot{Given, w}, times([]int{x.K}, block+1))
		}
	}
	return sorted(all)
}

// entryByKind returns the locations of an entry in the same way.
func entryByKind(p plan.Plan, words []api.Word, l []api.Work, entry int) []Spot {
	var all []Spot
	for range times(chain(words, plan.AtEntries, p.EntryLink, p.Entries), entry) {
		all = append(all, Spot{OnStack, 0})
	}
	switch words[p.Entry(entry)] & 15 {
	case api.Live:
		all = append(all, Spot{InEntry, entry})
	case api.Out:
		all = append(all, Spot{IsOut, entry})
	}
	for w, x := range l {
		if x.I == entry+1 {
			all = append(all, Spot{InHand, w})
		}
	}
	return sorted(all)
}

// chain follows links, or returns nil if they do not end within so many elements.
func chain(words []api.Word, head int, link func(int) int, count int) []int {
	var l []int
	for next := words[head] & math.MaxUint32; next != 0; next = words[link(l[len(l)-1])] & math.MaxUint32 {
		if next > api.Word(count) || len(l) == count {
			return nil
		}
		l = append(l, int(next)-1)
	}
	return l
}

func times(l []int, element int) int {
	n := 0
	for _, e := range l {
		if e == element {
			n++
		}
	}
	return n
}

func sorted(l []Spot) []Spot {
	slices.SortFunc(l, func(a, b Spot) int { return cmp.Or(a.Kind-b.Kind, a.Who-b.Who) })
	return l
}

// randomScene returns any words that look a little like a memory, and any states.
func randomScene(r *rand.Rand, p plan.Plan) ([]api.Word, []api.Work) {
	words := plan.First(p.Config)
	free := r.Perm(p.Total())[:r.Intn(p.Total()+1)]
	link(words, plan.AtBlocks, p.BlockLink, free)
	for range r.Intn(1 + r.Intn(len(words))) {
		words[r.Intn(len(words))] = api.Word(r.Intn(p.Total()+3)) | api.Word(r.Intn(3))<<32
	}
	for i := range p.Entries {
		words[p.Entry(i)] = pack.Entry(api.Word(r.Intn(9)), r.Intn(p.Total()+1)-1, r.Intn(4))
	}
	blocks := func() []int {
		l := make([]int, r.Intn(4))
		for i := range l {
			l[i] = r.Intn(p.Total()+2) - 1
		}
		return l
	}
	l := make([]api.Work, r.Intn(5))
	for w := range l {
		l[w] = api.Work{
			Line: 29 + r.Intn(5), Rack: blocks(), Bags: bags(blocks(), blocks(), blocks()), Hold: blocks(),
			B: r.Intn(p.Total() + 2), K: r.Intn(p.Total() + 2), I: r.Intn(p.Entries + 2),
		}
	}
	return words, l
}

// P17.1, P17.2: the locations in any memory and with any states are those of the tables.
func TestRandomScenes(t *testing.T) {
	r := rand.New(rand.NewSource(17))
	counts := map[int]int{}
	for range 3000 {
		c := api.Config{Workers: 1 + r.Intn(8), Slabs: 1 + r.Intn(8), Blocks: 1 + r.Intn(3), Words: 1 + r.Intn(4), Entries: 1 + r.Intn(6), Bag: 1, Last: 9}
		p := plan.Plan{Config: c}
		words, l := randomScene(r, p)
		total := map[int]int{}
		for b := range p.Total() {
			want := byKind(p, words, l, b)
			if got := Block(c, words, l, b); !slices.Equal(got, want) {
				t.Fatalf("block %d is at %v, not %v", b, got, want)
			}
			for _, s := range want {
				total[s.Kind]++
			}
		}
		for kind := range 10 {
			if got := Count(c, words, l, kind); got != total[kind] {
				t.Fatalf("kind %d: %d, not %d", kind, got, total[kind])
			}
			counts[kind] += total[kind]
		}
		for e := range c.Entries {
			if got, want := Entry(c, words, l, e), entryByKind(p, words, l, e); !slices.Equal(got, want) {
				t.Fatalf("entry %d is at %v, not %v", e, got, want)
			}
		}
	}
	for kind := OnStack; kind <= Given; kind++ {
		if counts[kind] < 1000 {
			t.Errorf("only %d blocks of kind %d", counts[kind], kind)
		}
	}
}
