package memory

import (
	"math"
	"slices"
	"testing"

	"coatcheck/api"
	"coatcheck/plan"
)

var config = api.Config{Workers: 1, Slabs: 1, Blocks: 2, Words: 1, Entries: 1, Rack: 0, Bag: 1, Last: 9}

// sample returns a memory whose word at i is 10 × i, and these words.
func sample(t *testing.T) (*Memory, []api.Word) {
	t.Helper()
	l := make([]api.Word, 11)
	for i := range l {
		l[i] = api.Word(10 * i)
	}
	m, e := From(config, l...)
	if e != api.OK {
		t.Fatal(e)
	}
	return m, l
}

var wrong = []int{-1, 11, 12, math.MinInt, math.MaxInt}

// P3.1: New has the initial contents of layer 2 and no access yet.
func TestNew(t *testing.T) {
	m, e := New(config)
	if e != api.OK || !slices.Equal(m.All(), plan.First(config)) || m.Seen != (api.Access{}) || m.Config != config {
		t.Errorf("%+v, %d", m, e)
	}
}

// P3.1: the errors of New and From; that of Check goes before ErrForm.
func TestInvalidArguments(t *testing.T) {
	bad, great := config, config
	bad.Bag = 0
	great.Words = 5
	for c, want := range map[api.Config]api.Errno{bad: api.ErrArg, great: api.ErrRange, {}: api.ErrArg} {
		if m, e := New(c); m != nil || e != want {
			t.Errorf("New: %v, %d, want %d", m, e, want)
		}
		for _, l := range [][]api.Word{nil, make([]api.Word, 11)} {
			if m, e := From(c, l...); m != nil || e != want {
				t.Errorf("From %d words: %v, %d, want %d", len(l), m, e, want)
			}
		}
	}
	for _, n := range []int{0, 1, 10, 12, 100} {
		if m, e := From(config, make([]api.Word, n)...); m != nil || e != api.ErrForm {
			t.Errorf("From %d words: %v, %d", n, m, e)
		}
	}
}

// P3.1: From has the words that it is passed, and keeps no part of the argument.
func TestFromCopiesItsWords(t *testing.T) {
	m, l := sample(t)
	if !slices.Equal(m.All(), l) || m.Seen != (api.Access{}) {
		t.Errorf("%v", m.All())
	}
	l[3] = 99
	if m.Peek(3) != 30 {
		t.Error("a change of the argument changed the memory")
	}
	m.Store(4, 77)
	if l[4] != 40 {
		t.Error("a store changed the argument")
	}
}

// P3.1, P3.2: each operation's result, effect and record.
func TestAccesses(t *testing.T) {
	for _, c := range []struct {
		name   string
		do     func(m *Memory) any
		result any
		seen   api.Access
		after  api.Word
	}{
		{"Load", func(m *Memory) any { return m.Load(5) }, api.Word(50), api.Access{Kind: api.ALoad, At: 5, Old: 50}, 50},
		{"Store", func(m *Memory) any { m.Store(5, 7); return nil }, nil, api.Access{Kind: api.AStore, At: 5, X: 7, Old: 50}, 7},
		{"Cas", func(m *Memory) any { return m.Cas(5, 50, 8) }, true, api.Access{Kind: api.ACas, At: 5, X: 50, Y: 8, Old: 50}, 8},
		{"Cas that fails", func(m *Memory) any { return m.Cas(5, 51, 8) }, false, api.Access{Kind: api.ACas, At: 5, X: 51, Y: 8, Old: 50}, 50},
		{"Cas to the same", func(m *Memory) any { return m.Cas(5, 50, 50) }, true, api.Access{Kind: api.ACas, At: 5, X: 50, Y: 50, Old: 50}, 50},
		{"Add", func(m *Memory) any { return m.Add(5, 3) }, api.Word(50), api.Access{Kind: api.AAdd, At: 5, X: 3, Old: 50}, 53},
		{"Add around", func(m *Memory) any { return m.Add(5, math.MaxUint64-48) }, api.Word(50), api.Access{Kind: api.AAdd, At: 5, X: math.MaxUint64 - 48, Old: 50}, 1},
		{"Peek", func(m *Memory) any { return m.Peek(5) }, api.Word(50), api.Access{}, 50},
	} {
		m, want := sample(t)
		if got := c.do(m); got != c.result {
			t.Errorf("%s: %v, want %v", c.name, got, c.result)
		}
		want[5] = c.after
		if m.Seen != c.seen || !slices.Equal(m.All(), want) {
			t.Errorf("%s: seen %+v, words %v", c.name, m.Seen, m.All())
		}
	}
}

// P3.2: the example of the chapter, and the first and the last address.
func TestAddressesAtTheEnds(t *testing.T) {
	m, _ := sample(t)
	m.Store(0, 5)
	if got := m.Add(0, 3); got != 5 || m.Seen != (api.Access{Kind: api.AAdd, X: 3, Old: 5}) || m.Peek(0) != 8 {
		t.Errorf("%d, %+v, %d", got, m.Seen, m.Peek(0))
	}
	if m.Load(10) != 100 || m.Seen.At != 10 {
		t.Error("the last word")
	}
}

// P3.2: at an invalid address nothing happens, and the record becomes zero.
func TestInvalidAddresses(t *testing.T) {
	for _, at := range wrong {
		for name, do := range map[string]func(m *Memory) bool{
			"Load":  func(m *Memory) bool { return m.Load(at) == 0 },
			"Store": func(m *Memory) bool { m.Store(at, 5); return true },
			"Cas":   func(m *Memory) bool { return !m.Cas(at, 0, 5) },
			"Add":   func(m *Memory) bool { return m.Add(at, 5) == 0 },
		} {
			m, want := sample(t)
			m.Load(3)
			if !do(m) || m.Seen != (api.Access{}) || !slices.Equal(m.All(), want) {
				t.Errorf("%s(%d): seen %+v, words %v", name, at, m.Seen, m.All())
			}
		}
	}
}

// P3.2: Peek records nothing, also at an invalid address.
func TestPeekKeepsTheRecord(t *testing.T) {
	m, _ := sample(t)
	m.Load(3)
	seen := m.Seen
	for _, at := range wrong {
		if m.Peek(at) != 0 || m.Seen != seen {
			t.Errorf("Peek(%d): seen %+v", at, m.Seen)
		}
	}
	if m.Peek(4) != 40 || m.Seen != seen {
		t.Errorf("seen %+v", m.Seen)
	}
}

// P3.1: Clear resets the record and nothing else.
func TestClear(t *testing.T) {
	m, want := sample(t)
	m.Load(3)
	m.Clear()
	if m.Seen != (api.Access{}) || !slices.Equal(m.All(), want) {
		t.Errorf("%+v", m.Seen)
	}
}

// P3.2: All and Copy share no memory with the original.
func TestCopies(t *testing.T) {
	m, want := sample(t)
	m.All()[3] = 99
	m.Load(3)
	n := m.Copy()
	if !slices.Equal(n.All(), want) || n.Seen != (api.Access{}) || n.Config != config {
		t.Errorf("the copy is %+v", n)
	}
	if m.Seen.Kind != api.ALoad {
		t.Error("the copying changed the record")
	}
	n.Store(3, 1)
	m.Store(4, 2)
	if m.Peek(3) != 30 || n.Peek(4) != 40 {
		t.Error("a store into one changed the other")
	}
}

// P3.3: a nil memory does nothing.
func TestNilMemory(t *testing.T) {
	var m *Memory
	m.Store(0, 1)
	m.Clear()
	for _, at := range append(wrong, 0, 5) {
		if m.Load(at) != 0 || m.Cas(at, 0, 0) || m.Add(at, 1) != 0 || m.Peek(at) != 0 {
			t.Errorf("address %d", at)
		}
	}
	if len(m.All()) != 0 || m.Copy() != nil {
		t.Error("a nil memory has words")
	}
}

// P1: the zero Memory has no words.
func TestZeroMemory(t *testing.T) {
	m := &Memory{}
	m.Store(0, 1)
	if m.Load(0) != 0 || m.Cas(0, 0, 0) || m.Add(0, 1) != 0 || m.Peek(0) != 0 || len(m.All()) != 0 || len(m.Copy().All()) != 0 {
		t.Error("the zero memory has words")
	}
}
