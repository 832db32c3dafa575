package work

import (
	"coatcheck/api"
	"coatcheck/bag"
	"coatcheck/entry"
	"coatcheck/epoch"
	"coatcheck/give"
	"coatcheck/memory"
	"coatcheck/slab"
	"coatcheck/take"
)

// stepper executes a line and returns its outcome.
type stepper func(m *memory.Memory, w int, x api.Work) (api.Work, int, bool)

// follower says what follows a step that is finished.
type follower func(c api.Config, x api.Work) api.Work

// rule is a row of the table of lines: the step that the lines execute, and what follows it with a result and without one. Where none is missing, the step never ends without a result.
type rule struct {
	step      stepper
	got, none follower
}

// book has the rule of each line.
type book map[int]rule

// add registers a rule for lines.
func (b book) add(r rule, lines ...int) {
	for _, line := range lines {
		b[line] = r
	}
}

// rules returns the rules of all lines. Lines 30 to 32 are executed by two layers, and only give tells by which one.
func rules(give bool) book {
	b := make(book, 40)
	addEpochs(b)
	addSlabs(b, give)
	addEntries(b)
	addPayloads(b)
	return b
}

// alone makes a step of a layer that does not ask which worker it is.
func alone(step func(m *memory.Memory, x api.Work) (api.Work, int, bool)) stepper {
	return func(m *memory.Memory, _ int, x api.Work) (api.Work, int, bool) {
		return step(m, x)
	}
}

// to follows by continuing at a line.
func to(line int) follower {
	return func(_ api.Config, x api.Work) api.Work { return at(x, line) }
}

// endWith follows by ending with a result.
func endWith(ret api.Errno) follower {
	return func(_ api.Config, x api.Work) api.Work { return end(x, ret) }
}

// failWith follows by failing with an error.
func failWith(ret api.Errno) follower {
	return func(_ api.Config, x api.Work) api.Work { return fail(x, ret) }
}

// thenRelease follows by releasing the hold list.
func thenRelease(_ api.Config, x api.Work) api.Work {
	return release(x)
}

func addEpochs(b book) {
	b.add(rule{step: epoch.Step, got: inside}, 1, 2, 3)
	b.add(rule{step: epoch.Step, got: outside}, 90)
	b.add(rule{step: epoch.Step, got: to(73), none: to(73)}, 70, 71, 72)
	b.add(rule{step: ripen, got: thenRelease}, 73)
}

func addSlabs(b book, gives bool) {
	b.add(rule{step: alone(slab.Step), got: endWith(api.OK), none: endWith(api.ErrState)}, 36, 37)
	if gives {
		after := func(_ api.Config, x api.Work) api.Work { return released(x) }
		b.add(rule{step: alone(give.Step), got: after}, 13, 14, 15, 30, 31, 32, 39)
		return
	}
	b.add(rule{step: alone(take.Step), got: firstWord(50), none: failWith(api.ErrFull)}, 10, 11, 12, 30, 31, 32, 33, 34, 35, 38)
}

func addEntries(b book) {
	step := alone(entry.Step)
	stale := failWith(api.ErrStale)
	b.add(rule{step: step, got: thenRelease, none: failWith(api.ErrFull)}, 20, 21, 22, 40, 41)
	b.add(rule{step: step, got: thenRelease}, 23, 24, 25)
	b.add(rule{step: step, got: roomThen(43), none: stale}, 42)
	b.add(rule{step: step, got: freed}, 43)
	b.add(rule{step: step, got: roomThen(45), none: stale}, 44)
	b.add(rule{step: step, got: written}, 45)
	b.add(rule{step: step, got: func(_ api.Config, x api.Work) api.Work { return take.Begin(x) }, none: stale}, 46)
	b.add(rule{step: step, got: firstWord(61), none: stale}, 60)
}

func addPayloads(b book) {
	b.add(rule{step: fill, got: filled}, 50)
	b.add(rule{step: readEntry, got: borrow}, 61)
	b.add(rule{step: readBorrowed, got: to(0)}, 62)
}

// inside follows the entering of a critical section.
func inside(_ api.Config, x api.Work) api.Work {
	if x.Op.Kind != api.OpPin {
		return body(x)
	}
	x.Pinned = true
	x.Borrow = 0
	return at(x, 0)
}

// outside follows the leaving of a critical section.
func outside(_ api.Config, x api.Work) api.Work {
	if x.Op.Kind == api.OpUnpin {
		x.Pinned = false
		x.Borrow = 0
	}
	return at(x, 0)
}

// firstWord follows by continuing at a line that goes through the words of a block.
func firstWord(line int) follower {
	return func(_ api.Config, x api.Work) api.Work {
		x.J = 0
		return at(x, line)
	}
}

// roomThen follows by continuing at a line if the old block can be retired afterwards.
func roomThen(line int) follower {
	return func(c api.Config, x api.Work) api.Work {
		x, room := bag.Room(c, x)
		if room {
			return at(x, line)
		}
		return fail(x, api.ErrBusy)
	}
}

// retire puts the block that an entry no longer has into a bucket. Room was made for it before.
func retire(c api.Config, x api.Work) api.Work {
	x, _ = bag.Put(c, x, x.C-1)
	x.C = 0
	return x
}

// freed follows the invalidation of a ticket. An entry that went out of use is not in hand and is not pushed.
func freed(c api.Config, x api.Work) api.Work {
	x = retire(c, x)
	if x.I != 0 {
		return at(x, 23)
	}
	return release(x)
}

// written follows the replacement of a block.
func written(c api.Config, x api.Work) api.Work {
	return release(retire(c, x))
}

// ripen moves the blocks that no worker can read any more to the hold list. Line 1 of layer 7 loads the epoch; nothing else of it is kept, because no epoch is announced here.
func ripen(m *memory.Memory, w int, x api.Work) (api.Work, int, bool) {
	loaded, _, _ := epoch.Step(m, w, at(x, 1))
	return bag.Ripe(x, loaded.E), api.Got, true
}

// fill writes a word of the block in hand.
func fill(m *memory.Memory, _ int, x api.Work) (api.Work, int, bool) {
	m.Store(m.Word(x.B-1, x.J), x.Op.X+api.Word(x.J))
	return nextWord(m, x)
}

// filled follows the last word of the block in hand.
func filled(_ api.Config, x api.Work) api.Work {
	if x.Op.Kind == api.OpWrite {
		return at(x, 44)
	}
	return at(x, 20)
}

// readEntry reads a word of the entry's block.
func readEntry(m *memory.Memory, _ int, x api.Work) (api.Work, int, bool) {
	x.Read = append(x.Read, m.Load(m.Word(x.C-1, x.J)))
	return nextWord(m, x)
}

// borrow follows the last word of the entry's block, which a pinned worker may peek at later.
func borrow(_ api.Config, x api.Work) api.Work {
	if x.Pinned {
		x.Borrow = x.C
	}
	x.C = 0
	return release(x)
}

// readBorrowed reads a word of the borrowed block.
func readBorrowed(m *memory.Memory, _ int, x api.Work) (api.Work, int, bool) {
	x.Read = append(x.Read, m.Load(m.Word(x.Borrow-1, x.J)))
	return nextWord(m, x)
}

// nextWord stays at the line until it has gone through all words.
func nextWord(m *memory.Memory, x api.Work) (api.Work, int, bool) {
	x.J++
	if x.J >= m.Words {
		return x, api.Got, true
	}
	return x, api.Going, true
}
