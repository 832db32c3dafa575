package order

import (
	"fmt"
	"math"
	"math/rand"
	"reflect"
	"slices"
	"testing"

	"coatcheck/api"
	"coatcheck/ideal"
)

// event returns an event from a text of three characters: its kind (call, step, point or return, and zero, x and minus for no kind), the worker, and the index of the operation. The ticket of its answer is its tick, so that answers tell which event they were taken from.
func event(text string, tick int) api.Event {
	kinds := map[byte]int{'c': api.ECall, 's': api.EStep, 'p': api.EPoint, 'r': api.EReturn, 'z': 0, 'x': 5, 'm': -api.EPoint}
	return api.Event{
		Tick: tick, Worker: int(text[1] - '0'), N: int(text[2] - '0'), Kind: kinds[text[0]],
		Answer: api.Answer{Op: api.Op{Kind: api.OpFree}, T: api.Word(tick)},
	}
}

func events(texts ...string) []api.Event {
	var l []api.Event
	for i, text := range texts {
		l = append(l, event(text, i))
	}
	return l
}

// tickets returns the tickets of answers, which tell what events they were taken from.
func tickets(l []api.Answer) []int {
	var all []int
	for _, a := range l {
		all = append(all, int(a.T))
	}
	return all
}

// P16.1: the order is that of the points, and the answer is that of the first return behind the point.
func TestOfOrder(t *testing.T) {
	for _, x := range []struct {
		name string
		l    []api.Event
		want []int // the positions of the events whose answers are expected
	}{
		{"nothing", nil, nil},
		{"an operation that is called only", events("c00", "s00"), nil},
		{"an operation", events("c00", "s00", "p00", "s00", "r00"), []int{4}},
		{"an operation that has not returned", events("c00", "s00", "p00", "s00"), []int{2}},
		{"a return without a point", events("c00", "r00"), nil},
		{"a point without a call", events("p00"), []int{0}},
		{"the order of points, not of calls or returns", events("c00", "c10", "c20", "p20", "p00", "p10", "r10", "r00", "r20"), []int{8, 7, 6}},
		{"only some have returned", events("p00", "p10", "p20", "r10"), []int{0, 3, 2}},
		{"the first point counts", events("p00", "p10", "p00", "r10", "r00"), []int{4, 3}},
		{"the first point counts without a return too", events("p00", "p10", "p00"), []int{0, 1}},
		{"the first return behind the point counts", events("p00", "r00", "r00"), []int{1}},
		{"a return before the point does not count", events("r00", "p00"), []int{1}},
		{"a return before and one behind the point", events("r00", "p00", "r00", "r00"), []int{2}},
		{"a return between two points", events("p00", "r00", "p00", "r00"), []int{1}},
		{"returns of others do not count", events("p00", "r10", "r01", "r11"), []int{0}},
		{"the same index of several workers", events("p03", "p13", "p23", "r13"), []int{0, 3, 2}},
		{"several operations of a worker", events("p05", "p06", "p04", "r06"), []int{0, 3, 2}},
		{"worker and index changed for one another", events("p12", "p21", "r21"), []int{0, 2}},
		{"events of no kind", events("z00", "x00", "m00", "p00", "z00", "x00", "m00"), []int{3}},
		{"only such events", events("z00", "x01", "m02"), nil},
	} {
		if got := tickets(Of(x.l)); !slices.Equal(got, x.want) {
			t.Errorf("%s: %v, not %v", x.name, got, x.want)
		}
	}
}

// P16.1: the order is that of the list, whatever the ticks are.
func TestOfIgnoresTicks(t *testing.T) {
	l := events("p00", "p10", "r10", "p20")
	for i := range l {
		l[i].Tick = -i
	}
	if got := tickets(Of(l)); !slices.Equal(got, []int{0, 2, 3}) {
		t.Error(got)
	}
}

// P16.1: workers and indices may be any numbers.
func TestOfArbitraryNumbers(t *testing.T) {
	var l []api.Event
	for i, n := range []int{-1, math.MinInt, math.MaxInt, 1 << 32, 0} {
		for j, m := range []int{-1, math.MinInt, math.MaxInt, 1 << 32, 0} {
			e := event("p00", 5*i+j)
			e.Worker, e.N = n, m
			l = append(l, e)
		}
	}
	if got := Of(l); len(got) != 25 {
		t.Errorf("%d answers", len(got))
	}
	if !Keeps(l) || Whole(l) || Fits(1, l) != 0 {
		t.Error("keeps, whole or fits")
	}
}

// P16.1: what a read that has not returned will read is not known, so it has no answer, unless it failed.
func TestOfReads(t *testing.T) {
	for kind := -1; kind <= 11; kind++ {
		for ret := api.Errno(-1); ret <= api.ErrState+1; ret++ {
			l := events("c00", "p00", "p10")
			l[1].Answer = api.Answer{Op: api.Op{Kind: kind, X: 5}, T: 9, Ret: ret}
			want := []int{9, 2}
			if ret == api.OK && (kind == api.OpDeref || kind == api.OpPeek) {
				want = []int{2}
			}
			if got := tickets(Of(l)); !slices.Equal(got, want) {
				t.Errorf("kind %d, %d: %v, not %v", kind, ret, got, want)
			}
			back := event("r00", 3)
			back.Answer = api.Answer{Op: api.Op{Kind: kind, X: 5}, T: 8, Ret: ret, Read: []api.Word{5}}
			if got := Of(append(l, back)); len(got) != 2 || !reflect.DeepEqual(got[0], back.Answer) {
				t.Errorf("kind %d, %d, returned: %+v", kind, ret, got)
			}
		}
	}
}

// P16.1: only the point says whether an operation that has not returned is a read, not its call or its steps.
func TestOfReadAtThePoint(t *testing.T) {
	l := events("c00", "s00", "p00", "p00")
	for _, i := range []int{0, 1, 3} {
		l[i].Answer.Op.Kind = api.OpDeref
	}
	if got := tickets(Of(l)); !slices.Equal(got, []int{2}) {
		t.Error(got)
	}
	l[2].Answer.Op.Kind, l[3].Answer.Op.Kind = api.OpPeek, api.OpFree
	if got := Of(l); len(got) != 0 {
		t.Error(got)
	}
}

// P16.1: a point that is followed by what was read gives it back whole, and a return may have another answer than the point.
func TestOfAnswers(t *testing.T) {
	point := api.Answer{Op: api.Op{Kind: api.OpWrite, X: 3, Use: true, By: 2, Nth: 4}, T: 7, Ret: api.ErrFull, Read: []api.Word{1, 2}}
	back := api.Answer{Op: api.Op{Kind: api.OpDeref, T: 8, Slab: 3}, T: 8, Ret: api.ErrBusy, Read: []api.Word{3, 4, 5}}
	l := []api.Event{{Kind: api.EPoint, Answer: point}, {Kind: api.EPoint, N: 1, Answer: point}, {Kind: api.EReturn, N: 1, Answer: back}}
	if got := Of(l); !reflect.DeepEqual(got, []api.Answer{point, back}) {
		t.Errorf("%+v", got)
	}
}

// Rules: no result shares memory with an argument, with a later result or with itself, and the argument stays as it is.
func TestOfSharesNothing(t *testing.T) {
	read := []api.Word{7, 8}
	l := events("p00", "r00", "p10", "p20", "r20")
	for i := range l {
		l[i].Answer.Read = read
	}
	first := Of(l)
	second := Of(l)
	for i := range first {
		first[i].Read[0] = api.Word(100 + i)
		first[i].T = 50
	}
	for i := range second {
		if !slices.Equal(second[i].Read, []api.Word{7, 8}) || first[i].Read[0] != api.Word(100+i) {
			t.Errorf("%v, %v", first[i].Read, second[i].Read)
		}
	}
	if !slices.Equal(read, []api.Word{7, 8}) || l[1].Answer.T != 1 {
		t.Error("the argument has changed")
	}
}

// done returns the point and the return of an operation with an answer.
func done(n int, a api.Answer) []api.Event {
	return []api.Event{{N: n, Kind: api.EPoint, Answer: a}, {N: n, Kind: api.EReturn, Answer: a}}
}

// in returns a history in which operations with these answers take effect one after another.
func in(l ...api.Answer) []api.Event {
	var all []api.Event
	for n, a := range l {
		all = append(all, done(n, a)...)
	}
	return all
}

func answer(kind int, t, x api.Word, ret api.Errno, read ...api.Word) api.Answer {
	return api.Answer{Op: api.Op{Kind: kind, X: x}, T: t, Ret: ret, Read: read}
}

// P16.2: how many answers a new pool allows, from the first on.
func TestFits(t *testing.T) {
	alloc := answer(api.OpAlloc, 65537, 7, api.OK)
	other := answer(api.OpAlloc, 65538, 7, api.OK)
	free := answer(api.OpFree, 65537, 0, api.OK)
	stale := answer(api.OpDeref, 65537, 0, api.ErrStale)
	read := answer(api.OpDeref, 65537, 0, api.OK, 7, 8)
	write := answer(api.OpWrite, 65537, 9, api.OK)
	full := answer(api.OpAlloc, 0, 7, api.ErrFull)
	for _, x := range []struct {
		name  string
		words int
		l     []api.Event
		want  int
	}{
		{"nothing", 2, nil, 0},
		{"no points", 2, events("c00", "s00", "r00"), 0},
		{"an alloc and a free", 2, in(alloc, free), 2},
		{"a free before the alloc", 2, in(free, alloc), 0},
		{"a ticket twice", 2, in(alloc, alloc), 1},
		{"a ticket again after its free", 2, in(alloc, free, alloc), 2},
		{"another ticket", 2, in(alloc, free, other), 3},
		{"all that is allowed", 2, in(stale, alloc, read, full, free, stale), 6},
		{"stale while it is live", 2, in(stale, alloc, stale, free), 2},
		{"it stops at the first one that is wrong", 2, in(alloc, free, free, other, full), 2},
		{"what does not fit changes nothing that is behind it", 2, in(read, alloc, read), 0},
		{"a write changes what is read", 2, in(alloc, write, read), 2},
		{"and so it is read", 2, in(alloc, write, answer(api.OpDeref, 65537, 0, api.OK, 9, 10)), 3},
		{"one word too many", 1, in(alloc, read), 1},
		{"one word", 1, in(alloc, answer(api.OpDeref, 65537, 0, api.OK, 7)), 2},
		{"one word too few", 3, in(alloc, read), 1},
		{"fewer words than there are", -1, in(alloc, answer(api.OpDeref, 65537, 0, api.OK)), 2},
		{"more words than there are", math.MaxInt, in(alloc, answer(api.OpDeref, 65537, 0, api.OK, 7, 8, 9, 10)), 2},
		{"no operation of that kind", 1, in(answer(0, 0, 0, api.OK)), 0},
	} {
		if got := Fits(x.words, x.l); got != x.want {
			t.Errorf("%s: %d, not %d", x.name, got, x.want)
		}
	}
}

// P16.2: operations without an answer are not counted and change nothing.
func TestFitsWithoutAnswers(t *testing.T) {
	l := []api.Event{
		{Kind: api.EPoint, Answer: answer(api.OpAlloc, 65537, 7, api.OK)},
		{Worker: 1, Kind: api.EPoint, Answer: answer(api.OpDeref, 65537, 0, api.OK)},
		{Worker: 2, Kind: api.EPoint, Answer: answer(api.OpPeek, 0, 0, api.OK)},
		{Worker: 3, Kind: api.EPoint, Answer: answer(api.OpFree, 65537, 0, api.OK)},
	}
	if got := Fits(1, l); got != 2 {
		t.Errorf("%d", got)
	}
	wrong := api.Event{Worker: 1, Kind: api.EReturn, Answer: answer(api.OpDeref, 65537, 0, api.OK, 8)}
	if got := Fits(1, append(l, wrong)); got != 1 {
		t.Errorf("with a wrong read %d", got)
	}
}

// The chapter's example: worker 0's Alloc and worker 1's Free of its ticket reach their points, then both return.
func TestExample(t *testing.T) {
	alloc, free := answer(api.OpAlloc, 65537, 7, api.OK), answer(api.OpFree, 65537, 0, api.OK)
	l := []api.Event{
		{Kind: api.ECall, Answer: alloc}, {Kind: api.EPoint, Answer: alloc},
		{Worker: 1, Kind: api.ECall, Answer: free}, {Worker: 1, Kind: api.EPoint, Answer: free},
		{Worker: 1, Kind: api.EReturn, Answer: free}, {Kind: api.EReturn, Answer: alloc},
	}
	if got := Of(l); !reflect.DeepEqual(got, []api.Answer{alloc, free}) {
		t.Errorf("%+v", got)
	}
	if got := Fits(1, l); got != 2 || !Whole(l) || !Keeps(l) {
		t.Error(got)
	}
}

// P16.3: each operation has one call, at most one point behind it, at most one return behind that, and no return without a point.
func TestWhole(t *testing.T) {
	for _, x := range []struct {
		name string
		l    []api.Event
		want bool
	}{
		{"nothing", nil, true},
		{"a call", events("c00"), true},
		{"a call and a point", events("c00", "p00"), true},
		{"a call, a point and a return", events("c00", "p00", "r00"), true},
		{"steps anywhere", events("s00", "c00", "s00", "p00", "s00", "r00", "s00"), true},
		{"steps of an operation without a call", events("s00", "c01"), true},
		{"events of no kind", events("z00", "x01", "m02"), true},
		{"operations among one another", events("c00", "c10", "p10", "p00", "r10", "c11", "r00", "c01"), true},
		{"operations of one worker among one another", events("c01", "c00", "p00", "p01", "r01", "r00"), true},
		{"a point without a call", events("p00"), false},
		{"a return without a call", events("r00"), false},
		{"a return without a point", events("c00", "r00"), false},
		{"a return before the point", events("c00", "r00", "p00"), false},
		{"a point before the call", events("p00", "c00"), false},
		{"a return before the call", events("r00", "c00", "p00"), false},
		{"two calls", events("c00", "c00"), false},
		{"two calls with a point between", events("c00", "p00", "c00"), false},
		{"a call behind the return", events("c00", "p00", "r00", "c00"), false},
		{"two points", events("c00", "p00", "p00"), false},
		{"a point behind the return", events("c00", "p00", "r00", "p00"), false},
		{"two returns", events("c00", "p00", "r00", "r00"), false},
		{"the point of another worker", events("c00", "p10", "r00"), false},
		{"the point of another operation", events("c00", "c01", "p01", "r00"), false},
		{"only the last operation is wrong", events("c00", "p00", "r00", "c10", "p10", "r10", "r01"), false},
		{"only the first operation is wrong", events("p00", "c10", "p10", "r10"), false},
	} {
		if got := Whole(x.l); got != x.want {
			t.Errorf("%s: %v", x.name, got)
		}
	}
}

// P16.3: points are in the order of the operations of which one has returned before the other one is called.
func TestKeeps(t *testing.T) {
	for _, x := range []struct {
		name string
		l    []api.Event
		want bool
	}{
		{"nothing", nil, true},
		{"one operation behind the other", events("c00", "p00", "r00", "c10", "p10", "r10"), true},
		{"the points the wrong way round", events("c00", "r00", "c10", "p10", "p00"), false},
		{"the first point before its call", events("p10", "c00", "p00", "r00", "c10"), false},
		{"operations at the same time", events("c00", "c10", "p10", "p00", "r00", "r10"), true},
		{"a call right before the return", events("c00", "c10", "r00", "p10", "p00"), true},
		{"the point of the first one is missing", events("c00", "r00", "c10", "p10"), true},
		{"the point of the second one is missing", events("c00", "r00", "c10", "p00"), true},
		{"without a return", events("c00", "c10", "p10", "p00"), true},
		{"without a call of the second one", events("c00", "r00", "p10", "p00"), true},
		{"without a call of the first one", events("r00", "c10", "p10", "p00"), false},
		{"the first return counts", events("r00", "c10", "r00", "p10", "p00"), false},
		{"a later return does not", events("c10", "r00", "c10", "p10", "p00"), true},
		{"the first call counts", events("c10", "r00", "c10", "p10", "p00", "r10"), true},
		{"the first points count", events("r00", "c10", "p00", "p10", "p00"), true},
		{"the first points count against it", events("r00", "c10", "p10", "p00", "p10"), false},
		{"a second return changes nothing", events("r00", "r00", "c10", "p00", "p10"), true},
		{"an operation does not precede itself", events("p00", "r00", "c00"), true},
		{"an operation that returns before its call", events("r00", "c00", "p00"), true},
		{"operations of one worker", events("c00", "r00", "c01", "p01", "p00"), false},
		{"only the first of three is out of order", events("r00", "r10", "c20", "p10", "p20", "p00"), false},
		{"only the second of three is out of order", events("r00", "r10", "c20", "p00", "p20", "p10"), false},
		{"an operation without a point between", events("r00", "c10", "r10", "c20", "p20", "p00"), false},
		{"steps do not matter", events("s00", "r00", "s10", "c10", "s10", "p00", "s00", "p10"), true},
		{"steps and events of no kind are no calls or returns", events("s00", "z00", "x10", "m10", "p10", "p00"), true},
	} {
		if got := Keeps(x.l); got != x.want {
			t.Errorf("%s: %v", x.name, got)
		}
	}
}

// places is where the events of one operation are in a list.
type places struct{ calls, points, returns []int }

// sorted collects the places of the operations of a list.
func sorted(l []api.Event) map[string]*places {
	all := map[string]*places{}
	for i, e := range l {
		name := fmt.Sprint(e.Worker, " ", e.N)
		if all[name] == nil {
			all[name] = &places{}
		}
		switch p := all[name]; e.Kind {
		case api.ECall:
			p.calls = append(p.calls, i)
		case api.EPoint:
			p.points = append(p.points, i)
		case api.EReturn:
			p.returns = append(p.returns, i)
		}
	}
	return all
}

// judge returns what the definitions of the chapter say about a list, word for word.
func judge(l []api.Event) (answers []api.Answer, whole, keeps bool) {
	all := sorted(l)
	whole, keeps = true, true
	for i := range l {
		for _, p := range all {
			if len(p.points) == 0 || p.points[0] != i {
				continue
			}
			a := l[i].Answer
			from := slices.IndexFunc(p.returns, func(r int) bool { return r > i })
			if from >= 0 {
				answers = append(answers, l[p.returns[from]].Answer)
			} else if a.Ret != api.OK || a.Op.Kind != api.OpDeref && a.Op.Kind != api.OpPeek {
				answers = append(answers, a)
			}
		}
	}
	for _, p := range all {
		ordered := slices.IsSorted(slices.Concat(p.calls, p.points, p.returns))
		some := len(p.calls)+len(p.points)+len(p.returns) > 0
		if some && (len(p.calls) != 1 || len(p.points) > 1 || len(p.returns) > len(p.points) || !ordered) {
			whole = false
		}
		for _, q := range all {
			precedes := p != q && len(p.returns) > 0 && len(q.calls) > 0 && p.returns[0] < q.calls[0]
			if precedes && len(p.points) > 0 && len(q.points) > 0 && p.points[0] > q.points[0] {
				keeps = false
			}
		}
	}
	return answers, whole, keeps
}

// check compares all functions with the definitions.
func check(t *testing.T, words int, l []api.Event) (whole, keeps bool) {
	t.Helper()
	answers, whole, keeps := judge(l)
	got := Of(l)
	same := func(a, b api.Answer) bool {
		return a.Op == b.Op && a.T == b.T && a.Ret == b.Ret && slices.Equal(a.Read, b.Read)
	}
	if !slices.EqualFunc(got, answers, same) {
		t.Fatalf("%+v: answers %+v, not %+v", l, got, answers)
	}
	fits, p := 0, ideal.New(words)
	for fits < len(answers) && p.Step(answers[fits]) {
		fits++
	}
	if got := Fits(words, l); got != fits {
		t.Fatalf("%+v: %d fit, not %d", l, got, fits)
	}
	if got := Whole(l); got != whole {
		t.Fatalf("%+v: whole %v", l, got)
	}
	if got := Keeps(l); got != keeps {
		t.Fatalf("%+v: keeps %v", l, got)
	}
	if whole && !keeps {
		t.Fatalf("%+v: whole, but does not keep the order", l)
	}
	return whole, keeps
}

// P16.1 to P16.3: every list of up to six events of two operations.
func TestEveryShortList(t *testing.T) {
	letters := []string{"c00", "p00", "r00", "c10", "p10", "r10"}
	wholes, wrong := 0, 0
	var extend func(texts []string)
	extend = func(texts []string) {
		whole, keeps := check(t, 1, events(texts...))
		if whole {
			wholes++
		}
		if !keeps {
			wrong++
		}
		if len(texts) == 6 {
			return
		}
		for _, text := range letters {
			extend(append(slices.Clone(texts), text))
		}
	}
	extend(nil)
	if wholes < 50 || wrong < 1000 {
		t.Errorf("only %d whole lists, %d that do not keep the order", wholes, wrong)
	}
}

// randomAnswer returns an answer that may well be allowed.
func randomAnswer(r *rand.Rand) api.Answer {
	kinds := []int{api.OpAlloc, api.OpAlloc, api.OpFree, api.OpWrite, api.OpDeref, api.OpDeref, api.OpPeek, api.OpPin}
	rets := []api.Errno{api.OK, api.OK, api.OK, api.ErrFull, api.ErrStale}
	a := answer(kinds[r.Intn(len(kinds))], api.Word(r.Intn(4)), api.Word(r.Intn(2)), rets[r.Intn(len(rets))])
	for range r.Intn(3) {
		a.Read = append(a.Read, api.Word(r.Intn(2)))
	}
	return a
}

// P16.1 to P16.3: random lists, most of them nearly in order.
func TestRandomLists(t *testing.T) {
	r := rand.New(rand.NewSource(1))
	wholes, wrong, reads := 0, 0, 0
	for range 20000 {
		var l []api.Event
		for n := range 1 + r.Intn(6) {
			e := api.Event{Worker: r.Intn(3), N: n / 2, Answer: randomAnswer(r)}
			at := 0
			for _, kind := range []int{api.ECall, api.EStep, api.EPoint, api.EReturn}[:1+r.Intn(4)] {
				e.Kind = kind
				at += r.Intn(len(l) - at + 1)
				l = slices.Insert(l, at, e)
				at++
			}
		}
		for range r.Intn(3) {
			switch i, j := r.Intn(len(l)), r.Intn(len(l)); r.Intn(4) {
			case 0:
				l[i].Kind = r.Intn(6)
			case 1:
				l[i].Answer = randomAnswer(r)
			case 2:
				l = append(l, l[i])
			case 3:
				l[i], l[j] = l[j], l[i]
			}
		}
		whole, keeps := check(t, r.Intn(3), l)
		if whole {
			wholes++
		}
		if !keeps {
			wrong++
		}
		reads += len(sorted(l)) - len(Of(l))
	}
	if wholes < 1000 || wrong < 100 || reads < 1000 {
		t.Errorf("only %d whole lists, %d that do not keep the order, %d operations without an answer", wholes, wrong, reads)
	}
}

// A list with many operations and many events of one operation is worked through once.
func TestLongLists(t *testing.T) {
	const n = 200000
	var l []api.Event
	for i := range n {
		l = append(l, api.Event{N: i, Kind: api.ECall}, api.Event{N: i, Kind: api.EPoint, Answer: answer(api.OpPin, 0, 0, api.OK)})
	}
	for i := range n {
		l = append(l, api.Event{N: i, Kind: api.EReturn, Answer: answer(api.OpPin, 0, 0, api.OK)})
	}
	if len(Of(l)) != n || Fits(1, l) != n || !Whole(l) || !Keeps(l) {
		t.Error("many operations")
	}
	for i := range l {
		l[i].N = 0
	}
	if len(Of(l)) != 1 || Fits(1, l) != 1 || Whole(l) || !Keeps(l) {
		t.Error("one operation")
	}
}
