package play

import (
	"math"
	"math/rand"
	"slices"
	"strings"
	"testing"

	"coatcheck/api"
	"coatcheck/hall"
	"coatcheck/ideal"
	"coatcheck/order"
	"coatcheck/pace"
	"coatcheck/pack"
	"coatcheck/plan"
	"coatcheck/script"
)

const greatest = math.MaxUint64

// P22.1: the line of each kind of answer.
func TestLine(t *testing.T) {
	read := []api.Word{7, 0, greatest}
	for _, x := range []struct {
		a    api.Answer
		want string
	}{
		{api.Answer{Op: api.Op{Kind: api.OpAlloc, X: 7}, T: 65537}, "alloc 7: 0 65537"}, // the chapter's examples
		{api.Answer{Op: api.Op{Kind: api.OpDeref, Use: true}, T: 65537, Read: []api.Word{7}}, "deref @0.0: 0 7"},
		{api.Answer{Op: api.Op{Kind: api.OpAlloc, X: greatest}, T: greatest, Read: read}, "alloc 18446744073709551615: 0 18446744073709551615"},
		{api.Answer{Op: api.Op{Kind: api.OpAlloc}}, "alloc 0: 0 0"},
		{api.Answer{Op: api.Op{Kind: api.OpAlloc}, T: 5, Ret: api.ErrFull}, "alloc 0: 5"},
		{api.Answer{Op: api.Op{Kind: api.OpDeref, T: 65537}, T: 9, Read: read}, "deref 65537: 0 7 0 18446744073709551615"},
		{api.Answer{Op: api.Op{Kind: api.OpDeref, T: 65537}}, "deref 65537: 0"},
		{api.Answer{Op: api.Op{Kind: api.OpDeref}, T: 9, Read: read, Ret: api.ErrBad}, "deref 0: 8"},
		{api.Answer{Op: api.Op{Kind: api.OpPeek}, T: 9, Read: read[:2]}, "peek: 0 7 0"},
		{api.Answer{Op: api.Op{Kind: api.OpPeek}, Read: read, Ret: api.ErrState}, "peek: 9"},
		{api.Answer{Op: api.Op{Kind: api.OpFree, Use: true, By: 7, Nth: 12}, T: 5, Read: read}, "free @7.12: 0"},
		{api.Answer{Op: api.Op{Kind: api.OpFree, T: 3}, T: 3, Ret: api.ErrStale}, "free 3: 7"},
		{api.Answer{Op: api.Op{Kind: api.OpWrite, T: 3, X: 4}, T: 3, Read: read}, "write 3 4: 0"},
		{api.Answer{Op: api.Op{Kind: api.OpWrite, Use: true}, T: 3, Ret: api.ErrBusy}, "write @0.0 0: 6"},
		{api.Answer{Op: api.Op{Kind: api.OpPin}, T: 3, Read: read}, "pin: 0"},
		{api.Answer{Op: api.Op{Kind: api.OpUnpin}, Ret: api.ErrState}, "unpin: 9"},
		{api.Answer{Op: api.Op{Kind: api.OpCollect}, T: 3, Read: read}, "collect: 0"},
		{api.Answer{Op: api.Op{Kind: api.OpDrain, Slab: 7}, T: 3, Read: read}, "drain 7: 0"},
		{api.Answer{Op: api.Op{Kind: api.OpDrain}, Ret: -1}, "drain 0: -1"},
		{api.Answer{Op: api.Op{Kind: api.OpAlloc}, T: 5, Ret: math.MinInt}, "alloc 0: -9223372036854775808"},
		{api.Answer{Op: api.Op{Kind: api.OpPeek}, Read: read, Ret: math.MaxInt}, "peek: 9223372036854775807"},
	} {
		if got := Line(x.a); got != x.want {
			t.Errorf("%+v: %q, not %q", x.a, got, x.want)
		}
	}
}

// P22.1: a period replaces the text of an operation that is not valid, and nothing else of the line.
func TestLineOfNoOperation(t *testing.T) {
	read := []api.Word{7, 8}
	for _, x := range []struct {
		a    api.Answer
		want string
	}{
		{api.Answer{}, ".: 0"},
		{api.Answer{Op: api.Op{Kind: 77}, T: 5, Read: read, Ret: 3}, ".: 3"},
		{api.Answer{Op: api.Op{Kind: -1}, T: 5, Read: read}, ".: 0"},
		{api.Answer{Op: api.Op{Kind: api.OpDrain, Slab: -1}, T: 5, Read: read}, ".: 0"},
		{api.Answer{Op: api.Op{Kind: api.OpPin, X: 1}, T: 5, Read: read, Ret: api.ErrState}, ".: 9"},
		{api.Answer{Op: api.Op{Kind: api.OpAlloc, Use: true}, T: 5, Read: read}, ".: 0 5"},
		{api.Answer{Op: api.Op{Kind: api.OpDeref, Use: true, T: 1}, T: 5, Read: read}, ".: 0 7 8"},
		{api.Answer{Op: api.Op{Kind: api.OpPeek, By: 1}, T: 5, Read: read}, ".: 0 7 8"},
		{api.Answer{Op: api.Op{Kind: api.OpPeek, By: 1}, T: 5, Read: read, Ret: 1}, ".: 1"},
	} {
		if got := Line(x.a); got != x.want {
			t.Errorf("%+v: %q, not %q", x.a, got, x.want)
		}
	}
}

var (
	pin     = api.Op{Kind: api.OpPin}
	unpin   = api.Op{Kind: api.OpUnpin}
	peek    = api.Op{Kind: api.OpPeek}
	collect = api.Op{Kind: api.OpCollect}
	drain   = api.Op{Kind: api.OpDrain}
	alloc   = api.Op{Kind: api.OpAlloc, X: 7}
	free    = api.Op{Kind: api.OpFree, Use: true}
	write   = api.Op{Kind: api.OpWrite, Use: true, X: 9}
	deref   = api.Op{Kind: api.OpDeref, Use: true}
)

var small = api.Config{Workers: 2, Slabs: 1, Blocks: 3, Words: 2, Entries: 2, Rack: 1, Bag: 1, Last: 9}

// P22.1: a script that is not valid, for one reason each.
func TestPlayInvalid(t *testing.T) {
	good := script.Script{Config: small, Programs: [][]api.Op{{alloc}, {deref}}, Picks: []int{0, 1, 0}}
	if _, e := Play(good, 1000); e != api.OK {
		t.Fatal(e)
	}
	for name, change := range map[string]func(s *script.Script){
		"nothing":                  func(s *script.Script) { *s = script.Script{} },
		"too small":                func(s *script.Script) { s.Config.Bag = 0 },
		"too great":                func(s *script.Script) { s.Config.Words = 5 },
		"a program too many":       func(s *script.Script) { s.Programs = [][]api.Op{{alloc}, {alloc}, {alloc}} },
		"the last one empty":       func(s *script.Script) { s.Programs = [][]api.Op{{alloc}, {}} },
		"a program too long":       func(s *script.Script) { s.Programs = [][]api.Op{slices.Repeat([]api.Op{pin}, api.MaxOps+1)} },
		"an operation not valid":   func(s *script.Script) { s.Programs = [][]api.Op{{alloc}, {pin, {Kind: api.OpPin, X: 1}}} },
		"too many picks":           func(s *script.Script) { s.Picks = make([]int, script.MaxPicks+1) },
		"a pick of no worker":      func(s *script.Script) { s.Picks = []int{0, 2} },
		"a pick of a negative one": func(s *script.Script) { s.Picks = []int{-1, 0} },
	} {
		for _, most := range []int{-1, 0, 1000} {
			s := good
			change(&s)
			r, e := Play(s, most)
			if e != api.ErrForm || r.Answers != nil || r.Fits != 0 || r.Sound || r.Guarded || r.Kept || r.Done || r.Live != 0 {
				t.Errorf("%s: %+v, %d", name, r, e)
			}
		}
	}
}

// lines plays a script that has no errors and returns its lines.
func lines(t *testing.T, text string, most int) []string {
	t.Helper()
	l, line, e := Text(text, most)
	if line != 0 || e != api.OK {
		t.Fatalf("%q: line %d, %d", text, line, e)
	}
	return l
}

// P22.1, P22.2: the chapter's example.
func TestExample(t *testing.T) {
	const text = "hall 1 1 2 1 1 0 1 9\ndo 0 alloc 7\ndo 0 deref @0.0\n"
	if got, want := lines(t, text, 1000), []string{"alloc 7: 0 65537", "deref @0.0: 0 7"}; !slices.Equal(got, want) {
		t.Errorf("%q, not %q", got, want)
	}
	s, _, _ := script.Parse(text)
	if r, e := Play(s, 1000); e != api.OK || r.Live != 1 || r.Fits != 2 || !r.Done || !Good(r) {
		t.Errorf("%+v, %d", r, e)
	}
}

// P22.2: the examples of the document.
func TestExamplesOfTheDocument(t *testing.T) {
	for _, x := range []struct {
		name, text string
		want       []string
	}{
		{"1 to 3: a ticket is stale after its free, and the entry gets another generation",
			"hall 1 1 2 1 1 0 1 9\ndo 0 alloc 7\ndo 0 deref @0.0\ndo 0 free @0.0\ndo 0 deref @0.0\ndo 0 alloc 8\ndo 0 deref @0.1\n",
			[]string{"alloc 7: 0 65537", "deref @0.0: 0 7", "free @0.0: 0", "deref @0.0: 7", "alloc 8: 0 131073", "deref @0.1: 0 8"}},
		{"4: a full bucket",
			"hall 1 1 2 1 1 0 1 9\ndo 0 alloc 7\ndo 0 write @0.0 9\ndo 0 free @0.0\ndo 0 deref @0.0\n",
			[]string{"alloc 7: 0 65537", "write @0.0 9: 0", "free @0.0: 6", "deref @0.0: 0 9"}},
		{"5, 6: what is not possible",
			"hall 1 1 2 1 1 0 1 9\ndo 0 pin\ndo 0 pin\ndo 0 deref 0\ndo 0 peek\ndo 0 drain 1\n",
			[]string{"pin: 0", "pin: 9", "deref 0: 8", "peek: 9", "drain 1: 8"}},
		{"7: a pinned worker reads what was replaced and freed",
			"hall 2 1 3 2 1 0 2 9\ndo 0 alloc 7\ndo 0 write @0.0 20\ndo 0 free @0.0\ndo 1 pin\ndo 1 deref @0.0\ndo 1 peek\ndo 1 unpin\ndo 1 peek\n" +
				// The Alloc takes 23 picks, the Pin and the Deref 4 each.
				"pick" + strings.Repeat(" 0", 20) + "\npick 0 0 0" + strings.Repeat(" 1", 8) + "\n",
			[]string{"alloc 7: 0 65537", "pin: 0", "deref @0.0: 0 7 8", "write @0.0 20: 0", "free @0.0: 0", "peek: 0 7 8", "unpin: 0", "peek: 9"}},
		{"8, 9: a slab is drained, emptied, out and claimed again",
			"hall 1 1 2 1 1 1 1 9\ndo 0 alloc 7\ndo 0 drain 0\ndo 0 drain 0\ndo 0 alloc 8\ndo 0 free @0.0\n" + strings.Repeat("do 0 collect\n", 4) + "do 0 alloc 9\ndo 0 collect\ndo 0 alloc 9\n",
			slices.Concat([]string{"alloc 7: 0 65537", "drain 0: 0", "drain 0: 9", "alloc 8: 5", "free @0.0: 0"}, slices.Repeat([]string{"collect: 0"}, 4), []string{"alloc 9: 5", "collect: 0", "alloc 9: 0 131073"})},
		{"10: no entry is free",
			"hall 1 1 2 1 1 0 1 9\ndo 0 alloc 7\ndo 0 alloc 8\n",
			[]string{"alloc 7: 0 65537", "alloc 8: 5"}},
	} {
		if got := lines(t, x.text, 1000); !slices.Equal(got, x.want) {
			t.Errorf("%s: %q, not %q", x.name, got, x.want)
		}
	}
}

// P22.2: the results of Parse for a text that it does not read, and the lines of the answers for one that it does.
func TestText(t *testing.T) {
	for _, text := range []string{"", "hall 1\n", "hall 1 1 2 1 1 0 1 9", "hall 1 1 2 1 1 0 1 9\n\n", "hall 1 1 2 1 1 0 1 9\ndo 0 alloc\n", "hall 1 1 2 1 1 0 1 9\ndo 0 alloc 7\npick 1\n", "hall 1 1 2 1 1 0 1 9\npick 0", "do 0 alloc 7\n", "\xff\n"} {
		_, want, wantErr := script.Parse(text)
		for _, most := range []int{-1, 0, 1000} {
			if l, line, e := Text(text, most); len(l) != 0 || line != want || e != wantErr || line < 1 || e != api.ErrForm {
				t.Errorf("%q: %q, line %d, %d, not %d, %d", text, l, line, e, want, wantErr)
			}
		}
	}
	r := rand.New(rand.NewSource(1))
	for range 40 {
		s := randomScript(r)
		text, e := script.Text(s)
		if e != api.OK {
			t.Fatal(e)
		}
		most := []int{-1, 0, 1, 30, 100000}[r.Intn(5)]
		report, _ := Play(s, most)
		var want []string
		for _, a := range report.Answers {
			want = append(want, Line(a))
		}
		if got := lines(t, text, most); !slices.Equal(got, want) {
			t.Fatalf("%q, most %d: %q, not %q", text, most, got, want)
		}
	}
	if l := lines(t, "hall 1 1 2 1 1 0 1 9\n", 1000); len(l) != 0 {
		t.Errorf("a script without operations: %q", l)
	}
}

// randomScript returns a script of several workers that mostly use one another's tickets, with picks in bursts.
func randomScript(r *rand.Rand) script.Script {
	c := api.Config{
		Workers: 1 + r.Intn(4), Slabs: 1 + r.Intn(3), Blocks: 1 + r.Intn(4), Words: 1 + r.Intn(3), Entries: 1 + r.Intn(4),
		Rack: r.Intn(3), Bag: 1 + r.Intn(2), Last: []api.Word{1, 3, 1000}[r.Intn(3)],
	}
	ops := []api.Op{alloc, alloc, alloc, free, free, write, write, deref, deref, deref, pin, unpin, unpin, peek, collect, collect, collect, drain}
	s := script.Script{Config: c}
	for w := range r.Intn(c.Workers + 1) {
		var l []api.Op
		for i := range 1 + r.Intn(30) {
			o := ops[r.Intn(len(ops))]
			switch {
			case o.Use && r.Intn(4) == 0:
				o.Use, o.T = false, pack.Ticket(r.Intn(c.Entries+1), api.Word(r.Intn(4)))
			case o.Use:
				o.By, o.Nth = r.Intn(c.Workers), max(0, i/6-r.Intn(3))
			case o.Kind == api.OpDrain:
				o.Slab = r.Intn(c.Slabs + 1)
			}
			if o.X > 0 {
				o.X = api.Word(w*1000 + i*10)
			}
			l = append(l, o)
		}
		s.Programs = append(s.Programs, l)
	}
	n := r.Intn(600)
	for len(s.Picks) < n {
		s.Picks = append(s.Picks, slices.Repeat([]int{r.Intn(c.Workers)}, 1+r.Intn(1+r.Intn(25)))...)
	}
	return s
}

// P22.1, P22.3: the reports of random scripts, compared with what the chapter says of them.
func TestReports(t *testing.T) {
	r := rand.New(rand.NewSource(2))
	done, undone, pending, live := 0, 0, 0, 0
	for range 400 {
		s := randomScript(r)
		most := []int{math.MinInt, -1, 0, 1, 2, 10, 100, 300, math.MaxInt}[r.Intn(9)]
		got, e := Play(s, most)
		if e != api.OK || !Good(got) {
			t.Fatalf("%+v, most %d: %+v, %d", s, most, got, e)
		}
		h, _ := hall.New(s.Config, s.Programs)
		h.Run(s.Picks...)
		if most > 0 {
			pace.Finish(h, most)
		}
		checkReport(t, s, h, got)
		if got.Done {
			done++
		} else {
			undone++
		}
		if len(got.Answers) > 0 && !got.Done {
			pending++
		}
		live += got.Live
	}
	if done < 50 || undone < 50 || pending < 50 || live < 50 {
		t.Errorf("only %d done, %d not, %d of them with answers, %d live tickets", done, undone, pending, live)
	}
}

// checkReport compares a report with the hall at the end of its script.
func checkReport(t *testing.T, s script.Script, h *hall.Hall, got Report) {
	t.Helper()
	events := h.Events()
	if want := order.Of(events); !slices.EqualFunc(got.Answers, want, sameAnswer) {
		t.Fatalf("%+v: answers %+v, not %+v", s, got.Answers, want)
	}
	if want := order.Fits(s.Config.Words, events); got.Fits != want {
		t.Fatalf("%+v: %d answers fit, not %d", s, got.Fits, want)
	}
	returns, operations := 0, 0
	p := ideal.New(s.Config.Words)
	for _, e := range events {
		if e.Kind == api.EReturn {
			returns++
		}
	}
	for _, l := range s.Programs {
		operations += len(l)
	}
	if got.Done != (returns == operations) {
		t.Fatalf("%+v: %d of %d operations returned, done %v", s, returns, operations, got.Done)
	}
	for _, a := range got.Answers[:got.Fits] {
		p.Step(a)
	}
	if got.Live != p.Len() {
		t.Fatalf("%+v: %d live tickets, not %d", s, got.Live, p.Len())
	}
}

func sameAnswer(a, b api.Answer) bool {
	return a.Op == b.Op && a.T == b.T && a.Ret == b.Ret && slices.Equal(a.Read, b.Read)
}

// P22.1: only a positive most runs the workers to completion, and each of them with that many picks.
func TestMost(t *testing.T) {
	s := script.Script{Config: small, Programs: [][]api.Op{{alloc, alloc}, {pin, unpin}}, Picks: slices.Repeat([]int{0}, 15)}
	// The first Alloc takes 20 picks, of which the 14th is its point, a Pin 4 and an Unpin 2.
	for _, x := range []struct {
		most, answers int
		done          bool
	}{
		{math.MinInt, 1, false}, {-1, 1, false}, {0, 1, false}, {1, 1, false}, {3, 1, false}, {4, 2, false}, {5, 2, false}, {6, 3, false}, {40, 4, true}, {math.MaxInt, 4, true},
	} {
		r, e := Play(s, x.most)
		if e != api.OK || len(r.Answers) != x.answers || r.Fits != x.answers || r.Done != x.done || !Good(r) {
			t.Errorf("most %d: %d answers, %d fit, done %v, %d; %d answers and %v expected", x.most, len(r.Answers), r.Fits, r.Done, e, x.answers, x.done)
		}
	}
}

// P22.1: what is done without being run to completion: nothing at all, and what the picks suffice for.
func TestDone(t *testing.T) {
	for _, x := range []struct {
		name     string
		programs [][]api.Op
		picks    int
		done     bool
	}{
		{"no operations", nil, 0, true},
		{"no operations, some picks", nil, 30, true},
		{"not started", [][]api.Op{{pin}}, 0, false},
		{"started", [][]api.Op{{pin}}, 1, false},
		{"taken effect", [][]api.Op{{alloc}}, 14, false},
		{"returned", [][]api.Op{{pin}}, 4, true},
		{"the next one not started", [][]api.Op{{pin, unpin}}, 4, false},
		{"the other worker not started", [][]api.Op{{pin}, {pin}}, 4, false},
		{"a worker without operations", [][]api.Op{{}, {pin}}, 4, false},
		{"done when it starts", [][]api.Op{{peek}}, 1, true},
	} {
		s := script.Script{Config: small, Programs: x.programs, Picks: make([]int, x.picks)}
		if r, e := Play(s, 0); e != api.OK || r.Done != x.done || !Good(r) {
			t.Errorf("%s: %+v, %d", x.name, r, e)
		}
	}
}

// P22.1: the tickets that are live after the answers, also when an operation has not returned.
func TestLive(t *testing.T) {
	for _, x := range []struct {
		name  string
		l     []api.Op
		picks int
		most  int
		want  int
	}{
		{"none", nil, 0, 1000, 0},
		{"one", []api.Op{alloc}, 0, 1000, 1},
		{"two", []api.Op{alloc, alloc, alloc}, 0, 1000, 2},
		{"freed", []api.Op{alloc, alloc, free}, 0, 1000, 1},
		{"all freed", []api.Op{alloc, free}, 0, 1000, 0},
		{"before the point", []api.Op{alloc}, 12, 0, 0},
		{"from the point on", []api.Op{alloc}, 13, 0, 1},
	} {
		c := small
		c.Words = 1
		s := script.Script{Config: c, Picks: make([]int, x.picks)}
		if len(x.l) > 0 {
			s.Programs = [][]api.Op{x.l}
		}
		if r, e := Play(s, x.most); e != api.OK || r.Live != x.want || !Good(r) {
			t.Errorf("%s: %+v, %d", x.name, r, e)
		}
	}
}

// P22.3: each part of what is good.
func TestGood(t *testing.T) {
	answers := make([]api.Answer, 2)
	good := Report{Answers: answers, Fits: 2, Sound: true, Guarded: true, Kept: true}
	for i, x := range []struct {
		change func(r *Report)
		want   bool
	}{
		{func(r *Report) {}, true},
		{func(r *Report) { r.Done, r.Live = true, 5 }, true},
		{func(r *Report) { r.Answers, r.Fits = nil, 0 }, true},
		{func(r *Report) { r.Fits = 1 }, false},
		{func(r *Report) { r.Fits = 3 }, false},
		{func(r *Report) { r.Fits = -2 }, false},
		{func(r *Report) { r.Answers = answers[:1] }, false},
		{func(r *Report) { r.Sound = false }, false},
		{func(r *Report) { r.Guarded = false }, false},
		{func(r *Report) { r.Kept = false }, false},
		{func(r *Report) { r.Sound, r.Guarded, r.Kept = false, false, false }, false},
		{func(r *Report) { *r = Report{} }, false},
	} {
		r := good
		x.change(&r)
		if Good(r) != x.want {
			t.Errorf("%d: %+v", i, r)
		}
	}
}

// P22.3: with the bound for most, everything is done.
func TestDoneWithinTheBound(t *testing.T) {
	r := rand.New(rand.NewSource(4))
	for range 200 {
		s := randomScript(r)
		longest := 0
		for _, l := range s.Programs {
			longest = max(longest, len(l))
		}
		most := (pace.Bound(s.Config) + 1) * (longest + 1)
		if got, e := Play(s, most); e != api.OK || !got.Done || !Good(got) {
			t.Fatalf("%+v: done %v, %+v, %d", s, got.Done, got, e)
		}
	}
}

// P22.3: every schedule of up to so many picks of two workers, played to the end and cut off.
func TestEveryScheduleIsGood(t *testing.T) {
	tiny := api.Config{Workers: 2, Slabs: 1, Blocks: 1, Words: 1, Entries: 1, Rack: 0, Bag: 1, Last: 2}
	for _, programs := range [][][]api.Op{
		{{alloc, free}, {deref, alloc}},
		{{pin, peek, unpin}, {collect, drain}},
	} {
		for bits := range 1 << 11 {
			s := script.Script{Config: tiny, Programs: programs}
			for i := range 11 {
				s.Picks = append(s.Picks, bits>>i&1)
			}
			cut, e := Play(s, 0)
			whole, e2 := Play(s, 1000)
			if e != api.OK || e2 != api.OK || !Good(cut) || !Good(whole) || !whole.Done || len(whole.Answers) != len(programs[0])+len(programs[1]) {
				t.Fatalf("%+v: %+v, %+v", s, cut, whole)
			}
		}
	}
}

// P22.3: the greatest scripts there are.
func TestGreatestScript(t *testing.T) {
	r := rand.New(rand.NewSource(5))
	c := api.Config{Workers: 8, Slabs: 8, Blocks: 16, Words: 4, Entries: 32, Rack: 4, Bag: 8, Last: 1 << 20}
	ops := []api.Op{alloc, alloc, alloc, free, write, write, deref, collect, drain}
	s := script.Script{Config: c}
	for range c.Workers {
		var l []api.Op
		for i := range api.MaxOps {
			o := ops[r.Intn(len(ops))]
			if o.Use {
				o.By, o.Nth = r.Intn(8), r.Intn(1+i/4)
			}
			l = append(l, o)
		}
		s.Programs = append(s.Programs, l)
	}
	for range script.MaxPicks {
		s.Picks = append(s.Picks, r.Intn(8))
	}
	if got, e := Play(s, math.MaxInt); e != api.OK || !Good(got) || !got.Done || len(got.Answers) != 8*api.MaxOps {
		t.Errorf("%d answers, %d fit, done %v, %d", len(got.Answers), got.Fits, got.Done, e)
	}
}

// scene returns the moments and the events of picks that were run: worker 0 fills block 0 and releases the other two.
func scene(t *testing.T) (api.Config, []moment, []api.Event) {
	t.Helper()
	c := small
	h, e := hall.New(c, [][]api.Op{{alloc}})
	if e != api.OK {
		t.Fatal(e)
	}
	moments := run(c, h, make([]int, 40))
	return c, moments, h.Events()
}

// P22.1: the moments are those before the first pick and after each, of all workers.
func TestMoments(t *testing.T) {
	c, moments, events := scene(t)
	h, _ := hall.New(c, [][]api.Op{{alloc}})
	if len(moments) != 41 || len(events) == 0 {
		t.Fatalf("%d moments, %d events", len(moments), len(events))
	}
	for i, m := range moments {
		if !slices.Equal(m.words, h.Words()) || len(m.workers) != c.Workers || m.workers[0].Line != h.Work(0).Line || m.workers[1].Line != 0 {
			t.Fatalf("the moment after %d picks: %+v", i, m)
		}
		h.Pick(0)
	}
}

// P22.1: a moment that is not sound is reported, the first, the last or any other.
func TestUnsoundMoment(t *testing.T) {
	c, moments, events := scene(t)
	if r := judge(c, moments, events); !r.Sound || !r.Guarded || !r.Kept {
		t.Fatalf("%+v", r)
	}
	for i := range moments {
		l := slices.Clone(moments)
		l[i].workers = slices.Clone(l[i].workers)
		l[i].workers[1].I = 2 // its entry is on the free list, too
		if r := judge(c, l, events); r.Sound || !r.Guarded || !r.Kept {
			t.Errorf("moment %d: %+v", i, r)
		}
	}
}

// P22.1: a write to a block that is read is reported, and so is an access to a slab that is out. What counts is the moment before the pick.
func TestUncleanEvents(t *testing.T) {
	c, moments, events := scene(t)
	p := plan.Plan{Config: c}
	var unguarded, unkept []int
	for i := range moments {
		l := slices.Clone(moments)
		l[i].workers = slices.Clone(l[i].workers)
		l[i].workers[1].Pinned, l[i].workers[1].Borrow = true, 1
		if r := judge(c, l, events); !r.Guarded {
			unguarded = append(unguarded, i+1)
			if !r.Kept || !r.Sound {
				t.Errorf("moment %d: %+v", i, r)
			}
		}
		l = slices.Clone(moments)
		l[i].words = slices.Clone(l[i].words)
		l[i].words[p.Slab(0)] = pack.Slab(api.Empty, 0, 0)
		if r := judge(c, l, events); !r.Kept {
			unkept = append(unkept, i+1)
			if !r.Guarded {
				t.Errorf("moment %d: %+v", i, r)
			}
		}
	}
	var writes, touches []int
	for _, e := range events {
		at := e.Access.At
		if e.Kind != api.EStep || at < p.BlockLink(0) {
			continue
		}
		touches = append(touches, e.Tick)
		if e.Access.Kind == api.AStore && at > p.BlockLink(0) && at < p.BlockLink(1) {
			writes = append(writes, e.Tick)
		}
	}
	if len(writes) != c.Words || !slices.Equal(unguarded, writes) || len(touches) <= len(writes) || !slices.Equal(unkept, touches) {
		t.Errorf("not guarded at %v, writes at %v; not kept at %v, touches at %v", unguarded, writes, unkept, touches)
	}
}

// Rules: the script is not changed, and a result shares nothing with a later one.
func TestNothingIsShared(t *testing.T) {
	s := script.Script{Config: small, Programs: [][]api.Op{{alloc, deref}, {pin}}, Picks: []int{0, 1, 0}}
	keep := script.Script{Config: small, Programs: [][]api.Op{{alloc, deref}, {pin}}, Picks: []int{0, 1, 0}}
	first, _ := Play(s, 1000)
	first.Answers[0].T = 99
	for _, a := range first.Answers {
		for i := range a.Read {
			a.Read[i] = 99
		}
	}
	second, _ := Play(s, 1000)
	if !script.Same(s, keep) || second.Answers[0].T != 65537 {
		t.Errorf("%+v, %+v", s, second)
	}
	for _, a := range second.Answers {
		if slices.Contains(a.Read, 99) {
			t.Errorf("%+v", a)
		}
	}
}
