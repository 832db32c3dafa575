package script

import (
	"math/rand"
	"regexp"
	"strconv"
	"strings"
	"testing"

	"coatcheck/api"
	"coatcheck/oper"
)

// P21.2: texts that no valid script has, with the numbers of their first wrong lines.
func TestWrongLines(t *testing.T) {
	for _, c := range []struct {
		text string
		line int
	}{
		// The text ends too early.
		{"", 1},

		// Lines that are not terminated.
		{"hall 2 1 2 1 3 0 1 9", 1},
		{"hall", 1},
		{"x", 1},
		{" ", 1},
		{hall + "do 0 pin", 2},
		{hall + "d", 2},
		{hall + " ", 2},
		{hall + "do 0 pin\ndo 1 pin", 3},
		{hall + "pick 0 1", 2},
		{hall + pickLines(20) + "pick 0", 3},
		{hall + "do 0 pin\r\ndo 0 pin", 2},
		{hall + "do 2 pin\ndo 0 pin\npick 0", 2},

		// Empty lines.
		{"\n", 1},
		{"\n" + hall, 1},
		{hall + "\n", 2},
		{hall + "\ndo 0 pin\n", 2},
		{hall + "do 0 pin\n\n", 3},
		{hall + "pick 0\n\n", 3},
		{hall + pickLines(20) + "\n", 3},

		// First words that are not known.
		{"Hall 2 1 2 1 3 0 1 9\n", 1},
		{"halls 2 1 2 1 3 0 1 9\n", 1},
		{"hal 2 1 2 1 3 0 1 9\n", 1},
		{"2 1 2 1 3 0 1 9\n", 1},
		{hall + "pin\n", 2},
		{hall + "Do 0 pin\n", 2},
		{hall + "doo 0 pin\n", 2},
		{hall + "do0 pin\n", 2},
		{hall + "picks 0\n", 2},
		{hall + "pick0\n", 2},
		{hall + "# pick\n", 2},
		{hall + "do 0 pin\nend\n", 3},
		{hall + "pick 0\nend\n", 3},

		// Lines out of order.
		{"do 0 pin\n", 1},
		{"pick 0\n", 1},
		{"do 0 pin\n" + hall, 1},
		{hall + hall, 2},
		{hall + "do 0 pin\n" + hall, 3},
		{hall + "pick 0\n" + hall, 3},
		{hall + pickLines(20) + hall, 3},
		{hall + "do 1 pin\ndo 0 pin\n", 3},
		{hall + "do 0 pin\ndo 1 pin\ndo 0 pin\n", 4},
		{greatestHall + "do 7 pin\ndo 6 pin\n", 3},
		{hall + "pick 0\ndo 0 pin\n", 3},
		{hall + pickLines(20) + "do 0 pin\n", 3},
		{hall + "do 0 pin\npick 0\ndo 0 pin\n", 4},

		// A line of fewer than twenty picks that is not the last one.
		{hall + "pick 0\npick 0\n", 3},
		{hall + pickLines(19) + "pick 0\n", 3},
		{hall + pickLines(19) + pickLines(20), 3},
		{hall + pickLines(21) + "pick 0\n", 4},
		{hall + "pick 0\n" + pickLines(40), 3},

		// Too many operations, picks or words.
		{hall + strings.Repeat("do 0 pin\n", 201), 202},
		{hall + strings.Repeat("do 0 pin\n", 201) + "do 1 pin\n", 202},
		{hall + strings.Repeat("do 0 pin\n", 200) + strings.Repeat("do 1 pin\n", 201), 402},
		{hall + "do 0 pin\n" + strings.Repeat("do 1 pin\n", 202), 203},
		{hall + pickLines(2001), 102},
		{hall + pickLines(2020), 102},
		{hall + pickLines(1999) + "pick 1\n", 102},
		{hall + "do 0 pin\n" + pickLines(2001), 103},
		{hall + "pick" + strings.Repeat(" 1", 21) + "\n", 2},
		{hall + pickLines(20) + "pick" + strings.Repeat(" 1", 21) + "\n", 3},
		{hall + "pick" + strings.Repeat(" 1", 40) + "\n", 2},
		{hall + "pick" + strings.Repeat(" 1", 1<<20) + "\n", 2},
		{"hall 2 1 2 1 3 0 1 9 1\n", 1},
		{"hall" + strings.Repeat(" 1", 1<<20) + "\n", 1},
		{hall + "do 0 pin 0\n", 2},
		{hall + "do 0 0 pin\n", 2},
		{hall + "do 0 write 1 2 3\n", 2},
		{hall + "do 0 pin do 0 pin\n", 2},

		// Too few words.
		{"hall\n", 1},
		{"hall 2\n", 1},
		{"hall 2 1 2 1 3 0 1\n", 1},
		{hall + "do\n", 2},
		{hall + "do 0\n", 2},
		{hall + "do pin\n", 2},
		{hall + "do 0 alloc\n", 2},
		{hall + "pick\n", 2},
		{hall + pickLines(20) + "pick\n", 3},
		{hall + "do 0 pin\npick\n", 3},

		// Spaces, and what is no space.
		{" " + hall, 1},
		{"hall  2 1 2 1 3 0 1 9\n", 1},
		{"hall 2 1 2 1  3 0 1 9\n", 1},
		{"hall 2 1 2 1 3 0 1 9 \n", 1},
		{"hall 2 1 2 1 3 0 1 9\r\n", 1},
		{"hall\t2 1 2 1 3 0 1 9\n", 1},
		{"hall \n", 1},
		{hall + " do 0 pin\n", 2},
		{hall + "do  0 pin\n", 2},
		{hall + "do 0  pin\n", 2},
		{hall + "do 0 pin \n", 2},
		{hall + "do 0 alloc  7\n", 2},
		{hall + "do 0 \n", 2},
		{hall + "do  pin\n", 2},
		{hall + "do \n", 2},
		{hall + "pick \n", 2},
		{hall + "pick  0\n", 2},
		{hall + "pick 0  0\n", 2},
		{hall + "pick 0 0 \n", 2},
		{hall + "pick" + strings.Repeat(" 1", 20) + " \n", 2},
		{hall + " pick 0\n", 2},
		{hall + "pick 0\x00\n", 2},

		// Numbers that are not written as they should be.
		{"hall 02 1 2 1 3 0 1 9\n", 1},
		{"hall 2 1 2 1 3 00 1 9\n", 1},
		{"hall 2 1 2 1 3 -0 1 9\n", 1},
		{"hall 2 1 2 1 3 0 1 09\n", 1},
		{"hall +2 1 2 1 3 0 1 9\n", 1},
		{"hall 2 1 2 1 3 0 1 0x9\n", 1},
		{"hall 2 1 2 1 3 0 1 1_0\n", 1},
		{"hall 2 1 2 1 3 0 1 9.0\n", 1},
		{"hall 2 1 2 1 3 0 1 x\n", 1},
		{"hall 2 1 2 1 3 0 1 ９\n", 1},
		{hall + "do 00 pin\n", 2},
		{hall + "do 01 pin\n", 2},
		{hall + "do +1 pin\n", 2},
		{hall + "do -0 pin\n", 2},
		{hall + "do @0 pin\n", 2},
		{hall + "do x pin\n", 2},
		{hall + "pick 01\n", 2},
		{hall + "pick 00\n", 2},
		{hall + "pick 0 +1\n", 2},
		{hall + "pick -0\n", 2},
		{hall + "pick 0,1\n", 2},
		{hall + "pick x\n", 2},

		// Numbers out of range.
		{"hall 0 1 2 1 3 0 1 9\n", 1},
		{"hall 9 1 2 1 3 0 1 9\n", 1},
		{"hall 2 0 2 1 3 0 1 9\n", 1},
		{"hall 2 9 2 1 3 0 1 9\n", 1},
		{"hall 2 1 0 1 3 0 1 9\n", 1},
		{"hall 2 1 17 1 3 0 1 9\n", 1},
		{"hall 2 1 2 0 3 0 1 9\n", 1},
		{"hall 2 1 2 5 3 0 1 9\n", 1},
		{"hall 2 1 2 1 0 0 1 9\n", 1},
		{"hall 2 1 2 1 33 0 1 9\n", 1},
		{"hall 2 1 2 1 3 -1 1 9\n", 1},
		{"hall 2 1 2 1 3 5 1 9\n", 1},
		{"hall 2 1 2 1 3 0 0 9\n", 1},
		{"hall 2 1 2 1 3 0 9 9\n", 1},
		{"hall 2 1 2 1 3 0 1 0\n", 1},
		{"hall 2 1 2 1 3 0 1 1048577\n", 1},
		{"hall 2 1 2 1 3 0 1 9223372036854775808\n", 1},
		{"hall 2 1 2 1 3 0 1 18446744073709551617\n", 1},
		{"hall 2 1 2 1 3 0 1 -1\n", 1},
		{"hall 18446744073709551618 1 2 1 3 0 1 9\n", 1},
		{hall + "do 2 pin\n", 2},
		{hall + "do -1 pin\n", 2},
		{hall + "do 18446744073709551616 pin\n", 2},
		{hall + "do 9223372036854775807 pin\n", 2},
		{greatestHall + "do 8 pin\n", 2},
		{hall + "pick 2\n", 2},
		{hall + "pick 0 0 -1\n", 2},
		{hall + "pick 18446744073709551616\n", 2},
		{hall + "pick 9223372036854775807\n", 2},
		{greatestHall + "pick 7 8\n", 2},
		{hall + pickLines(1980) + "pick" + strings.Repeat(" 1", 19) + " 2\n", 101},

		// Operations that are not valid.
		{hall + "do 0 Pin\n", 2},
		{hall + "do 0 alloc 07\n", 2},
		{hall + "do 0 alloc 18446744073709551616\n", 2},
		{hall + "do 0 free @0\n", 2},
		{hall + "do 0 write @1.0\n", 2},
		{hall + "do 0 drain -1\n", 2},
		{hall + "do 0 pin\ndo 0 jump\ndo 0 pin\n", 3},
		{hall + "do 0 pick 0\n", 2},

		// Only the first wrong line counts.
		{"hall 2 1 2 1 3 0 1\ndo 2 pin\n", 1},
		{hall + "do 0 pin\ndo 2 pin\n\npick\n", 3},
	} {
		if s, n, e := Parse(c.text); !isZero(s) || n != c.line || e != api.ErrForm {
			t.Errorf("%.200q: %+v, %d, %d, not line %d", c.text, s, n, e, c.line)
		}
	}
}

func isZero(s Script) bool {
	return s.Config == api.Config{} && len(s.Programs) == 0 && len(s.Picks) == 0
}

// P1: long texts of one kind of bytes.
func TestLongTexts(t *testing.T) {
	for _, start := range []string{"", "hall ", hall, hall + "do ", hall + "do 0 ", hall + "pick "} {
		for _, part := range []string{" ", "0", "9", "\n", "0 ", "pick 0\n", "\x00", "\xff"} {
			text := start + strings.Repeat(part, 1<<20)
			if s, n, e := Parse(text); !isZero(s) || n < 1 || n > 3 || e != api.ErrForm {
				t.Errorf("%.60q: %d, %d", text, n, e)
			}
		}
	}
}

// The lines of a text as patterns, with the numbers that have a range.
const natural = `(0|[1-9][0-9]*)`

var (
	hallPattern = regexp.MustCompile(`^hall` + strings.Repeat(` `+natural, 8) + `$`)
	doPattern   = regexp.MustCompile(`^do ` + natural + ` (?:pin|unpin|peek|collect|alloc ` + natural + `|(?:free|deref) ` + ticket + `|write ` + ticket + ` ` + natural + `|drain ` + natural + `)$`)
	pickPattern = regexp.MustCompile(`^pick((?: ` + natural + `){1,20})$`)
)

const ticket = `(?:` + natural + `|@` + natural + `\.` + natural + `)`

// judge finds the first wrong line of a text in another way than Parse: a whole text is matched line by line with patterns and counts. Numbers of operations must be short. It returns 0 for the text of a valid script.
func judge(text string) int {
	j := judgement{}
	lines := strings.Split(text, "\n")
	for i, line := range lines[:len(lines)-1] {
		if !j.line(i, line) {
			return i + 1
		}
	}
	if last := lines[len(lines)-1]; last != "" || len(lines) == 1 {
		return len(lines)
	}
	return 0
}

type judgement struct {
	workers, latest, picks int
	ops                    [8]int
	ended                  bool // no line may follow
}

func (j *judgement) line(i int, line string) bool {
	switch h, d, p := hallPattern.FindStringSubmatch(line), doPattern.FindStringSubmatch(line), pickPattern.FindStringSubmatch(line); {
	case h != nil:
		j.workers = atoi(h[1])
		limits := [][2]int{{1, 8}, {1, 8}, {1, 16}, {1, 4}, {1, 32}, {0, 4}, {1, 8}, {1, 1048576}}
		for k, l := range limits {
			if n := atoi(h[k+1]); n < l[0] || n > l[1] {
				return false
			}
		}
		return i == 0
	case d != nil:
		w := atoi(d[1])
		if i == 0 || j.picks > 0 || w < j.latest || w >= j.workers {
			return false
		}
		j.latest = w
		j.ops[w]++
		return j.ops[w] <= 200
	case p != nil:
		words := strings.Fields(p[1])
		for _, w := range words {
			if atoi(w) >= j.workers {
				return false
			}
		}
		j.picks += len(words)
		ok := i > 0 && !j.ended && j.picks <= 2000
		j.ended = len(words) < 20
		return ok
	}
	return false
}

func atoi(s string) int {
	n, err := strconv.Atoi(s)
	if err != nil {
		return 1 << 60
	}
	return n
}

// randomScript returns a valid script.
func randomScript(r *rand.Rand) Script {
	s := Script{Config: api.Config{
		Workers: 1 + r.Intn(8), Slabs: 1 + r.Intn(8), Blocks: 1 + r.Intn(16), Words: 1 + r.Intn(4),
		Entries: 1 + r.Intn(32), Rack: r.Intn(5), Bag: 1 + r.Intn(8), Last: 1 + api.Word(r.Intn(1<<20)),
	}}
	for range r.Intn(s.Config.Workers + 1) {
		var l []api.Op
		for range r.Intn(4) * r.Intn(4) {
			l = append(l, randomOp(r))
		}
		s.Programs = append(s.Programs, l)
	}
	if n := len(s.Programs); n > 0 && len(s.Programs[n-1]) == 0 {
		s.Programs[n-1] = []api.Op{randomOp(r)}
	}
	for range r.Intn(3) * r.Intn(50) {
		s.Picks = append(s.Picks, r.Intn(s.Config.Workers))
	}
	return s
}

func randomOp(r *rand.Rand) api.Op {
	o := api.Op{Kind: 1 + r.Intn(9)}
	switch {
	case oper.Asks(o) && r.Intn(2) == 0:
		o.T = api.Word(r.Intn(1 << 20))
	case oper.Asks(o):
		o.Use, o.By, o.Nth = true, r.Intn(12), r.Intn(12)
	}
	switch o.Kind {
	case api.OpAlloc, api.OpWrite:
		o.X = api.Word(r.Intn(100))
	case api.OpDrain:
		o.Slab = r.Intn(10)
	}
	return o
}

// changed returns a text with a small change of bytes or lines.
func changed(r *rand.Rand, text string) string {
	lines := strings.SplitAfter(text, "\n")
	i, k := r.Intn(len(text)), r.Intn(len(lines))
	switch r.Intn(6) {
	case 0:
		return text[:i]
	case 1:
		return text[:i] + text[i+1:]
	case 2:
		return text[:i] + string(" \n0129-+adhkp@."[r.Intn(15)]) + text[i:]
	case 3:
		return text[:i] + string(" \n0129-+adhkp@."[r.Intn(15)]) + text[i+1:]
	case 4:
		return strings.Join(lines[:k], "") + strings.Join(lines[k+1:], "")
	}
	l := r.Intn(len(lines))
	lines[k], lines[l] = lines[l], lines[k]
	return strings.Join(lines, "")
}

// P21.3: the text of a valid script yields an equal script.
func TestRandomScripts(t *testing.T) {
	r := rand.New(rand.NewSource(21))
	for range 2000 {
		s := randomScript(r)
		text, e := Text(s)
		if !Right(s) || e != api.OK || judge(text) != 0 {
			t.Fatalf("%+v: %q, %d", s, text, e)
		}
		if back, n, e := Parse(text); !equal(back, s) || !Same(back, s) || n != 0 || e != api.OK {
			t.Fatalf("%q: %+v, %d, %d", text, back, n, e)
		}
	}
}

// P21.2, P21.3: a changed text is either wrong in the line that the patterns say, or the only text of the script that it yields.
func TestChangedTexts(t *testing.T) {
	r := rand.New(rand.NewSource(3))
	outcomes := [2]int{}
	for range 20000 {
		text, _ := Text(randomScript(r))
		for range 1 + r.Intn(3) {
			if text != "" {
				text = changed(r, text)
			}
		}
		want := judge(text)
		s, n, e := Parse(text)
		if n != want || (e == api.OK) != (want == 0) {
			t.Fatalf("%q: %d, %d, not line %d", text, n, e, want)
		}
		if want > 0 {
			outcomes[0]++
			if !isZero(s) || e != api.ErrForm {
				t.Fatalf("%q: %+v, %d", text, s, e)
			}
			continue
		}
		outcomes[1]++
		if back, e := Text(s); back != text || e != api.OK || !Right(s) {
			t.Fatalf("%q is read as %q", text, back)
		}
	}
	if outcomes[0] < 1000 || outcomes[1] < 1000 {
		t.Errorf("wrong and right texts: %v", outcomes)
	}
}
