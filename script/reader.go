package script

import (
	"slices"
	"strconv"
	"strings"

	"coatcheck/api"
	"coatcheck/oper"
	"coatcheck/plan"
)

// reader is what has been read so far, and how the next line is read.
type reader struct {
	script Script
	before string // the first word of the line before
	rules  map[string]rule
}

// rule says which lines a line may follow, by their first words, and reads what stands behind its own first word.
type rule struct {
	follows []string
	read    func(rest string) bool
}

func newReader() *reader {
	r := &reader{}
	r.rules = map[string]rule{
		"hall": {[]string{""}, r.hall},
		"do":   {[]string{"hall", "do"}, r.do},
		"pick": {[]string{"hall", "do", "pick"}, r.pick},
	}
	return r
}

// read reads the next line and reports whether a valid script may have it there.
func (r *reader) read(line string) bool {
	word, rest, _ := strings.Cut(line, " ")
	next, known := r.rules[word]
	if !known || !slices.Contains(next.follows, r.before) {
		return false
	}
	r.before = word
	return next.read(rest)
}

// hall reads the configuration.
func (r *reader) hall(rest string) bool {
	const fields = 8
	l, ok := numbers(rest, fields)
	if !ok || len(l) < fields {
		return false
	}
	c := api.Config{Workers: l[0], Slabs: l[1], Blocks: l[2], Words: l[3], Entries: l[4], Rack: l[5], Bag: l[6], Last: api.Word(l[7])}
	r.script.Config = c
	return plan.Check(c) == api.OK
}

// do reads an operation, which belongs to the worker of the operation before or to a later one.
func (r *reader) do(rest string) bool {
	word, text, _ := strings.Cut(rest, " ")
	worker, ok := number(word)
	o, e := oper.Parse(text)
	l := r.script.Programs
	if !ok || e != api.OK || worker >= r.script.Config.Workers || worker+1 < len(l) {
		return false
	}
	for len(l) <= worker {
		l = append(l, nil)
	}
	l[worker] = append(l[worker], o)
	r.script.Programs = l
	return len(l[worker]) <= api.MaxOps
}

// pick reads picks.
func (r *reader) pick(rest string) bool {
	l, ok := numbers(rest, picksPerLine)
	// A line with fewer picks than fit is the last one.
	full := len(r.script.Picks)%picksPerLine == 0
	r.script.Picks = append(r.script.Picks, l...)
	return ok && full && len(r.script.Picks) <= MaxPicks && workersExist(r.script.Config, l)
}

// numbers returns the numbers that a text consists of, one at least. If there are more than that most, the rest is left unread.
func numbers(text string, most int) ([]int, bool) {
	words := strings.SplitN(text, " ", most+1)
	if len(words) > most {
		return nil, false
	}
	var l []int
	for _, word := range words {
		n, ok := number(word)
		if !ok {
			return nil, false
		}
		l = append(l, n)
	}
	return l, true
}

// number returns the number with this text. A number has one text only, which has no sign and no leading zero.
func number(word string) (int, bool) {
	u, err := strconv.ParseUint(word, 10, strconv.IntSize-1)
	n := int(u)
	return n, err == nil && strconv.Itoa(n) == word
}
