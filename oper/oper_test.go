package oper

import (
	"math"
	"strings"
	"testing"

	"coatcheck/api"
)

const greatest = "18446744073709551615"

// texts has valid operations with their texts.
var texts = map[string]api.Op{
	"pin":                                  {Kind: api.OpPin},
	"unpin":                                {Kind: api.OpUnpin},
	"peek":                                 {Kind: api.OpPeek},
	"collect":                              {Kind: api.OpCollect},
	"alloc 0":                              {Kind: api.OpAlloc},
	"alloc 7":                              {Kind: api.OpAlloc, X: 7},
	"alloc " + greatest:                    {Kind: api.OpAlloc, X: math.MaxUint64},
	"free 0":                               {Kind: api.OpFree},
	"free 65537":                           {Kind: api.OpFree, T: 65537},
	"free @0.0":                            {Kind: api.OpFree, Use: true},
	"free @7.199":                          {Kind: api.OpFree, Use: true, By: 7, Nth: 199},
	"deref 65537":                          {Kind: api.OpDeref, T: 65537},
	"deref " + greatest:                    {Kind: api.OpDeref, T: math.MaxUint64},
	"deref @10.20":                         {Kind: api.OpDeref, Use: true, By: 10, Nth: 20},
	"write 65537 7":                        {Kind: api.OpWrite, T: 65537, X: 7},
	"write 0 0":                            {Kind: api.OpWrite},
	"write @1.0 7":                         {Kind: api.OpWrite, Use: true, By: 1, X: 7},
	"write @0.1 " + greatest:               {Kind: api.OpWrite, Use: true, Nth: 1, X: math.MaxUint64},
	"drain 0":                              {Kind: api.OpDrain},
	"drain 7":                              {Kind: api.OpDrain, Slab: 7},
	"drain 9223372036854775807":            {Kind: api.OpDrain, Slab: math.MaxInt},
	"free @9223372036854775807.0":          {Kind: api.OpFree, Use: true, By: math.MaxInt},
	"deref @0.9223372036854775807":         {Kind: api.OpDeref, Use: true, Nth: math.MaxInt},
	"write 1 9223372036854775808":          {Kind: api.OpWrite, T: 1, X: 1 << 63},
	"alloc 10000000000000000000":           {Kind: api.OpAlloc, X: 10000000000000000000},
	"write 18446744073709551615 100000000": {Kind: api.OpWrite, T: math.MaxUint64, X: 100000000},
}

// P12.1: valid operations and their texts, both ways.
func TestTexts(t *testing.T) {
	for text, o := range texts {
		if !Right(o) {
			t.Errorf("%q is not valid", text)
		}
		if got, e := Text(o); got != text || e != api.OK {
			t.Errorf("Text(%+v) = %q, %d, want %q", o, got, e, text)
		}
		if got, e := Parse(text); got != o || e != api.OK {
			t.Errorf("Parse(%q) = %+v, %d, want %+v", text, got, e, o)
		}
	}
}

// P12.1: each kind with one field set that it may or may not have.
func TestFieldsOfKinds(t *testing.T) {
	fields := map[string]func(o *api.Op){
		"T":              func(o *api.Op) { o.T = 1 },
		"X":              func(o *api.Op) { o.X = 1 },
		"Slab":           func(o *api.Op) { o.Slab = 1 },
		"Slab -1":        func(o *api.Op) { o.Slab = -1 },
		"least Slab":     func(o *api.Op) { o.Slab = math.MinInt },
		"Use":            func(o *api.Op) { o.Use = true },
		"By":             func(o *api.Op) { o.By = 1 },
		"Nth":            func(o *api.Op) { o.Nth = 1 },
		"By -1":          func(o *api.Op) { o.By = -1 },
		"Nth -1":         func(o *api.Op) { o.Nth = -1 },
		"reference":      func(o *api.Op) { o.Use, o.By, o.Nth = true, 1, 1 },
		"reference by":   func(o *api.Op) { o.Use, o.By = true, -1 },
		"reference nth":  func(o *api.Op) { o.Use, o.Nth = true, -1 },
		"reference to T": func(o *api.Op) { o.Use, o.T = true, 1 },
	}
	has := map[int]string{
		api.OpAlloc: " X ", api.OpFree: " T Use reference ", api.OpDeref: " T Use reference ", api.OpWrite: " T X Use reference ", api.OpDrain: " Slab ",
	}
	for kind := api.OpPin; kind <= api.OpDrain; kind++ {
		for name, set := range fields {
			o := api.Op{Kind: kind}
			set(&o)
			want := strings.Contains(strings.ReplaceAll(has[kind], " ", "|"), "|"+name+"|")
			if got := Right(o); got != want {
				t.Errorf("kind %d with %s: %v", kind, name, got)
			}
			text, e := Text(o)
			if want != (e == api.OK) || !want && (text != "" || e != api.ErrForm) {
				t.Errorf("kind %d with %s: Text %q, %d", kind, name, text, e)
			}
			if back, e := Parse(text); want && (back != o || e != api.OK) {
				t.Errorf("kind %d with %s: Parse(%q) = %+v, %d", kind, name, text, back, e)
			}
		}
	}
}

// P12.1: kinds that do not exist.
func TestKindsThatDoNotExist(t *testing.T) {
	for _, kind := range []int{math.MinInt, -1, 0, 10, math.MaxInt} {
		o := api.Op{Kind: kind}
		if text, e := Text(o); Right(o) || text != "" || e != api.ErrForm || Asks(o) || Shares(o) {
			t.Errorf("kind %d: %q, %d", kind, text, e)
		}
	}
}

// P12.1: what is no text of an operation.
func TestParseOfWhatIsNoText(t *testing.T) {
	for _, s := range []string{
		"", " ", "  ", "pin ", " pin", "Pin", "pins", "pi", "pin 0", "pin  ", "pin\n", "unpin 1", "peek @0.0", "collect 3",
		"alloc", "alloc ", "alloc  7", "alloc 7 ", " alloc 7", "alloc 07", "alloc 00", "alloc +7", "alloc -7", "alloc -0", "alloc 7.0", "alloc 0x7", "alloc 1_0", "alloc x", "alloc 7 8", "alloc @0.0",
		"alloc 18446744073709551616", "alloc 99999999999999999999999", "alloc\t7", "alloc ７",
		"free", "free ", "free @", "free @.", "free @0", "free @0.", "free @.0", "free @0.0.0", "free @00.0", "free @0.00", "free @+1.0", "free @-1.0", "free @0.-1", "free @ 0.0", "free @0 .0", "free 0.0", "free @0,0", "free @@0.0", "free 1 2", "free 065537", "free -1",
		"free @9223372036854775808.0", "free @0.9223372036854775808", "free 18446744073709551616",
		"deref", "deref 1 1", "deref @x.y",
		"write", "write 1", "write 1 ", "write  1", "write 1  2", "write 1 2 3", "write 1 2 ", "write 1 @0.0", "write @0.0", "write 01 2", "write 1 02", "write x 2",
		"drain", "drain ", "drain -1", "drain -0", "drain 00", "drain @0.0", "drain 9223372036854775808", "drain 1 2", "drain 1\n",
		"do 0 alloc 7", "\x00", "alloc \xff",
	} {
		if o, e := Parse(s); o != (api.Op{}) || e != api.ErrForm {
			t.Errorf("Parse(%q) = %+v, %d", s, o, e)
		}
	}
	if o, e := Parse(strings.Repeat("write ", 1<<20)); o != (api.Op{}) || e != api.ErrForm {
		t.Errorf("a long text: %+v, %d", o, e)
	}
}

// P12.2: Asks and Shares by kind, whatever the other fields are.
func TestAsksAndShares(t *testing.T) {
	for kind, want := range map[int]struct{ asks, shares bool }{
		api.OpPin: {}, api.OpUnpin: {}, api.OpPeek: {}, api.OpCollect: {}, api.OpDrain: {},
		api.OpAlloc: {false, true}, api.OpFree: {true, true}, api.OpWrite: {true, true}, api.OpDeref: {true, true},
	} {
		for _, o := range []api.Op{{Kind: kind}, {Kind: kind, T: 5, X: 6, Slab: -7, Use: true, By: -1, Nth: 3}} {
			if Asks(o) != want.asks || Shares(o) != want.shares {
				t.Errorf("%+v: %v, %v", o, Asks(o), Shares(o))
			}
		}
	}
}
