package pack

import (
	"math"
	"testing"

	"coatcheck/api"
)

// words returns words in which each bit is set alone, cleared alone and next to others, so that each border between fields is crossed.
func words() []api.Word {
	l := []api.Word{0, 1, math.MaxUint64, 0x0123456789abcdef, 0xfedcba9876543210, 0xaaaaaaaaaaaaaaaa, 0x5555555555555555}
	for i := range 64 {
		l = append(l, 1<<i, ^(api.Word(1) << i), 1<<i-1, ^(api.Word(1)<<i - 1))
	}
	return l
}

// P1.1: each field stands at its bits, and an index is stored plus 1.
func TestPackedFields(t *testing.T) {
	for _, c := range []struct {
		name      string
		got, want api.Word
	}{
		{"example head", Head(4, 1), 4294967301},
		{"example ticket", Ticket(2, 3), 196611},
		{"head none", Head(-1, 0), 0},
		{"head first", Head(0, 0), 1},
		{"head version only", Head(-1, 7), 7 << 32},
		{"head greatest", Head(math.MaxUint32-1, math.MaxUint32), math.MaxUint64},
		{"entry", Entry(3, 4, 1), 3<<20 | 5<<4 | 1},
		{"entry none", Entry(0, -1, 0), 0},
		{"entry generation only", Entry(1, -1, 0), 1 << 20},
		{"entry block only", Entry(0, 0, 0), 1 << 4},
		{"entry state only", Entry(0, -1, 15), 15},
		{"entry greatest", Entry(1<<44-1, 65534, 15), math.MaxUint64},
		{"announcement active", Announce(5, true), 11},
		{"announcement not active", Announce(5, false), 10},
		{"announcement of epoch 0", Announce(0, true), 1},
		{"announcement greatest", Announce(1<<63-1, true), math.MaxUint64},
		{"slab", Slab(2, 3, 4), 4<<16 | 3<<4 | 2},
		{"slab state only", Slab(15, 0, 0), 15},
		{"slab parked only", Slab(0, 4095, 0), 4095 << 4},
		{"slab tag only", Slab(0, 0, 1), 1 << 16},
		{"slab greatest", Slab(15, 4095, 1<<48-1), math.MaxUint64},
		{"ticket", Ticket(0, 1), 65537},
		{"ticket none", Ticket(-1, 0), 0},
		{"ticket greatest", Ticket(65534, 1<<48-1), math.MaxUint64},
	} {
		if c.got != c.want {
			t.Errorf("%s: got %#x, want %#x", c.name, c.got, c.want)
		}
	}
}

// P1.1: of a number that does not fit, the low-order bits are stored and no other field changes.
func TestPackedFieldsThatDoNotFit(t *testing.T) {
	for _, c := range []struct {
		name      string
		got, want api.Word
	}{
		{"head place", Head(1<<32, 0), 1},
		{"head place that wraps to none", Head(math.MaxUint32, 0), 0},
		{"head place negative", Head(-2, 0), math.MaxUint32},
		{"head place least", Head(math.MinInt, 0), 1},
		{"head place greatest", Head(math.MaxInt, 0), 0},
		{"head version", Head(-1, 1<<32|5), 5 << 32},
		{"entry generation", Entry(1<<44|1, -1, 0), 1 << 20},
		{"entry block", Entry(0, 65535, 0), 0},
		{"entry block next", Entry(0, 65536, 0), 1 << 4},
		{"entry block negative", Entry(0, -2, 0), 65535 << 4},
		{"entry block greatest", Entry(0, math.MaxInt, 0), 0},
		{"entry state", Entry(0, -1, 17), 1},
		{"entry state negative", Entry(0, -1, -1), 15},
		{"entry state least", Entry(0, -1, math.MinInt), 0},
		{"announcement epoch", Announce(1<<63|3, false), 6},
		{"slab state", Slab(16, 0, 0), 0},
		{"slab state negative", Slab(-1, 0, 0), 15},
		{"slab parked", Slab(0, 4096, 0), 0},
		{"slab parked next", Slab(0, 4097, 0), 1 << 4},
		{"slab parked negative", Slab(0, -1, 0), 4095 << 4},
		{"slab tag", Slab(0, 0, 1<<48|1), 1 << 16},
		{"ticket entry", Ticket(65535, 0), 0},
		{"ticket entry next", Ticket(65536, 0), 1},
		{"ticket entry negative", Ticket(-2, 0), 65535},
		{"ticket generation", Ticket(-1, 1<<48|1), 1 << 16},
	} {
		if c.got != c.want {
			t.Errorf("%s: got %#x, want %#x", c.name, c.got, c.want)
		}
	}
}

// P1.1: unpacking returns the fields by the table, computed here with divisions.
func TestUnpackedFields(t *testing.T) {
	for _, w := range words() {
		if p, v := Unhead(w); p != int(w%(1<<32))-1 || v != w/(1<<32) {
			t.Errorf("Unhead(%#x) = %d, %d", w, p, v)
		}
		if g, b, s := Unentry(w); g != w/(1<<20) || b != int(w/16%65536)-1 || s != int(w%16) {
			t.Errorf("Unentry(%#x) = %d, %d, %d", w, g, b, s)
		}
		if e, on := Unannounce(w); e != w/2 || on != (w%2 == 1) {
			t.Errorf("Unannounce(%#x) = %d, %v", w, e, on)
		}
		if s, p, tag := Unslab(w); s != int(w%16) || p != int(w/16%4096) || tag != w/65536 {
			t.Errorf("Unslab(%#x) = %d, %d, %d", w, s, p, tag)
		}
		if i, g := Unticket(w); i != int(w%65536)-1 || g != w/65536 {
			t.Errorf("Unticket(%#x) = %d, %d", w, i, g)
		}
	}
}

// P1.2: packing the unpacked fields of a word yields that word.
func TestPackAfterUnpack(t *testing.T) {
	for _, w := range words() {
		if got := Head(Unhead(w)); got != w {
			t.Errorf("head %#x became %#x", w, got)
		}
		if got := Entry(Unentry(w)); got != w {
			t.Errorf("entry %#x became %#x", w, got)
		}
		if got := Announce(Unannounce(w)); got != w {
			t.Errorf("announcement %#x became %#x", w, got)
		}
		if got := Slab(Unslab(w)); got != w {
			t.Errorf("slab %#x became %#x", w, got)
		}
		if got := Ticket(Unticket(w)); got != w {
			t.Errorf("ticket %#x became %#x", w, got)
		}
	}
}

// P1.2: unpacking a packed word yields the original fields where they fit.
func TestUnpackAfterPackOfIndices(t *testing.T) {
	for _, place := range []int{-1, 0, 1, 511, 1<<31 - 1, 1 << 31, math.MaxUint32 - 1} {
		for _, version := range []api.Word{0, 1, 1 << 31, math.MaxUint32} {
			if p, v := Unhead(Head(place, version)); p != place || v != version {
				t.Errorf("head %d, %d became %d, %d", place, version, p, v)
			}
		}
	}
	for _, entry := range []int{-1, 0, 31, 32767, 32768, 65534} {
		for _, gen := range []api.Word{0, 1, api.MaxLast, 1<<48 - 1} {
			if i, g := Unticket(Ticket(entry, gen)); i != entry || g != gen {
				t.Errorf("ticket %d, %d became %d, %d", entry, gen, i, g)
			}
		}
	}
}

// P1.2: the same for the words that have a state.
func TestUnpackAfterPackOfStates(t *testing.T) {
	for state := range 16 {
		for _, gen := range []api.Word{0, 1, api.MaxLast, 1<<44 - 1} {
			for _, block := range []int{-1, 0, 127, 32768, 65534} {
				if g, b, s := Unentry(Entry(gen, block, state)); g != gen || b != block || s != state {
					t.Errorf("entry %d, %d, %d became %d, %d, %d", gen, block, state, g, b, s)
				}
			}
		}
		for _, parked := range []int{0, 1, 16, 2048, 4095} {
			for _, tag := range []api.Word{0, 1, 1 << 47, 1<<48 - 1} {
				if s, p, g := Unslab(Slab(state, parked, tag)); s != state || p != parked || g != tag {
					t.Errorf("slab %d, %d, %d became %d, %d, %d", state, parked, tag, s, p, g)
				}
			}
		}
	}
	for _, epoch := range []api.Word{0, 1, 1 << 62, 1<<63 - 1} {
		for _, active := range []bool{false, true} {
			if e, on := Unannounce(Announce(epoch, active)); e != epoch || on != active {
				t.Errorf("announcement %d, %v became %d, %v", epoch, active, e, on)
			}
		}
	}
}
