// Package pack is layer 1: it packs numeric fields into shared words (shared/doc/01-pack.md).
package pack

import (
	"coatcheck/api"
)

// Head returns the head with the index of its first element and its version.
func Head(place int, version api.Word) api.Word {
	return version<<32 | api.Word(uint32(place+1))
}

// Unhead returns the fields of a head.
func Unhead(w api.Word) (place int, version api.Word) {
	return int(uint32(w)) - 1, w >> 32
}

// Entry returns the entry with its generation, the index of its block and its state.
func Entry(gen api.Word, block, state int) api.Word {
	return gen<<20 | api.Word(uint16(block+1))<<4 | low4(api.Word(state))
}

// Unentry returns the fields of an entry.
func Unentry(w api.Word) (gen api.Word, block, state int) {
	return w >> 20, int(uint16(w>>4)) - 1, int(low4(w))
}

// Announce returns the announcement of an epoch.
func Announce(epoch api.Word, active bool) api.Word {
	w := epoch << 1
	if active {
		w |= 1
	}
	return w
}

// Unannounce returns the fields of an announcement.
func Unannounce(w api.Word) (epoch api.Word, active bool) {
	return w >> 1, w&1 == 1
}

// Slab returns the slab word with its state, the number of its parked blocks and its tag.
func Slab(state, parked int, tag api.Word) api.Word {
	// The 12 bits of parked end where a 16-bit word ends, so its shift drops the rest.
	return tag<<16 | api.Word(uint16(parked)<<4) | low4(api.Word(state))
}

// Unslab returns the fields of a slab word.
func Unslab(w api.Word) (state, parked int, tag api.Word) {
	return int(low4(w)), int(uint16(w) >> 4), w >> 16
}

// Ticket returns the ticket of an entry with a generation.
func Ticket(entry int, gen api.Word) api.Word {
	return gen<<16 | api.Word(uint16(entry+1))
}

// Unticket returns the fields of a ticket.
func Unticket(w api.Word) (entry int, gen api.Word) {
	return int(uint16(w)) - 1, w >> 16
}

// low4 masks because no integer type has 4 bits.
func low4(w api.Word) api.Word {
	return api.Word(uint8(w) & 15)
}
