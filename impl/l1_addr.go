package impl

import "iter"

// AdrMax is the last address, MapMost how many ranges there are at most, SlvMany how many stores there are, SlvNone who answers where there is none.
const (
	AdrMax  = 63
	MapMost = 4
	SlvMany = 3
	SlvNone = 3
)

// MapRange is addresses from one to another, of which store they are, and whether they can but be read.
type MapRange struct {
	From  int
	To    int
	Slave int
	Only  bool
}

// adrAddress is a number that is meant as an address; callers hand in any number, so it need not be one.
type adrAddress int

func (a adrAddress) ok() bool {
	return a >= 0 && a <= AdrMax
}

// last is to be asked only of an address, and of how many words there may be: greater numbers, added up, wrap round.
func (a adrAddress) last(many int) adrAddress {
	return a + adrAddress(many) - 1
}

func (a adrAddress) isIn(r MapRange) bool {
	return int(a) >= r.From && int(a) <= r.To
}

func (a adrAddress) block(many int) adrAddress {
	return a - a%adrAddress(many)
}

// inRow tells so many addresses, one behind the other.
func (a adrAddress) inRow(many int) iter.Seq[adrAddress] {
	return func(yield func(adrAddress) bool) {
		for k := range many {
			if !yield(a + adrAddress(k)) {
				return
			}
		}
	}
}

// roundAbout tells all addresses of the block of so many in which an address is, from that one on.
func (a adrAddress) roundAbout(many int) iter.Seq[adrAddress] {
	return func(yield func(adrAddress) bool) {
		first := a.block(many)
		for next := range a.inRow(many) {
			if !yield(first + (next-first)%adrAddress(many)) {
				return
			}
		}
	}
}

// burst is to be asked only where AdrOk holds: there is no block of no words.
func (a adrAddress) burst(many int, wrap bool) iter.Seq[adrAddress] {
	if wrap {
		return a.roundAbout(many)
	}
	return a.inRow(many)
}

func adrManyOk(many int) bool {
	return many == 1 || many == 2 || many == 4
}

func mapRangeOk(r MapRange) bool {
	return adrAddress(r.From).ok() && adrAddress(r.To).ok() && r.From <= r.To && r.Slave >= 0 && r.Slave < SlvMany
}

func mapRangesMeet(a MapRange, b MapRange) bool {
	return a.From <= b.To && b.From <= a.To
}

// MapOk says whether ranges are ok: at most so many, of stores that there are, no two with one address.
func MapOk(list []MapRange) bool {
	if len(list) > MapMost {
		return false
	}
	for k, r := range list {
		if !mapRangeOk(r) {
			return false
		}
		for _, ahead := range list[:k] {
			if mapRangesMeet(ahead, r) {
				return false
			}
		}
	}
	return true
}

// MapFind is of which store an address is; SlvNone, if it is of none.
func MapFind(list []MapRange, addr int) int {
	for _, r := range list {
		if adrAddress(addr).isIn(r) {
			return r.Slave
		}
	}
	return SlvNone
}

// AdrOk says whether so many words, from an address on, round about or not, are ok: 1, 2 or 4, none beyond the last address.
func AdrOk(addr int, many int, wrap bool) bool {
	a := adrAddress(addr)
	return a.ok() && adrManyOk(many) && (wrap || a.last(many).ok())
}

// AdrBurst is the addresses of so many words, from one on; round about in a block of as many, that begins at a multiple of that, or one behind the other.
func AdrBurst(addr int, many int, wrap bool) []int {
	if !AdrOk(addr, many, wrap) {
		return nil
	}
	all := make([]int, 0, many)
	for a := range adrAddress(addr).burst(many, wrap) {
		all = append(all, int(a))
	}
	return all
}
