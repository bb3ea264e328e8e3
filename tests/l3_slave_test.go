package tests

import (
	"slices"
	"testing"

	"loop.example/crossyard/impl"
)

func TestP21StoresByHand(t *testing.T) {
	list := []impl.MapRange{{From: 0, To: 15}, {From: 16, To: 31, Slave: 1}, {From: 33, To: 47, Slave: 2, Only: true}, {From: 48, To: 62, Slave: 2}}
	cases := []struct {
		addr, many int
		wrap       bool
		want       int
	}{
		{0, 1, false, 0}, {0, 4, false, 0}, {12, 4, false, 0}, {16, 1, false, 1}, {28, 4, false, 1}, {33, 2, false, 2}, {48, 4, false, 2}, {62, 1, false, 2},
		{13, 4, false, impl.SlvNone}, {14, 4, false, impl.SlvNone}, {15, 4, false, impl.SlvNone}, {15, 2, false, impl.SlvNone}, {14, 2, false, 0},
		{12, 4, true, 0}, {13, 4, true, 0}, {14, 4, true, 0}, {15, 4, true, 0}, {15, 2, true, 0}, {17, 2, true, 1}, {19, 4, true, 1},
		{46, 4, false, impl.SlvNone}, {47, 2, false, impl.SlvNone}, {47, 2, true, 2}, {47, 4, true, 2}, {46, 4, true, 2},
		{30, 2, false, 1}, {31, 2, false, impl.SlvNone}, {32, 1, false, impl.SlvNone}, {32, 2, false, impl.SlvNone}, {33, 2, true, impl.SlvNone}, {35, 4, true, impl.SlvNone}, {34, 2, true, 2},
		{61, 2, false, 2}, {62, 2, false, impl.SlvNone}, {63, 1, false, impl.SlvNone}, {63, 2, true, impl.SlvNone}, {61, 4, true, impl.SlvNone}, {63, 4, true, impl.SlvNone},
	}
	for _, c := range cases {
		for id := range impl.ReqIds {
			for _, kind := range allKinds {
				if isOne(kind) && c.many != 1 {
					continue
				}
				r := askFor(id, kind, c.addr, c.many, c.wrap)
				if got := impl.ReqSlave(list, r); got != c.want {
					t.Errorf("ReqSlave of %v is %d, not %d", r, got, c.want)
				}
			}
		}
	}
}

func TestP21ABurstOverTwoRangesOfOneStore(t *testing.T) {
	for slave := range impl.SlvMany {
		low, high := impl.MapRange{From: 0, To: 17, Slave: slave}, impl.MapRange{From: 18, To: 63, Slave: slave}
		for _, list := range [][]impl.MapRange{{low, high}, {high, low}} {
			for _, r := range okAsks() {
				burst := impl.AdrBurst(r.Addr, r.Many, r.Wrap)
				want := slave
				if slices.Min(burst) <= 17 && slices.Max(burst) >= 18 {
					want = impl.SlvNone
				}
				if got := impl.ReqSlave(list, r); got != want {
					t.Fatalf("ReqSlave(%v, %v) is %d, not %d", list, r, got, want)
				}
			}
		}
	}
}

func TestP21EachAskOfEachRanges(t *testing.T) {
	for _, list := range okMaps() {
		for _, r := range okAsks() {
			burst := impl.AdrBurst(r.Addr, r.Many, r.Wrap)
			got := impl.ReqSlave(list, r)
			if want := storeOfAll(list, burst); got != want {
				t.Fatalf("ReqSlave(%v, %v) is %d, not %d", list, r, got, want)
			}
			if got == impl.SlvNone {
				continue
			}
			for _, a := range burst {
				if one := impl.MapFind(list, a); one != got {
					t.Fatalf("%d of %v is of store %d, and all of it of %d", a, r, one, got)
				}
			}
		}
	}
}

// A range of which an address within a burst is left out, neither its first nor its last one, does not answer.
func TestP21AGapWithinABurst(t *testing.T) {
	for gap := range 64 {
		var list []impl.MapRange
		if gap > 0 {
			list = append(list, impl.MapRange{From: 0, To: gap - 1, Slave: 1})
		}
		if gap < 63 {
			list = append(list, impl.MapRange{From: gap + 1, To: 63, Slave: 1})
		}
		for _, r := range okAsks() {
			burst := impl.AdrBurst(r.Addr, r.Many, r.Wrap)
			if got, want := impl.ReqSlave(list, r), storeOfAll(list, burst); got != want {
				t.Fatalf("without %d ReqSlave of %v is %d, not %d", gap, r, got, want)
			}
		}
	}
}

func TestP21NoRanges(t *testing.T) {
	for _, r := range okAsks() {
		for _, list := range [][]impl.MapRange{nil, {}, make([]impl.MapRange, 0, 4)} {
			if got := impl.ReqSlave(list, r); got != impl.SlvNone {
				t.Fatalf("where there is no range ReqSlave of %v is %d", r, got)
			}
		}
	}
}

func TestP21RangesThatAreNotOk(t *testing.T) {
	for _, list := range wrongMaps() {
		for _, r := range append(okAsks(), wrongAsks()...) {
			if got := impl.ReqSlave(list, r); got != -1 {
				t.Fatalf("ReqSlave(%v, %v) is %d", list, r, got)
			}
		}
	}
}

func TestP21WhatMayNotBeAsked(t *testing.T) {
	for _, list := range okMaps() {
		for _, r := range wrongAsks() {
			if got := impl.ReqSlave(list, r); got != -1 {
				t.Fatalf("ReqSlave(%v, %v) is %d", list, r, got)
			}
		}
	}
}

func TestP21WildNumbers(t *testing.T) {
	for _, list := range okMaps() {
		for _, addr := range wildInts {
			for _, many := range wildInts {
				for _, wrap := range []bool{false, true} {
					r := impl.ReqReq{Kind: impl.ReqRead, Addr: addr, Many: many, Wrap: wrap}
					want := -1
					if goesOn(addr, many, wrap) {
						want = storeOfAll(list, impl.AdrBurst(addr, many, wrap))
					}
					if got := impl.ReqSlave(list, r); got != want {
						t.Fatalf("ReqSlave(%v, %v) is %d, not %d", list, r, got, want)
					}
				}
			}
		}
	}
}

// turned is a copy of ranges, with what can but be read turned about.
func turned(list []impl.MapRange) []impl.MapRange {
	list = slices.Clone(list)
	for k := range list {
		list[k].Only = !list[k].Only
	}
	return list
}

func TestP96WhetherARangeCanButBeRead(t *testing.T) {
	for _, list := range append(okMaps(), wrongMaps()...) {
		about := turned(list)
		for _, addr := range wildInts {
			if impl.MapFind(list, addr) != impl.MapFind(about, addr) {
				t.Errorf("%d is of another store in %v", addr, about)
			}
		}
		for addr := range 64 {
			if impl.MapFind(list, addr) != impl.MapFind(about, addr) {
				t.Errorf("%d is of another store in %v", addr, about)
			}
		}
		for _, r := range append(okAsks(), wrongAsks()...) {
			if one, other := impl.ReqSlave(list, r), impl.ReqSlave(about, r); one != other {
				t.Fatalf("ReqSlave(%v, %v) is %d, turned about %d", list, r, one, other)
			}
		}
	}
}

// The stores that answer are named here, so that what is the same for all Kinds is not the same mistake.
func TestP96ARangeThatCanButBeReadAnswersWhatWrites(t *testing.T) {
	for slave := range impl.SlvMany {
		for _, only := range []bool{false, true} {
			list := []impl.MapRange{{From: 8, To: 23, Slave: slave, Only: only}}
			for _, kind := range allKinds {
				if got := impl.ReqSlave(list, askFor(1, kind, 14, 1, false)); got != slave {
					t.Errorf("of Kind %d, Only %v: ReqSlave is %d, not %d", kind, only, got, slave)
				}
			}
		}
	}
}

func TestP97AnotherNameAsksTheSameStore(t *testing.T) {
	for _, list := range append(okMaps(), wrongMaps()...) {
		for _, r := range okAsks() {
			other := copyAsk(r)
			other.Id = 1 - r.Id
			if one, two := impl.ReqSlave(list, r), impl.ReqSlave(list, other); one != two {
				t.Fatalf("ReqSlave(%v, %v) is %d, by the other name %d", list, r, one, two)
			}
		}
	}
}

func TestP97WhatReadsAsksTheSameStore(t *testing.T) {
	for _, list := range append(okMaps(), wrongMaps()...) {
		for _, r := range okAsks() {
			if one, two := impl.ReqSlave(list, r), impl.ReqSlave(list, asRead(r)); one != two {
				t.Fatalf("ReqSlave(%v, %v) is %d, of what reads it %d", list, r, one, two)
			}
		}
	}
}

// What is asked, and the ranges, are given with numbers behind their ends, which must be neither written nor read.
func TestWhatIsAskedIsLeftAsItIs(t *testing.T) {
	for _, list := range append(okMaps(), wrongMaps()...) {
		ranges := with(with(list, impl.MapRange{From: 0, To: 63, Slave: 1}), impl.MapRange{From: 9, To: -9, Slave: 99})
		wasRanges := slices.Clone(ranges)
		for _, r := range append(someAsks(), wrongAsks()...) {
			data, lanes := append(slices.Clone(r.Data), -1, 70000), append(slices.Clone(r.Lanes), -1, 4)
			wasData, wasLanes := slices.Clone(data), slices.Clone(lanes)
			given := copyAsk(r)
			given.Data, given.Lanes = data[:len(r.Data)], lanes[:len(r.Lanes)]
			if impl.ReqOk(given) != impl.ReqOk(r) || impl.ReqSlave(ranges[:len(list)], given) != impl.ReqSlave(list, r) {
				t.Fatalf("of %v it is looked behind an end", r)
			}
			if !sameAsk(given, r) || !slices.Equal(data, wasData) || !slices.Equal(lanes, wasLanes) || !slices.Equal(ranges, wasRanges) {
				t.Fatalf("%v, or %v, was turned", r, wasRanges)
			}
		}
	}
}
