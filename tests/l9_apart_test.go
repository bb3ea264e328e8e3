package tests

import (
	"math"
	"slices"
	"testing"

	"loop.example/crossyard/impl"
)

func TestConstantsOfOtherOrders(t *testing.T) {
	if impl.WhyNone != 1 || impl.WhyTurn != 2 || impl.WhyWait != 3 || impl.WhyAhead != 4 || impl.WhyDone != 5 || impl.WhyTold != 6 {
		t.Fatal("a constant is not that of the table")
	}
}

// apartBoth fails unless TrcApart is that, of two things and of these the other way round.
func apartBoth(t *testing.T, c impl.BusCfg, a impl.TlmEvent, b impl.TlmEvent, want bool) {
	t.Helper()
	if one, two := impl.TrcApart(c, a, b), impl.TrcApart(c, b, a); one != want || two != want {
		t.Fatalf("%v and %v are apart: %v, the other way round %v", a, b, one, two)
	}
}

func TestP52WhatIsApartIsSoBothWays(t *testing.T) {
	met := map[[3]int]int{}
	for _, c := range orderBuses() {
		all := eventsOf(c)
		for _, a := range all {
			for _, b := range all {
				want := areApart(c, a, b)
				apartBoth(t, c, a, b, want)
				if a.Who != b.Who {
					met[[3]int{a.Kind, b.Kind, map[bool]int{true: 1}[want]}]++
				}
			}
		}
	}
	for _, a := range allHappens {
		for _, b := range allHappens {
			never, always := a == 3 && b == 3, a != b || a == 1
			if never != (met[[3]int{a, b, 1}] == 0) || always != (met[[3]int{a, b, 0}] == 0) {
				t.Errorf("Kinds %d and %d are apart %d times, and are not %d times", a, b, met[[3]int{a, b, 1}], met[[3]int{a, b, 0}])
			}
		}
	}
}

func TestP52NothingIsApartFromItself(t *testing.T) {
	for _, c := range orderBuses() {
		for _, e := range eventsOf(c) {
			apartBoth(t, c, e, e, false)
			for n := range c.Progs[e.Who] {
				for _, kind := range allHappens {
					apartBoth(t, c, e, event(kind, e.Who, n), false)
				}
			}
		}
	}
}

func TestTrcApartByHand(t *testing.T) {
	c := meetBus()
	for _, x := range []struct {
		a    impl.TlmEvent
		b    impl.TlmEvent
		want bool
	}{
		{event(1, 0, 0), event(1, 1, 0), true},
		{event(1, 0, 6), event(2, 1, 6), true},
		{event(1, 0, 6), event(3, 2, 5), true},
		{event(2, 0, 0), event(3, 1, 0), true},
		{event(3, 0, 0), event(3, 1, 0), false},
		{event(3, 0, 6), event(3, 2, 1), false},
		// 14, 15, 12 and 13 meet 14 and 15, 13, 12 to 15, 14, and 15 and 16; not 62 and 63, nor 16.
		{event(2, 0, 0), event(2, 1, 0), false},
		{event(2, 0, 0), event(2, 1, 1), false},
		{event(2, 0, 0), event(2, 1, 2), true},
		{event(2, 0, 0), event(2, 1, 3), false},
		{event(2, 0, 0), event(2, 1, 4), false},
		{event(2, 0, 0), event(2, 1, 5), true},
		{event(2, 0, 0), event(2, 1, 6), false},
		// 60 to 63, of which there is no store, meet 62 and 63, and 63.
		{event(2, 0, 2), event(2, 1, 2), false},
		{event(2, 0, 2), event(2, 2, 1), false},
		{event(2, 0, 2), event(2, 1, 0), true},
		// 16 and 17, which can but be read, meet what writes, and reads, 16.
		{event(2, 0, 3), event(2, 1, 5), false},
		{event(2, 0, 3), event(2, 1, 6), false},
		{event(2, 0, 3), event(2, 1, 0), true},
		// 15 and 14, round about, meet 15, and not 13.
		{event(2, 0, 4), event(2, 2, 0), false},
		{event(2, 0, 4), event(2, 1, 1), true},
		// 6 to 9 meet 7, 4, 5 and 6, and 9.
		{event(2, 0, 6), event(2, 2, 2), false},
		{event(2, 0, 6), event(2, 2, 5), false},
		{event(2, 2, 2), event(2, 1, 0), true},
		// What reads one address twice, and what holds one that another one tries.
		{event(2, 1, 4), event(2, 0, 5), false},
		{event(2, 1, 4), event(2, 2, 3), true},
		{event(2, 2, 4), event(2, 0, 5), true},
	} {
		apartBoth(t, c, x.a, x.b, x.want)
	}
}

// Where nothing would turn things are not apart still: two that but read one address, that write where they may not, or where there is no store.
func TestTrcApartGoesByAddressesAlone(t *testing.T) {
	for _, list := range append(okMaps(), doMaps()...) {
		c := busOf(list, []impl.ReqReq{readOf(3), writeOf(17, 1, 3), holdOf(0, 60), writeOf(20, 5, 0)}, []impl.ReqReq{readOf(3), writeOf(17, 1, 3), holdOf(0, 60), tryOf(0, 20, 5, 0)}, nil)
		for n := range 4 {
			for other := range 4 {
				apartBoth(t, c, event(2, 0, n), event(2, 1, other), n != other)
			}
		}
	}
}

// burstAsks are all bursts that there are, each asked by a Kind and a name of another turn.
func burstAsks(turn int) []impl.ReqReq {
	var all []impl.ReqReq
	for _, many := range burstSizes {
		for _, wrap := range []bool{false, true} {
			for addr := 0; addr <= 63; addr++ {
				if goesOn(addr, many, wrap) {
					kinds := []int{impl.ReqRead, impl.ReqWrite, impl.ReqHold, impl.ReqTry}
					if many > 1 {
						kinds = kinds[:2]
					}
					all = append(all, askFor(turn%2, kinds[(len(all)+turn)%len(kinds)], addr, many, wrap))
				}
			}
		}
	}
	return all
}

func TestTrcApartOfAllBursts(t *testing.T) {
	shared := map[[2]int]int{}
	first, second := burstAsks(0), burstAsks(3)
	for from := 0; from < len(first); from += 12 {
		for to := 0; to < len(second); to += 12 {
			c := busOf(doMaps()[0], nil, first[from:min(from+12, len(first))], second[to:min(to+12, len(second))])
			for n, a := range c.Progs[1] {
				for m, b := range c.Progs[2] {
					other, meet := burstOf(b), 0
					for _, addr := range burstOf(a) {
						if slices.Contains(other, addr) {
							meet++
						}
					}
					shared[[2]int{len(other), meet}]++
					if got := impl.TrcApart(c, event(2, 1, n), event(2, 2, m)); got != (meet == 0) {
						t.Fatalf("%v and %v are apart: %v", a, b, got)
					}
				}
			}
		}
	}
	if len(shared) != 2+3+5 {
		t.Fatalf("of bursts of each size addresses were shared: %v", shared)
	}
}

func TestTrcApartOfABusThatIsNotOk(t *testing.T) {
	for _, c := range wrongBuses() {
		for _, a := range allHappens {
			for _, b := range allHappens {
				apartBoth(t, c, event(a, 0, 0), event(b, 1, 0), false)
				apartBoth(t, c, event(a, 2, 3), event(b, 1, 7), false)
			}
		}
	}
}

// What is no Kind of something that is asked is apart from nothing, be it the first or the second of two, or both.
func TestTrcApartOfWhatIsNotAsked(t *testing.T) {
	for _, c := range orderBuses() {
		none, some := noEvents(c), eventsOf(c)
		for k, wrong := range none {
			for _, e := range some {
				if e.N < 2 {
					apartBoth(t, c, wrong, e, false)
				}
			}
			apartBoth(t, c, wrong, wrong, false)
			apartBoth(t, c, wrong, none[k*7%len(none)], false)
		}
	}
}

func TestTrcApartAtTheEndsOfWhatIsAsked(t *testing.T) {
	c := busOf(doMaps()[0], walk(3, 12), walk(4, 1), nil)
	for _, n := range []int{math.MinInt, -1, 0, 11, 12, math.MaxInt} {
		apartBoth(t, c, event(1, 0, n), event(3, 1, 0), n == 0 || n == 11)
		apartBoth(t, c, event(1, 0, 0), event(3, 1, n), n == 0)
		apartBoth(t, c, event(1, 0, 0), event(3, 2, n), false)
		apartBoth(t, c, event(1, n, 0), event(3, 1, 0), n == 0)
		apartBoth(t, c, event(n, 0, 0), event(3, 1, 0), false)
	}
}

// mayNext is what may happen where a bus stands so. That the program lets happen just the same P28 keeps.
func mayNext(c impl.BusCfg, s impl.TlmState) []impl.TlmEvent {
	return slices.DeleteFunc(eventsOf(c), func(e impl.TlmEvent) bool { return !mayAsSaid(c, s, e) })
}

func TestP10WhatIsApartMayHappenInEitherOrder(t *testing.T) {
	met := map[[2]int]int{}
	eachStand(func(at stand) {
		for _, a := range mayNext(at.bus, at.state) {
			one, _ := impl.TlmStep(at.bus, at.state, a)
			for _, b := range mayNext(at.bus, one) {
				if !impl.TrcApart(at.bus, a, b) {
					continue
				}
				met[[2]int{a.Kind, b.Kind}]++
				both, n := impl.TlmRun(at.bus, at.state, []impl.TlmEvent{a, b})
				other, m := impl.TlmRun(at.bus, at.state, []impl.TlmEvent{b, a})
				if n != 2 || m != 2 || !sameStand(other, both) {
					t.Fatalf("behind %v %v and %v lead to %v and %d, the other way round to %v and %d", at.events, a, b, both, n, other, m)
				}
			}
		}
	})
	if len(met) != 8 {
		t.Fatalf("not each two Kinds were looked at: %v", met)
	}
}

// What is not apart makes a difference: to some it matters what is done, or told, first.
func TestP10WhatIsNotApartMakesADifference(t *testing.T) {
	differ := map[int]int{}
	eachStand(func(at stand) {
		may := mayNext(at.bus, at.state)
		for _, a := range may {
			for _, b := range may {
				if a.Who == b.Who || a.Kind != b.Kind || impl.TrcApart(at.bus, a, b) {
					continue
				}
				one, n := impl.TlmRun(at.bus, at.state, []impl.TlmEvent{a, b})
				two, m := impl.TlmRun(at.bus, at.state, []impl.TlmEvent{b, a})
				if n == 2 && m == 2 && !sameStand(one, two) {
					differ[a.Kind]++
				}
			}
		}
	})
	if differ[impl.TlmDo] == 0 || differ[impl.TlmTell] == 0 {
		t.Fatalf("of what is not apart these made a difference: %v", differ)
	}
}
