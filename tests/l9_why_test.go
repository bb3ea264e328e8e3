package tests

import (
	"math"
	"slices"
	"testing"

	"loop.example/crossyard/impl"
)

// whyIs fails unless something may not happen for that reason; or, of 0, unless it may.
func whyIs(t *testing.T, c impl.BusCfg, s impl.TlmState, e impl.TlmEvent, want int) {
	t.Helper()
	if got := impl.TrcWhy(c, s, e); got != want {
		t.Fatalf("where %v wait, %v are done, %v were told, of %v TrcWhy is %d, not %d", s.Wait, s.Done, s.Told, e, got, want)
	}
	if _, ok := impl.TlmStep(c, s, e); ok != (want == 0) {
		t.Fatalf("of %v TrcWhy is %d, and it may happen: %v", e, want, ok)
	}
}

func TestP55WhatMayNotHappenHasAReason(t *testing.T) {
	met := map[[2]int]int{}
	eachStand(func(at stand) {
		for _, e := range eventsOf(at.bus) {
			want := whyAsSaid(at.bus, at.state, e)
			met[[2]int{e.Kind, want}]++
			if got := impl.TrcWhy(at.bus, at.state, e); got != want {
				t.Fatalf("behind %v of %v TrcWhy is %d, not %d", at.events, e, got, want)
			}
		}
	})
	for _, way := range [][2]int{{1, 0}, {1, 2}, {2, 0}, {2, 3}, {2, 4}, {3, 0}, {3, 5}, {3, 6}} {
		if met[way] == 0 {
			t.Errorf("of Kind %d there was never the reason %d", way[0], way[1])
		}
	}
	if len(met) != 8 {
		t.Errorf("there were the reasons %v", met)
	}
}

// Also where a bus cannot come to stand from its beginning on, but may stand so: done behind what waits, asked of one that was told.
func TestP55WhereverABusMayStand(t *testing.T) {
	met := map[int]int{}
	for _, c := range okBuses() {
		for seed := range 40 {
			s := strewn(c, seed)
			for _, e := range eventsOf(c) {
				want := whyAsSaid(c, s, e)
				whyIs(t, c, s, e, want)
				met[want]++
			}
		}
	}
	if len(met) != 6 {
		t.Fatalf("there were the reasons %v", met)
	}
}

func TestP55OfWhatIsNotAsked(t *testing.T) {
	for _, c := range smallBuses() {
		for _, at := range standsOf(c) {
			for _, e := range noEvents(c) {
				if got := impl.TrcWhy(c, at.state, e); got != impl.WhyNone {
					t.Fatalf("of %v, which is none, TrcWhy is %d", e, got)
				}
			}
		}
	}
	for _, c := range greatBuses() {
		for k, at := range standsAlong(c, wander(c, 1)) {
			if k%20 == 0 {
				for _, e := range noEvents(c) {
					whyIs(t, c, at.state, e, impl.WhyNone)
				}
			}
		}
	}
}

// byTwoNames is a bus on which 0 and 1 ask the same by names 0, 1, 0, 1, 0, and how it stands behind 0 has asked four things and 1 five.
func byTwoNames(t *testing.T, more ...[3]int) (impl.BusCfg, impl.TlmState) {
	t.Helper()
	all := []impl.ReqReq{readOf(1), named(1, readOf(2)), readOf(3), named(1, readOf(4)), readOf(5)}
	c := busOf(doMaps()[0], all, all, nil)
	var asks [][3]int
	for n := range 5 {
		asks = append(asks, [3]int{1, 1, n})
		if n < 4 {
			asks = append(asks, [3]int{1, 0, n})
		}
	}
	return c, happened(t, c, append(asks, more...)...)
}

func TestP55OfWhatIsAsked(t *testing.T) {
	c, s := byTwoNames(t)
	for n, want := range []int{2, 2, 2, 2, 0, 1} {
		whyIs(t, c, s, event(1, 0, n), want)
	}
	for n, want := range []int{2, 2, 2, 2, 2, 1} {
		whyIs(t, c, s, event(1, 1, n), want)
	}
	whyIs(t, c, s, event(1, 2, 0), 1)
	for n, want := range []int{0, 2, 2, 2, 2, 1} {
		whyIs(t, c, impl.TlmNew(), event(1, 0, n), want)
	}
}

// Of the same name of another who asks, and of another name of the same one, things may wait ahead.
func TestP55OfWhatIsDone(t *testing.T) {
	c, s := byTwoNames(t)
	for n, want := range []int{0, 0, 4, 4, 3} {
		whyIs(t, c, s, event(2, 0, n), want)
	}
	for n, want := range []int{0, 0, 4, 4, 4} {
		whyIs(t, c, s, event(2, 1, n), want)
	}
	c, s = byTwoNames(t, [3]int{2, 0, 0}, [3]int{2, 1, 1})
	for n, want := range []int{3, 0, 0, 4, 3, 1} {
		whyIs(t, c, s, event(2, 0, n), want)
	}
	for n, want := range []int{0, 3, 4, 0, 4, 1} {
		whyIs(t, c, s, event(2, 1, n), want)
	}
	c, s = byTwoNames(t, [3]int{2, 0, 0}, [3]int{3, 0, 0}, [3]int{2, 0, 2})
	for n, want := range []int{3, 0, 3, 4, 3} {
		whyIs(t, c, s, event(2, 0, n), want)
	}
	whyIs(t, c, impl.TlmNew(), event(2, 0, 0), 3)
}

func TestP55OfWhatIsTold(t *testing.T) {
	c, s := byTwoNames(t)
	for n := range 5 {
		whyIs(t, c, s, event(3, 0, n), 5)
		whyIs(t, c, s, event(3, 1, n), 5)
		whyIs(t, c, impl.TlmNew(), event(3, 1, n), 5)
	}
	c, s = byTwoNames(t, [3]int{2, 0, 0}, [3]int{2, 0, 2}, [3]int{2, 0, 1}, [3]int{2, 1, 1})
	for n, want := range []int{0, 0, 6, 5, 5} {
		whyIs(t, c, s, event(3, 0, n), want)
	}
	for n, want := range []int{5, 0, 5, 5, 5} {
		whyIs(t, c, s, event(3, 1, n), want)
	}
	c, s = byTwoNames(t, [3]int{2, 0, 0}, [3]int{2, 0, 2}, [3]int{3, 0, 0}, [3]int{2, 0, 1}, [3]int{2, 0, 3})
	for n, want := range []int{5, 0, 0, 6, 5} {
		whyIs(t, c, s, event(3, 0, n), want)
	}
}

// What is done though something of its name waits ahead of it cannot come to be, but may stand so: it may not be told.
func TestP55OfWhatIsDoneAheadOfWhatWaits(t *testing.T) {
	c, _ := byTwoNames(t)
	s := startAsSaid()
	s.Asked[1] = 4
	s.Wait = []impl.TlmJob{{Who: 1}, {Who: 1, N: 1}}
	s.Done = []impl.TlmJob{{Who: 1, N: 2, Rsp: impl.RspRsp{Code: 1}}, {Who: 1, N: 3, Rsp: impl.RspRsp{Id: 1, Code: 2}}}
	for n, want := range []int{5, 5, 6, 6, 5} {
		whyIs(t, c, s, event(3, 1, n), want)
	}
	s.Asked[1], s.Wait, s.Told = 3, s.Wait[1:], []impl.TlmJob{{Who: 1, Rsp: impl.RspRsp{Code: 1}}}
	s.Done = s.Done[:1]
	whyIs(t, c, s, event(3, 1, 2), 0)
	whyIs(t, c, s, event(2, 1, 1), 0)
}

// The last thing that one asks, and one behind it.
func TestP55AtTheEndOfWhatIsAsked(t *testing.T) {
	for _, c := range greatBuses() {
		for who, prog := range c.Progs {
			last := len(prog) - 1
			if last < 0 {
				continue
			}
			s := startAsSaid()
			for n := range last {
				s, _ = stepAsSaid(c, s, event(1, who, n))
			}
			whyIs(t, c, s, event(1, who, last), 0)
			s, _ = stepAsSaid(c, s, event(1, who, last))
			whyIs(t, c, s, event(1, who, last), impl.WhyTurn)
			for kind := 1; kind <= 3; kind++ {
				whyIs(t, c, s, event(kind, who, last+1), impl.WhyNone)
				whyIs(t, c, s, event(kind, who, math.MaxInt), impl.WhyNone)
				whyIs(t, c, s, event(kind, who, -1), impl.WhyNone)
			}
		}
	}
}

// Where a bus may not stand so nothing may happen for another reason.
func TestP55WhereABusMayNotStandSo(t *testing.T) {
	c, s := midway()
	for _, turn := range wrongStands() {
		x := copyStand(s)
		turn(&x)
		if impl.TlmOk(c, x) {
			t.Fatalf("the test is wrong: it may stand so: %v", x)
		}
		for _, e := range append(eventsOf(c), noEvents(c)[:40]...) {
			if got := impl.TrcWhy(c, x, e); got != impl.WhyNone {
				t.Fatalf("where a bus may not stand so, %v, of %v TrcWhy is %d", x, e, got)
			}
		}
	}
	for _, e := range eventsOf(c) {
		if got := impl.TrcWhy(c, impl.TlmState{}, e); got != impl.WhyNone {
			t.Fatalf("of nothing that stands TrcWhy of %v is %d", e, got)
		}
	}
}

// wrongStands are each one part of how midway stands turned about, so that it may not stand so.
func wrongStands() []func(s *impl.TlmState) {
	all := []func(s *impl.TlmState){
		func(s *impl.TlmState) { s.Atm.Mem.Words = s.Atm.Mem.Words[:63] },
		func(s *impl.TlmState) { s.Atm.Mem.Words[40] = 65536 },
		func(s *impl.TlmState) { s.Atm.Holds = s.Atm.Holds[:5] },
		func(s *impl.TlmState) { s.Atm.Holds[2] = 64 },
		func(s *impl.TlmState) { s.Asked = s.Asked[:2] },
		func(s *impl.TlmState) { s.Asked = append(s.Asked, 0) },
		func(s *impl.TlmState) { s.Wait[0].Rsp.Code = 1 },
		func(s *impl.TlmState) { slices.Reverse(s.Wait) },
		func(s *impl.TlmState) { slices.Reverse(s.Done) },
	}
	for who := range 3 {
		for _, asked := range []int{math.MinInt, -1, 8, 13, math.MaxInt} {
			all = append(all, func(s *impl.TlmState) { s.Asked[who] = asked })
		}
	}
	for _, place := range allPlaces() {
		all = append(all,
			func(s *impl.TlmState) { *place.of(s) = (*place.of(s))[1:] },
			func(s *impl.TlmState) { *place.of(s) = append(*place.of(s), (*place.of(s))[0]) },
			func(s *impl.TlmState) { (*place.of(s))[0].Who = 3 },
			func(s *impl.TlmState) { (*place.of(s))[0].Who = -1 },
			func(s *impl.TlmState) { (*place.of(s))[0].N = 12 },
			func(s *impl.TlmState) { (*place.of(s))[0].N = -1 },
			func(s *impl.TlmState) { (*place.of(s))[1].Rsp = impl.RspRsp{Id: 2, Code: 1} },
		)
	}
	return all
}

func TestP55OfABusThatIsNotOk(t *testing.T) {
	right := greatBuses()[0]
	stands := standsAlong(right, wander(right, 0))
	for _, c := range wrongBuses() {
		for _, s := range []impl.TlmState{impl.TlmNew(), stands[40].state, {}} {
			for _, e := range append(eventsOf(right), impl.TlmEvent{}, event(1, 3, 0)) {
				if got := impl.TrcWhy(c, s, e); got != impl.WhyNone {
					t.Fatalf("of a bus that is not ok TrcWhy of %v is %d", e, got)
				}
			}
		}
	}
}

// checked fails unless TrcCheck is what the document asks for, and as TlmRun and TrcWhy say.
func checked(t *testing.T, c impl.BusCfg, events []impl.TlmEvent) (int, int) {
	t.Helper()
	at, why := impl.TrcCheck(c, events)
	if wantAt, want := checkAsSaid(c, events); at != wantAt || why != want {
		t.Fatalf("TrcCheck of %v is %d and %d, not %d and %d", events, at, why, wantAt, want)
	}
	s, n := impl.TlmRun(c, impl.TlmNew(), events)
	if at < 0 && n != len(events) || at >= 0 && (n != at || impl.TrcWhy(c, s, events[at]) != why) {
		t.Fatalf("TrcCheck of %v is %d and %d, and TlmRun %d", events, at, why, n)
	}
	return at, why
}

// checkIs fails unless TrcCheck is that.
func checkIs(t *testing.T, c impl.BusCfg, events []impl.TlmEvent, at int, why int) {
	t.Helper()
	if gotAt, got := impl.TrcCheck(c, events); gotAt != at || got != why {
		t.Fatalf("TrcCheck of %d things, %v, is %d and %d, not %d and %d", len(events), events, gotAt, got, at, why)
	}
}

func TestP56WhatIsWrongFirstIsTold(t *testing.T) {
	met := map[int]int{}
	for _, c := range orderBuses() {
		for seed := range 3 {
			events := wander(c, seed)
			checkIs(t, c, events, -1, 0)
			for at := 0; at < len(events); at += 1 + len(events)/30 {
				lists := [][]impl.TlmEvent{oneAway(events, at), onceMore(events, at, events[at]), onceMore(events, at, events[len(events)-1]), onceMore(events, len(events), events[at]), onceMore(events, 0, events[at])}
				if at+1 < len(events) {
					lists = append(lists, turnedAt(events, at))
				}
				for _, list := range lists {
					_, why := checked(t, c, list)
					met[why]++
				}
			}
			_, why := checked(t, c, mixed(events, seed))
			met[why]++
		}
	}
	for why := range 7 {
		if (met[why] == 0) != (why == impl.WhyNone) {
			t.Errorf("there were the reasons %v", met)
		}
	}
}

func TestP56OfWhatIsNotAsked(t *testing.T) {
	for _, c := range orderBuses() {
		events := wander(c, 2)
		for k, wrong := range noEvents(c) {
			for _, at := range []int{0, k % (len(events) + 1), len(events)} {
				checkIs(t, c, onceMore(events, at, wrong), at, impl.WhyNone)
			}
			if len(events) > 0 {
				at := k % len(events)
				checkIs(t, c, append(onceMore(events[:at], at, wrong), event(1, 9, 9)), at, impl.WhyNone)
			}
		}
	}
}

// What stands behind the first that may not happen makes no difference.
func TestP56TheFirstOfSeveral(t *testing.T) {
	c, _ := byTwoNames(t)
	asks := []impl.TlmEvent{event(1, 0, 0), event(1, 0, 1), event(1, 0, 2), event(1, 1, 0)}
	wrongs := []struct {
		e   impl.TlmEvent
		why int
	}{{event(0, 0, 0), 1}, {event(1, 0, 2), 2}, {event(2, 0, 3), 3}, {event(2, 0, 2), 4}, {event(3, 1, 0), 5}}
	for _, one := range wrongs {
		for _, two := range wrongs {
			checkIs(t, c, slices.Concat(asks, []impl.TlmEvent{one.e, two.e, event(2, 0, 0)}), 4, one.why)
			checkIs(t, c, slices.Concat(asks[:3], []impl.TlmEvent{one.e, asks[3], two.e}), 3, one.why)
		}
	}
	checkIs(t, c, append(asks, event(2, 0, 0), event(2, 0, 2), event(3, 0, 2)), 6, 6)
}

func TestTrcCheckOfNothing(t *testing.T) {
	for _, c := range orderBuses() {
		for _, none := range [][]impl.TlmEvent{nil, {}, make([]impl.TlmEvent, 0, 9)} {
			checkIs(t, c, none, -1, 0)
		}
	}
}

func TestTrcCheckOfAsManyAsMayBe(t *testing.T) {
	for _, c := range orderBuses() {
		events := wander(c, 1)
		for _, size := range []int{199, 200, 201, 202, 400, 2000} {
			for _, more := range []impl.TlmEvent{event(1, 0, 0), event(3, 2, 11), event(0, 0, 0)} {
				all := append(slices.Clone(events), slices.Repeat([]impl.TlmEvent{more}, size-len(events))...)
				if size > 200 {
					checkIs(t, c, all, 0, impl.WhyNone)
				} else if at, why := checked(t, c, all); at != len(events) || why == 0 {
					t.Fatalf("TrcCheck of %d things is %d and %d", size, at, why)
				}
			}
		}
	}
}

func TestTrcCheckOfABusThatIsNotOk(t *testing.T) {
	right := greatBuses()[0]
	events := wander(right, 0)
	for _, c := range wrongBuses() {
		for _, list := range [][]impl.TlmEvent{nil, {}, events[:1], events, onceMore(events, 7, event(1, 0, 0)), slices.Repeat(events, 2)} {
			checkIs(t, c, list, 0, impl.WhyNone)
		}
	}
}

func TestP12CyclesDoNothingThatMayNotHappen(t *testing.T) {
	left := 0
	for k, j := range slices.Concat(journeys(), flows()) {
		trace := impl.CycTrace(j.bus, impl.CycNew(), j.ins)
		checkIs(t, j.bus, trace, -1, 0)
		if k%4 != 0 {
			continue
		}
		for at, e := range trace {
			if e.Kind != impl.TlmDo || atOf(trace, impl.TlmTell, e.Who, e.N) < 0 {
				continue
			}
			left++
			if place, why := checked(t, j.bus, oneAway(trace, at)); place < at || why == 0 {
				t.Fatalf("without %v TrcCheck of %v is %d and %d", e, trace, place, why)
			}
		}
	}
	if left == 0 {
		t.Fatal("nothing was left out")
	}
}

func TestP12WhateverComesFromOutside(t *testing.T) {
	for _, c := range traceBuses() {
		for seed := range 12 {
			checkIs(t, c, impl.CycTrace(c, impl.CycNew(), insBy(seed+20, 90)), -1, 0)
		}
	}
}

// All ask, and stores are as slow as they may be, till all is told: of what is left out each thing that was done is missed.
func TestP12ToTheEnd(t *testing.T) {
	for _, c := range crowdedBuses() {
		trace := impl.CycTrace(c, impl.CycNew(), slices.Repeat([]impl.CycIn{impl.InAll()}, 300))
		if len(trace) != 108 {
			t.Fatalf("in 300 cycles %d things happen", len(trace))
		}
		checkIs(t, c, trace, -1, 0)
		for at, e := range trace {
			place, why := checked(t, c, oneAway(trace, at))
			if e.Kind == impl.TlmDo && (place < at || why != impl.WhyDone && why != impl.WhyAhead) {
				t.Fatalf("without %v TrcCheck is %d and %d", e, place, why)
			}
		}
	}
}
