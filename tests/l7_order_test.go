package tests

import (
	"math"
	"slices"
	"testing"

	"loop.example/crossyard/impl"
)

// ordered fails unless AtmOrder is what the document asks for.
func ordered(t *testing.T, c impl.BusCfg, events []impl.TlmEvent) (impl.AtmState, []impl.TlmJob) {
	t.Helper()
	atm, all := impl.AtmOrder(c, events)
	wantAtm, want := orderAsSaid(c, events)
	if !sameState(atm, wantAtm) || !sameJobs(all, want) {
		t.Fatalf("AtmOrder of %v is %v and %v, not %v and %v", events, atm, all, wantAtm, want)
	}
	return atm, all
}

// orderIsNothing fails unless AtmOrder is nothing and none.
func orderIsNothing(t *testing.T, c impl.BusCfg, events []impl.TlmEvent) {
	t.Helper()
	if atm, all := impl.AtmOrder(c, events); !sameState(atm, impl.AtmState{}) || len(all) != 0 {
		t.Fatalf("AtmOrder of %d events is %v and %v", len(events), atm, all)
	}
}

func TestP4WhatIsToldIsWhatCameOfItAtOnce(t *testing.T) {
	eachWander(func(c impl.BusCfg, events []impl.TlmEvent) {
		for many := 0; many <= len(events); many += 1 + many/6 {
			x, n := impl.TlmRun(c, impl.TlmNew(), events[:many])
			atm, all := impl.AtmOrder(c, events[:many])
			came := slices.Concat(x.Done, x.Told)
			if n != many || !sameState(atm, x.Atm) || len(all) != len(came) {
				t.Fatalf("behind %v it stands as %v, and one thing at once leaves %v and %v", events[:many], x, atm, all)
			}
			for _, j := range came {
				if at := jobAt(all, j.Who, j.N); at < 0 || !sameJob(all[at], j) {
					t.Fatalf("what came of %v is not in %v", j, all)
				}
			}
		}
	})
}

// The order is that in which things are done, not that in which they are asked, or told.
func TestP4InTheOrderInWhichTheyAreDone(t *testing.T) {
	c := busOf(doMaps()[0], []impl.ReqReq{writeOf(1, 5, 3)}, []impl.ReqReq{writeOf(1, 6, 3)}, []impl.ReqReq{readOf(1)})
	asks := []impl.TlmEvent{event(1, 0, 0), event(1, 1, 0), event(1, 2, 0)}
	for _, x := range []struct {
		order []int
		word  int
		read  int
	}{{[]int{0, 1, 2}, 6, 6}, {[]int{1, 0, 2}, 5, 5}, {[]int{2, 1, 0}, 5, 0}, {[]int{0, 2, 1}, 6, 5}} {
		events := slices.Clone(asks)
		for _, who := range x.order {
			events = append(events, event(2, who, 0))
		}
		events = append(events, event(3, 2, 0), event(3, 1, 0), event(3, 0, 0))
		s, n := impl.TlmRun(c, impl.TlmNew(), events)
		atm, all := ordered(t, c, events)
		if n != 9 || atm.Mem.Words[1] != x.word || !sameState(s.Atm, atm) || !slices.Equal(s.Told[0].Rsp.Data, []int{x.read}) {
			t.Fatalf("in the order %v it stands as %v", x.order, s)
		}
		for k, who := range x.order {
			if all[k].Who != who {
				t.Fatalf("in the order %v %v is done", x.order, all)
			}
		}
	}
}

// dosOf is what is done of what happens.
func dosOf(c impl.BusCfg) []impl.TlmEvent {
	return ofKind(eventsOf(c), impl.TlmDo)
}

// mixed is a list in another order.
func mixed(events []impl.TlmEvent, seed int) []impl.TlmEvent {
	n := chance(seed*331 + 7)
	events = slices.Clone(events)
	for k := range events {
		other := k + n.below(len(events)-k)
		events[k], events[other] = events[other], events[k]
	}
	return events
}

func TestP43InWhichOrderThingsAreDoneIsWhatIsTold(t *testing.T) {
	eachWander(func(c impl.BusCfg, events []impl.TlmEvent) {
		atm, all := ordered(t, c, events)
		does := ofKind(events, impl.TlmDo)
		justAtm, just := impl.AtmOrder(c, does)
		if !sameState(atm, justAtm) || !sameJobs(all, just) || len(all) != len(does) {
			t.Fatalf("of just what is done of %v it is %v", events, just)
		}
		s := impl.AtmNew()
		for k, e := range does {
			var rsp impl.RspRsp
			s, rsp = impl.AtmDo(c.Map, s, e.Who, c.Progs[e.Who][e.N])
			if !sameJob(all[k], impl.TlmJob{Who: e.Who, N: e.N, Rsp: rsp}) {
				t.Fatalf("of %v it is %v, and at once %v", e, all[k], rsp)
			}
		}
		if !sameState(s, atm) {
			t.Fatalf("one at once leaves %v, not %v", s, atm)
		}
	})
}

func TestAtmOrderOfAnyOrder(t *testing.T) {
	differ := 0
	for _, c := range append(okBuses(), apartBuses()...) {
		first, _ := impl.AtmOrder(c, dosOf(c))
		for seed := range 25 {
			if atm, _ := ordered(t, c, mixed(dosOf(c), seed)); !sameState(atm, first) {
				differ++
			}
		}
		reversed := dosOf(c)
		slices.Reverse(reversed)
		ordered(t, c, reversed)
	}
	if differ == 0 {
		t.Fatal("all orders leave the same")
	}
}

func TestAtmOrderOfCycTrace(t *testing.T) {
	for _, j := range slices.Concat(journeys(), flows()) {
		trace := impl.CycTrace(j.bus, impl.CycNew(), j.ins)
		atm, all := ordered(t, j.bus, trace)
		if !sameState(atm, j.end().Atm) || len(all) != len(ofKind(trace, impl.TlmDo)) {
			t.Fatalf("AtmOrder of %v is %v and %v", trace, atm, all)
		}
	}
}

func TestAtmOrderOfNothing(t *testing.T) {
	for _, c := range okBuses() {
		for _, none := range [][]impl.TlmEvent{nil, {}} {
			if atm, all := impl.AtmOrder(c, none); !sameState(atm, startAsSaid().Atm) || len(all) != 0 {
				t.Fatalf("AtmOrder of nothing is %v and %v", atm, all)
			}
		}
		others := slices.DeleteFunc(eventsOf(c), func(e impl.TlmEvent) bool { return e.Kind == 2 })
		if atm, all := impl.AtmOrder(c, others); !sameState(atm, startAsSaid().Atm) || len(all) != 0 {
			t.Fatalf("AtmOrder of what is asked and told is %v and %v", atm, all)
		}
	}
}

// What is done twice is done twice, the second time behind the first.
func TestAtmOrderOfTheSameTwice(t *testing.T) {
	c := busOf(doMaps()[0], []impl.ReqReq{holdOf(1, 1), tryOf(1, 1, 7, 3)}, nil, nil)
	_, all := ordered(t, c, []impl.TlmEvent{event(2, 0, 1), event(2, 0, 0), event(2, 0, 1), event(2, 0, 1), event(2, 0, 0), event(2, 0, 0)})
	want := []impl.RspRsp{{Id: 1, Code: 1}, {Id: 1, Code: 2, Data: []int{0}}, {Id: 1, Code: 2}, {Id: 1, Code: 1}, {Id: 1, Code: 2, Data: []int{7}}, {Id: 1, Code: 2, Data: []int{7}}}
	if len(all) != 6 {
		t.Fatalf("of six that are done there are %v", all)
	}
	for k, j := range all {
		if !sameRsp(j.Rsp, want[k]) {
			t.Errorf("of the %d. comes %v", k, j)
		}
	}
	for _, c := range okBuses() {
		for _, e := range dosOf(c) {
			ordered(t, c, []impl.TlmEvent{e, e})
		}
	}
}

// What is no Kind, and nobody's, and nothing that is asked, is left out, wherever it stands.
func TestAtmOrderOfWhatIsNotAskedBetweenOthers(t *testing.T) {
	for _, c := range okBuses() {
		does := dosOf(c)
		wantAtm, want := impl.AtmOrder(c, does)
		for k, none := range noEvents(c) {
			place := k % (len(does) + 1)
			atm, all := impl.AtmOrder(c, slices.Insert(slices.Clone(does), place, none))
			if !sameState(atm, wantAtm) || !sameJobs(all, want) {
				t.Fatalf("with %v at %d AtmOrder is %v and %v", none, place, atm, all)
			}
		}
	}
	c := busOf(doMaps()[0], []impl.ReqReq{writeOf(1, 5, 3)}, nil, []impl.ReqReq{readOf(1)})
	for _, n := range []int{math.MinInt, -1, 1, math.MaxInt} {
		events := []impl.TlmEvent{event(2, 0, n), event(2, 0, 0), event(2, n, 0), event(2, n, n), event(2, 2, n), event(n, 2, 0), event(2, 2, 0), event(2, 1, 0)}
		if _, all := ordered(t, c, events); len(all) != 2 || all[0].Who != 0 || all[1].Rsp.Data[0] != 5 {
			t.Fatalf("with %d between AtmOrder is %v", n, all)
		}
	}
}

func TestAtmOrderOfAsManyAsMayBe(t *testing.T) {
	for _, c := range append(okBuses(), crowdedBuses()...) {
		for _, e := range []impl.TlmEvent{event(2, 0, 0), event(1, 0, 0), event(3, 2, 1), event(2, 7, 0), event(0, 0, 0)} {
			for _, many := range []int{1, 107, 108} {
				ordered(t, c, slices.Repeat([]impl.TlmEvent{e}, many))
			}
			for _, many := range []int{109, 110, 200, 201, 400} {
				orderIsNothing(t, c, slices.Repeat([]impl.TlmEvent{e}, many))
			}
		}
	}
	c := crowdedBuses()[2]
	all := eventsOf(c)
	if len(all) != 108 {
		t.Fatalf("of all that is asked %d may happen", len(all))
	}
	if _, did := ordered(t, c, mixed(all, 1)); len(did) != 36 {
		t.Fatalf("of all that may be asked %v is done", did)
	}
	orderIsNothing(t, c, append(all, event(1, 0, 0)))
}

func TestAtmOrderOfABusThatIsNotOk(t *testing.T) {
	for _, c := range wrongBuses() {
		orderIsNothing(t, c, nil)
		orderIsNothing(t, c, []impl.TlmEvent{})
		orderIsNothing(t, c, []impl.TlmEvent{event(2, 0, 0), event(2, 1, 1), event(1, 0, 0)})
		orderIsNothing(t, c, slices.Repeat([]impl.TlmEvent{event(2, 2, 0)}, 109))
	}
}

// anyJobs are such as were told, and such as nobody may be told.
func anyJobs(many int) []impl.TlmJob {
	var all []impl.TlmJob
	n := chance(many)
	for k := range many {
		who := []int{0, 1, 2, 2, 1, 0, -1, 3, math.MinInt, math.MaxInt}[n.below(10)]
		all = append(all, impl.TlmJob{Who: who, N: wildInts[k%len(wildInts)], Rsp: impl.RspRsp{Id: k - 5, Code: k - 9, Data: wildInts[:n.below(7)]}})
	}
	return all
}

func TestP46WhatEachWasToldIsAllThatWasTold(t *testing.T) {
	for _, j := range journeys() {
		for k := 0; k < len(j.stands); k += 7 {
			told, many := j.stands[k].Told, 0
			for who := range 3 {
				own := impl.ToldOf(told, who)
				if !sameJobs(own, toldTo(told, who)) {
					t.Fatalf("of %v %d was told %v", told, who, own)
				}
				many += len(own)
			}
			if many != len(told) {
				t.Fatalf("of %v %d was told to somebody", told, many)
			}
		}
	}
}

func TestToldOfAny(t *testing.T) {
	for many := range 90 {
		list := anyJobs(many)
		sum := 0
		for _, who := range []int{0, 1, 2, -1, 3, math.MinInt, math.MaxInt} {
			own := impl.ToldOf(list, who)
			if !sameJobs(own, toldTo(list, who)) {
				t.Fatalf("of %v %d was told %v", list, who, own)
			}
			sum += len(own)
		}
		if sum != many {
			t.Fatalf("of %d that was told %d was told to somebody", many, sum)
		}
	}
}

func TestToldOfNobody(t *testing.T) {
	told := crossed().Told
	for _, who := range noWho {
		if got := impl.ToldOf(told, who); len(got) != 0 {
			t.Fatalf("%d was told %v", who, got)
		}
	}
	for _, who := range append(noWho, allWho...) {
		for _, none := range [][]impl.TlmJob{nil, {}, told[:0]} {
			if got := impl.ToldOf(none, who); len(got) != 0 {
				t.Fatalf("of nothing %d was told %v", who, got)
			}
		}
	}
	if got := impl.ToldOf(told, 2); len(got) != 0 {
		t.Fatalf("who was told nothing was told %v", got)
	}
}
