package tests

import (
	"slices"
	"testing"

	"loop.example/crossyard/impl"
)

// runAsSaid is what the document asks of TlmRun, of a bus that may stand so, and of at most TlmMost, said without the program.
func runAsSaid(c impl.BusCfg, s impl.TlmState, events []impl.TlmEvent) (impl.TlmState, int) {
	for n, e := range events {
		x, ok := stepAsSaid(c, s, e)
		if !ok {
			return s, n
		}
		s = x
	}
	return s, len(events)
}

// stepEach is TlmStep one by one, up to the first that may not happen.
func stepEach(c impl.BusCfg, s impl.TlmState, events []impl.TlmEvent) (impl.TlmState, int) {
	for n, e := range events {
		x, ok := impl.TlmStep(c, s, e)
		if !ok {
			return x, n
		}
		s = x
	}
	return s, len(events)
}

func TestP29ARunIsStepsOneByOne(t *testing.T) {
	eachWander(func(c impl.BusCfg, events []impl.TlmEvent) {
		want, _ := runAsSaid(c, startAsSaid(), events)
		steps, n := stepEach(c, impl.TlmNew(), events)
		got, many := impl.TlmRun(c, impl.TlmNew(), events)
		if n != len(events) || many != len(events) || !sameStand(steps, want) || !sameStand(got, want) {
			t.Fatalf("TlmRun of %v is %v and %d, one by one %v and %d, not %v", events, got, many, steps, n, want)
		}
	})
}

func TestP29TheFirstPartAndThenTheRest(t *testing.T) {
	for _, c := range okBuses() {
		for seed := range 3 {
			events := wander(c, seed)
			want, _ := impl.TlmRun(c, impl.TlmNew(), events)
			for cut := range len(events) + 1 {
				first, n := impl.TlmRun(c, impl.TlmNew(), events[:cut])
				second, m := impl.TlmRun(c, first, events[cut:])
				if n != cut || m != len(events)-cut || !sameStand(second, want) {
					t.Fatalf("%v, cut at %d, is %v, %d and %d", events, cut, second, n, m)
				}
			}
		}
	}
}

// What may not happen, at any place, is where a run stops, whatever may happen behind it.
func TestP29UpToTheFirstThatMayNot(t *testing.T) {
	for _, c := range okBuses() {
		events := wander(c, 3)
		none := noEvents(c)
		for place := range len(events) + 1 {
			ahead, _ := runAsSaid(c, startAsSaid(), events[:place])
			wrongs := []impl.TlmEvent{none[place*7%len(none)], none[place*31%len(none)]}
			if place > 0 {
				wrongs = append(wrongs, events[0], events[place-1], events[place/2])
			}
			for _, wrong := range wrongs {
				all := slices.Insert(slices.Clone(events), place, wrong)
				if got, n := impl.TlmRun(c, impl.TlmNew(), all); n != place || !sameStand(got, ahead) {
					t.Fatalf("with %v at %d of %d TlmRun is %v and %d", wrong, place, len(all), got, n)
				}
			}
		}
	}
}

// With one of what happens left out, a run stops where something leans on it; the first and the last ones, too.
func TestP29WithOneLeftOut(t *testing.T) {
	for _, c := range okBuses() {
		for seed := range 3 {
			events := wander(c, seed)
			for place := range events {
				all := slices.Delete(slices.Clone(events), place, place+1)
				want, many := runAsSaid(c, startAsSaid(), all)
				if got, n := impl.TlmRun(c, impl.TlmNew(), all); n != many || !sameStand(got, want) {
					t.Fatalf("without %v TlmRun is %v and %d, not %v and %d", events[place], got, n, want, many)
				}
			}
		}
	}
}

func TestP29WhereverABusMayStand(t *testing.T) {
	for _, c := range okBuses() {
		events := append(eventsOf(c), noEvents(c)...)
		for seed := range 60 {
			n := chance(seed * 77)
			s := strewn(c, seed)
			var all []impl.TlmEvent
			for at := s; len(all) < 20; {
				may := slices.DeleteFunc(eventsOf(c), func(e impl.TlmEvent) bool { return !mayAsSaid(c, at, e) })
				if len(may) == 0 {
					break
				}
				all = append(all, may[n.below(len(may))])
				at, _ = stepAsSaid(c, at, all[len(all)-1])
			}
			all = append(all, events[n.below(len(events))])
			want, many := runAsSaid(c, s, all)
			if got, k := impl.TlmRun(c, s, all); k != many || !sameStand(got, want) {
				t.Fatalf("TlmRun of %v from %v on is %v and %d, not %v and %d", all, s, got, k, want, many)
			}
		}
	}
}

func TestP29OfNothing(t *testing.T) {
	eachStand(func(at stand) {
		for _, none := range [][]impl.TlmEvent{nil, {}, make([]impl.TlmEvent, 0, 4)} {
			if got, n := impl.TlmRun(at.bus, at.state, none); n != 0 || !sameStand(got, at.state) {
				t.Fatalf("TlmRun of nothing is %v and %d", got, n)
			}
		}
	})
}

func TestP29AsManyAsMayBe(t *testing.T) {
	for _, c := range okBuses() {
		events := wander(c, 5)
		end, _ := runAsSaid(c, startAsSaid(), events)
		for _, size := range []int{199, 200, 201, 202, 400, 1000} {
			all := slices.Repeat([]impl.TlmEvent{{Kind: impl.TlmAsk}}, size)
			copy(all, events)
			want, many := end, len(events)
			if size > 200 {
				want, many = impl.TlmState{}, -1
			}
			if got, n := impl.TlmRun(c, impl.TlmNew(), all); n != many || !sameStand(got, want) {
				t.Errorf("TlmRun of %d things is %v and %d, not %d", size, got, n, many)
			}
		}
	}
}

func TestP29ByHand(t *testing.T) {
	c := busOf(doMaps()[0], []impl.ReqReq{writeOf(1, 300, 3), readOf(1), named(1, readOf(16))}, []impl.ReqReq{holdOf(0, 1), tryOf(0, 1, 9, 1)}, []impl.ReqReq{writeOf(16, 4, 3)})
	events := []impl.TlmEvent{{Kind: 1, Who: 1}, {Kind: 1}, {Kind: 1, N: 1}, {Kind: 1, N: 2}, {Kind: 2, N: 2}, {Kind: 2}, {Kind: 2, Who: 1}, {Kind: 1, Who: 1, N: 1}, {Kind: 2, Who: 1, N: 1}, {Kind: 1, Who: 2}, {Kind: 2, Who: 2}, {Kind: 3, Who: 2}, {Kind: 3, N: 2}, {Kind: 2, N: 1}, {Kind: 3}}
	atm := impl.AtmNew()
	atm.Mem.Words[1] = 265
	want := impl.TlmState{
		Atm:   atm,
		Asked: []int{3, 2, 1},
		Done: []impl.TlmJob{
			{N: 1, Rsp: impl.RspRsp{Code: impl.RspOkay, Data: []int{265}}},
			{Who: 1, Rsp: impl.RspRsp{Code: impl.RspHeld, Data: []int{300}}},
			{Who: 1, N: 1, Rsp: impl.RspRsp{Code: impl.RspHeld}},
		},
		Told: []impl.TlmJob{
			{Who: 2, Rsp: impl.RspRsp{Code: impl.RspDeny}},
			{N: 2, Rsp: impl.RspRsp{Id: 1, Code: impl.RspOkay, Data: []int{0}}},
			{Rsp: impl.RspRsp{Code: impl.RspOkay}},
		},
	}
	if got, n := impl.TlmRun(c, impl.TlmNew(), events); n != len(events) || !sameStand(got, want) {
		t.Fatalf("it stands as %v behind %d", got, n)
	}
	wait := impl.TlmState{Atm: impl.AtmNew(), Asked: []int{2, 1, 0}, Wait: []impl.TlmJob{{}, {N: 1}, {Who: 1}}}
	if got, n := impl.TlmRun(c, impl.TlmNew(), append(events[:3:3], impl.TlmEvent{Kind: 2, N: 1})); n != 3 || !sameStand(got, wait) {
		t.Fatalf("it stands as %v behind %d", got, n)
	}
}
