package tests

import (
	"slices"
	"testing"

	"loop.example/crossyard/impl"
)

// mustRun fails unless all of what happens may, from the beginning on.
func mustRun(t *testing.T, c impl.BusCfg, events []impl.TlmEvent) impl.TlmState {
	t.Helper()
	s, n := impl.TlmRun(c, impl.TlmNew(), events)
	if n != len(events) {
		t.Fatalf("of %v %d may happen", events, n)
	}
	return s
}

// inOrderByName says whether of what each asks by one name what is in a list rises.
func inOrderByName(c impl.BusCfg, list []impl.TlmJob) bool {
	for k, j := range list {
		for _, ahead := range list[:k] {
			if ahead.Who == j.Who && c.Progs[j.Who][ahead.N].Id == c.Progs[j.Who][j.N].Id && ahead.N >= j.N {
				return false
			}
		}
	}
	return true
}

func TestP3WhatIsOfOneNameIsToldInOrder(t *testing.T) {
	turned := 0
	eachWander(func(c impl.BusCfg, events []impl.TlmEvent) {
		s := mustRun(t, c, events)
		if !inOrderByName(c, s.Told) {
			t.Fatalf("behind %v %v was told", events, s.Told)
		}
		for k := 1; k < len(s.Told); k++ {
			if s.Told[k-1].Who == s.Told[k].Who && s.Told[k-1].N > s.Told[k].N {
				turned++
			}
		}
	})
	if turned == 0 {
		t.Fatal("nothing of two names was told in another order than it was asked")
	}
}

// Whatever the program itself lets happen, in any order in which it is tried, must keep the order of each name.
func TestP3WhateverIsTried(t *testing.T) {
	for _, c := range okBuses() {
		for seed := range 8 {
			n := chance(seed*31 + 7)
			s := impl.TlmNew()
			events := eventsOf(c)
			for range 60 * len(events) {
				if x, ok := impl.TlmStep(c, s, events[n.below(len(events))]); ok {
					s = x
				}
				if len(s.Told)*3 == len(events) {
					break
				}
			}
			if !inOrderByName(c, s.Told) {
				t.Fatalf("%v was told", s.Told)
			}
			if len(events) > 0 && len(s.Told) == 0 {
				t.Fatal("nothing was told")
			}
		}
	}
}

// twoNames is a bus on which 0 asks by names 0, 0, 1, 0, 1, and 2 by 1, 1.
func twoNames() impl.BusCfg {
	return busOf(doMaps()[0], []impl.ReqReq{readOf(1), readOf(2), named(1, readOf(3)), readOf(4), named(1, readOf(5))}, nil, []impl.ReqReq{named(1, readOf(1)), named(1, readOf(2))})
}

// happened is a bus behind what may happen, each given as Kind, Who and N.
func happened(t *testing.T, c impl.BusCfg, each ...[3]int) impl.TlmState {
	t.Helper()
	var events []impl.TlmEvent
	for _, e := range each {
		events = append(events, impl.TlmEvent{Kind: e[0], Who: e[1], N: e[2]})
	}
	return mustRun(t, c, events)
}

// justMay fails unless of all that there is just what is given may happen.
func justMay(t *testing.T, c impl.BusCfg, s impl.TlmState, each ...[3]int) {
	t.Helper()
	for _, e := range append(eventsOf(c), noEvents(c)...) {
		want := slices.Contains(each, [3]int{e.Kind, e.Who, e.N})
		if _, ok := impl.TlmStep(c, s, e); ok != want {
			t.Errorf("where %v wait, %v are done, %v were told, %v may happen: %v", s.Wait, s.Done, s.Told, e, ok)
		}
	}
}

func TestP3ByHand(t *testing.T) {
	c := twoNames()
	justMay(t, c, happened(t, c), [3]int{1, 0, 0}, [3]int{1, 2, 0})
	justMay(t, c, happened(t, c, [3]int{1, 0, 0}), [3]int{1, 0, 1}, [3]int{2, 0, 0}, [3]int{1, 2, 0})
	all := [][3]int{{1, 0, 0}, {1, 0, 1}, {1, 0, 2}, {1, 0, 3}, {1, 0, 4}, {1, 2, 0}, {1, 2, 1}}
	justMay(t, c, happened(t, c, all...), [3]int{2, 0, 0}, [3]int{2, 0, 2}, [3]int{2, 2, 0})
	all = append(all, [3]int{2, 0, 2})
	justMay(t, c, happened(t, c, all...), [3]int{2, 0, 0}, [3]int{2, 0, 4}, [3]int{3, 0, 2}, [3]int{2, 2, 0})
	all = append(all, [3]int{2, 0, 4}, [3]int{2, 0, 0})
	justMay(t, c, happened(t, c, all...), [3]int{2, 0, 1}, [3]int{3, 0, 0}, [3]int{3, 0, 2}, [3]int{2, 2, 0})
	all = append(all, [3]int{3, 0, 2}, [3]int{2, 0, 1}, [3]int{2, 0, 3}, [3]int{2, 2, 0}, [3]int{2, 2, 1})
	justMay(t, c, happened(t, c, all...), [3]int{3, 0, 0}, [3]int{3, 0, 4}, [3]int{3, 2, 0})
	all = append(all, [3]int{3, 0, 4}, [3]int{3, 0, 0}, [3]int{3, 0, 1}, [3]int{3, 0, 3}, [3]int{3, 2, 0}, [3]int{3, 2, 1})
	justMay(t, c, happened(t, c, all...))
}

func TestP28EachStepIsAsTheDocumentSays(t *testing.T) {
	eachStand(func(at stand) {
		for _, e := range eventsOf(at.bus) {
			want, may := stepAsSaid(at.bus, at.state, e)
			got, ok := impl.TlmStep(at.bus, at.state, e)
			if ok != may || !sameStand(got, want) {
				t.Fatalf("behind %v %v leads to %v and %v, not %v and %v", at.events, e, got, ok, want, may)
			}
		}
	})
}

// Also where a bus cannot come to stand from its beginning on, but may stand so.
func TestP28WhereverABusMayStand(t *testing.T) {
	for _, c := range okBuses() {
		for seed := range 40 {
			s := strewn(c, seed)
			if !impl.TlmOk(c, s) {
				t.Fatalf("%v may not stand so", s)
			}
			for _, e := range eventsOf(c) {
				want, may := stepAsSaid(c, s, e)
				got, ok := impl.TlmStep(c, s, e)
				if ok != may || !sameStand(got, want) || !impl.TlmOk(c, got) {
					t.Fatalf("%v leads from %v to %v and %v, not %v and %v", e, s, got, ok, want, may)
				}
			}
		}
	}
}

func TestP28WhatMayHappenKeepsAllAsItMayBe(t *testing.T) {
	kinds := map[[2]int]int{}
	eachStand(func(at stand) {
		for _, e := range eventsOf(at.bus) {
			got, ok := impl.TlmStep(at.bus, at.state, e)
			if !impl.TlmOk(at.bus, got) {
				t.Fatalf("behind %v %v leads to %v: it may not stand so", at.events, e, got)
			}
			if !ok {
				if !sameStand(got, at.state) {
					t.Fatalf("behind %v %v may not happen, and leads to %v", at.events, e, got)
				}
				continue
			}
			kinds[[2]int{e.Kind, e.Who}]++
			if again, twice := impl.TlmStep(at.bus, got, e); twice || !sameStand(again, got) {
				t.Fatalf("behind %v %v may happen twice", at.events, e)
			}
		}
	})
	if len(kinds) != 9 {
		t.Fatalf("not each Kind of each who asks happened: %v", kinds)
	}
}

func TestP28WhatIsNoKindOfSomethingAskedLeavesAllAsItIs(t *testing.T) {
	look := func(c impl.BusCfg, s impl.TlmState) {
		for _, e := range noEvents(c) {
			if got, ok := impl.TlmStep(c, s, e); ok || !sameStand(got, s) {
				t.Fatalf("%v leads from %v to %v and %v", e, s, got, ok)
			}
		}
	}
	for _, c := range smallBuses() {
		for _, at := range standsOf(c) {
			look(c, at.state)
		}
	}
	for _, c := range greatBuses() {
		stands := standsAlong(c, wander(c, 2))
		for _, k := range []int{0, 1, len(stands) / 2, len(stands) - 1} {
			look(c, stands[k].state)
		}
	}
}

// One less and one more than was asked, and behind the last thing.
func TestP28WhatIsAskedIsAskedInItsTurn(t *testing.T) {
	eachStand(func(at stand) {
		for who, asked := range at.state.Asked {
			for n := -1; n <= 13; n++ {
				e := impl.TlmEvent{Kind: impl.TlmAsk, Who: who, N: n}
				got, ok := impl.TlmStep(at.bus, at.state, e)
				if want := n == asked && n < len(at.bus.Progs[who]); ok != want {
					t.Fatalf("where %d has asked %d it may ask %d: %v", who, asked, n, ok)
				}
				if ok && (got.Asked[who] != asked+1 || jobAt(got.Wait, who, n) < 0) {
					t.Fatalf("behind %v %v wait", e, got.Wait)
				}
			}
		}
	})
}

// What is done comes to what AtmDo comes to, of each of the four Kinds, of one address of which several ask.
func TestP28WhatIsDoneIsDoneAtOnce(t *testing.T) {
	codes := map[[2]int]int{}
	for _, c := range okBuses() {
		for seed := range 12 {
			s := impl.TlmNew()
			for _, e := range wander(c, seed) {
				x, ok := impl.TlmStep(c, s, e)
				if !ok {
					t.Fatalf("%v may not happen", e)
				}
				atm := s.Atm
				if e.Kind == impl.TlmDo {
					var rsp impl.RspRsp
					r := c.Progs[e.Who][e.N]
					atm, rsp = impl.AtmDo(c.Map, s.Atm, e.Who, r)
					if k := jobAt(x.Done, e.Who, e.N); k < 0 || !sameRsp(x.Done[k].Rsp, rsp) {
						t.Fatalf("of %v %v is done, not %v", r, x.Done, rsp)
					}
					codes[[2]int{r.Kind, rsp.Code}]++
				}
				if !sameState(x.Atm, atm) {
					t.Fatalf("%v leads from %v to %v, not %v", e, s.Atm, x.Atm, atm)
				}
				s = x
			}
		}
	}
	for _, kind := range allKinds {
		for _, code := range allCodes {
			reads := kind == impl.ReqRead || kind == impl.ReqHold
			never := reads && code == impl.RspDeny || kind == impl.ReqRead && code == impl.RspHeld || kind == impl.ReqHold && code == impl.RspOkay || kind == impl.ReqWrite && code == impl.RspHeld
			if never != (codes[[2]int{kind, code}] == 0) {
				t.Errorf("of Kind %d Code %d came %d times", kind, code, codes[[2]int{kind, code}])
			}
		}
	}
}

// mayOf is all of one that may happen.
func mayOf(c impl.BusCfg, s impl.TlmState, who int) []impl.TlmEvent {
	return slices.DeleteFunc(eventsOf(c), func(e impl.TlmEvent) bool {
		if e.Who != who {
			return true
		}
		_, ok := impl.TlmStep(c, s, e)
		return !ok
	})
}

// othersAsk is a bus behind what each other one asks next, at most so much of each.
func othersAsk(t *testing.T, c impl.BusCfg, s impl.TlmState, who int, most int) impl.TlmState {
	t.Helper()
	var events []impl.TlmEvent
	for other, prog := range c.Progs {
		for n := s.Asked[other]; other != who && n < min(len(prog), s.Asked[other]+most); n++ {
			events = append(events, impl.TlmEvent{Kind: impl.TlmAsk, Who: other, N: n})
		}
	}
	behind, n := impl.TlmRun(c, s, events)
	if n != len(events) {
		t.Fatalf("of %v, which others ask, %d may happen", events, n)
	}
	return behind
}

func TestP30WhatMayHappenDoesNotHangOnOthers(t *testing.T) {
	eachStand(func(at stand) {
		for who := range 3 {
			may := mayOf(at.bus, at.state, who)
			for _, most := range []int{1, 2, 12} {
				behind := othersAsk(t, at.bus, at.state, who, most)
				for _, e := range may {
					if _, ok := impl.TlmStep(at.bus, behind, e); !ok {
						t.Fatalf("behind %v %v may happen, and not behind what others ask, too", at.events, e)
					}
				}
			}
		}
	})
}

func TestP31WhatIsAskedComesToItsEnd(t *testing.T) {
	eachStand(func(at stand) {
		for who := range 3 {
			left := slices.ContainsFunc(slices.Concat(at.state.Wait, at.state.Done), func(j impl.TlmJob) bool { return j.Who == who })
			comes := slices.ContainsFunc(mayOf(at.bus, at.state, who), func(e impl.TlmEvent) bool { return e.Kind != impl.TlmAsk })
			if left != comes {
				t.Fatalf("behind %v %v wait, and %v are done; something of %d may be done, or told: %v", at.events, at.state.Wait, at.state.Done, who, comes)
			}
		}
	})
}

// From wherever it stands a bus comes to where all that was asked was told, without anything more that is asked.
func TestP31ToTheEnd(t *testing.T) {
	for _, c := range okBuses() {
		stands := standsAlong(c, wander(c, 1))
		for k := 0; k < len(stands); k += 5 {
			s := stands[k].state
			asked := len(s.Wait) + len(s.Done) + len(s.Told)
			for turn := 0; turn < 2*asked && len(s.Told) < asked; turn++ {
				for _, e := range eventsOf(c) {
					if x, ok := impl.TlmStep(c, s, e); ok && e.Kind != impl.TlmAsk {
						s = x
					}
				}
			}
			if len(s.Wait) != 0 || len(s.Done) != 0 || len(s.Told) != asked {
				t.Fatalf("in the end %v wait, and %v are done", s.Wait, s.Done)
			}
		}
	}
}

func TestP77EachThingIsAskedDoneAndToldOnce(t *testing.T) {
	eachWander(func(c impl.BusCfg, events []impl.TlmEvent) {
		s := impl.TlmNew()
		for k, e := range events {
			for _, was := range events[:k] {
				if got, ok := impl.TlmStep(c, s, was); ok || !sameStand(got, s) {
					t.Fatalf("behind %v %v may happen once more", events[:k], was)
				}
			}
			x, ok := impl.TlmStep(c, s, e)
			if !ok {
				t.Fatalf("behind %v %v may not happen", events[:k], e)
			}
			s = x
		}
		if len(events) != len(eventsOf(c)) {
			t.Fatalf("%d things happened, of %d", len(events), len(eventsOf(c)))
		}
	})
}

// Nothing is done that was not asked, nor told that was not done.
func TestP77FirstAskedThenDoneThenTold(t *testing.T) {
	eachStand(func(at stand) {
		for _, e := range eventsOf(at.bus) {
			ahead := impl.TlmEvent{Kind: e.Kind - 1, Who: e.Who, N: e.N}
			_, ok := impl.TlmStep(at.bus, at.state, e)
			if ok && (slices.Contains(at.events, e) || e.Kind != impl.TlmAsk && !slices.Contains(at.events, ahead)) {
				t.Fatalf("behind %v %v may happen", at.events, e)
			}
		}
	})
}

func TestP78FirstSomethingIsAsked(t *testing.T) {
	if s := impl.TlmNew(); !sameStand(s, startAsSaid()) {
		t.Fatalf("TlmNew is %v", s)
	}
	for _, c := range okBuses() {
		var first [][3]int
		for who, prog := range c.Progs {
			if len(prog) > 0 {
				first = append(first, [3]int{impl.TlmAsk, who, 0})
			}
		}
		if !impl.TlmOk(c, impl.TlmNew()) {
			t.Fatalf("at its beginning %v may not stand so", c)
		}
		justMay(t, c, impl.TlmNew(), first...)
	}
}

func TestP79AsMuchIsToldAsWasDoneAndAsked(t *testing.T) {
	eachWander(func(c impl.BusCfg, events []impl.TlmEvent) {
		var many [4]int
		asked := []int{0, 0, 0}
		s := impl.TlmNew()
		for k, e := range events {
			s, _ = impl.TlmStep(c, s, e)
			many[e.Kind]++
			if e.Kind == impl.TlmAsk {
				asked[e.Who]++
			}
			if !slices.Equal(s.Asked, asked) || many[1] != len(s.Wait)+len(s.Done)+len(s.Told) || many[2] != len(s.Done)+len(s.Told) || many[3] != len(s.Told) {
				t.Fatalf("behind %v %v was asked, %v wait, %v are done, %v were told", events[:k+1], s.Asked, s.Wait, s.Done, s.Told)
			}
		}
		if len(s.Told)*3 != len(events) {
			t.Fatalf("in the end %d things were told", len(s.Told))
		}
	})
}
