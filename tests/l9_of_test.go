package tests

import (
	"math"
	"slices"
	"testing"

	"loop.example/crossyard/impl"
)

// stayInOrder says whether a list is what is left of another one where some of it is left out.
func stayInOrder(all []impl.TlmEvent, some []impl.TlmEvent) bool {
	for _, e := range all {
		if len(some) > 0 && some[0] == e {
			some = some[1:]
		}
	}
	return len(some) == 0
}

func TestP57WhatHappensOfEachIsAllThatHappens(t *testing.T) {
	eachOrder(func(c impl.BusCfg, events []impl.TlmEvent) {
		many := 0
		for who := range 3 {
			own := impl.TrcOf(events, who)
			if !slices.Equal(own, happensTo(events, who)) || !stayInOrder(events, own) {
				t.Fatalf("of %v of %d it is %v", events, who, own)
			}
			if n := 3 * len(c.Progs[who]); len(own) != n {
				t.Fatalf("of %d things of %d happen %d", n, who, len(own))
			}
			many += len(own)
			if _, n := impl.TlmRun(c, impl.TlmNew(), own); n != len(own) {
				t.Fatalf("of %v, which may happen, %d may of %d alone", own, n, who)
			}
		}
		if many != len(events) {
			t.Fatalf("of each together %d happen, of %d", many, len(events))
		}
	})
}

// anyHappens are things that may happen, that may not, and that are none.
func anyHappens(many int) []impl.TlmEvent {
	var all []impl.TlmEvent
	n := chance(many * 3)
	for k := range many {
		who := []int{0, 1, 2, 2, 1, 0, -1, 3, math.MinInt, math.MaxInt}[n.below(10)]
		all = append(all, event(wildInts[n.below(len(wildInts))], who, wildInts[k%len(wildInts)]))
	}
	return all
}

func TestTrcOfAny(t *testing.T) {
	for _, size := range []int{0, 1, 2, 3, 10, 50, 199, 200, 201, 300, 1000} {
		events, sum := anyHappens(size), 0
		for _, who := range []int{0, 1, 2, -1, 3, math.MinInt, math.MaxInt} {
			own := impl.TrcOf(events, who)
			if !slices.Equal(own, happensTo(events, who)) {
				t.Fatalf("of %v of %d it is %v", events, who, own)
			}
			sum += len(own)
		}
		if sum != size {
			t.Fatalf("of %d that happen %d are somebody's", size, sum)
		}
	}
	same := slices.Repeat([]impl.TlmEvent{event(7, -5, math.MinInt)}, 500)
	if got := impl.TrcOf(same, -5); !slices.Equal(got, same) {
		t.Fatalf("of one thing 500 times it is %d times", len(got))
	}
}

func TestTrcOfNobody(t *testing.T) {
	events := wander(greatBuses()[0], 0)
	for _, who := range noWho {
		if got := impl.TrcOf(events, who); len(got) != 0 {
			t.Fatalf("of %d happens %v", who, got)
		}
	}
	for _, who := range append(noWho, allWho...) {
		for _, none := range [][]impl.TlmEvent{nil, {}, events[:0]} {
			if got := impl.TrcOf(none, who); len(got) != 0 {
				t.Fatalf("of nothing of %d happens %v", who, got)
			}
		}
	}
}

func TestP58WhatOneDoesMayBeDoneWithoutOthers(t *testing.T) {
	eachOrder(func(c impl.BusCfg, events []impl.TlmEvent) {
		for many := 0; many <= len(events); many += 1 + many/4 {
			for who := range 3 {
				own := impl.TrcOf(events[:many], who)
				checkIs(t, c, own, -1, 0)
				s := mustRun(t, c, own)
				if len(s.Wait)+len(s.Done)+len(s.Told) != s.Asked[who] || s.Asked[who] != len(ofKind(own, impl.TlmAsk)) {
					t.Fatalf("behind %v it stands as %v", own, s)
				}
			}
		}
	})
}

// On a bus on which it asks alone it may be done, too, and what comes of it is the same.
func TestP58OnABusOnWhichOneAsksAlone(t *testing.T) {
	eachOrder(func(c impl.BusCfg, events []impl.TlmEvent) {
		for who := range 3 {
			own := impl.TrcOf(events, who)
			alone := impl.BusAlone(c, who)
			checkIs(t, alone, own, -1, 0)
			if s := mustRun(t, alone, own); !sameStand(s, mustRun(t, c, own)) {
				t.Fatalf("where %d asks alone %v leads to %v", who, own, s)
			}
		}
	})
}

func TestP89ABeginningOfWhatMayHappenMay(t *testing.T) {
	eachOrder(func(c impl.BusCfg, events []impl.TlmEvent) {
		for many := range len(events) + 1 {
			if many%3 == 0 || many < 5 || many > len(events)-3 {
				checkIs(t, c, events[:many], -1, 0)
				mustRun(t, c, events[:many])
			}
		}
	})
	for _, c := range smallBuses() {
		for _, at := range standsOf(c) {
			for many := range len(at.events) + 1 {
				checkIs(t, c, at.events[:many], -1, 0)
			}
		}
	}
}

func TestP90OneBehindTheOtherAllMayHappen(t *testing.T) {
	eachOrder(func(c impl.BusCfg, events []impl.TlmEvent) {
		for many := 0; many <= len(events); many += 1 + many/3 {
			some := events[:many]
			apart := slices.Concat(impl.TrcOf(some, 0), impl.TrcOf(some, 1), impl.TrcOf(some, 2))
			checkIs(t, c, apart, -1, 0)
			s, x := mustRun(t, c, some), mustRun(t, c, apart)
			for who := range 3 {
				if one, two := impl.ToldOf(s.Told, who), impl.ToldOf(x.Told, who); len(one) != len(two) || s.Asked[who] != x.Asked[who] {
					t.Fatalf("%d is told %v, and one behind the other %v", who, one, two)
				}
			}
		}
	})
}

// What all are told may differ, though: one behind the other who comes later meets what was written.
func TestP90WhatIsToldMayDiffer(t *testing.T) {
	differ := 0
	eachOrder(func(c impl.BusCfg, events []impl.TlmEvent) {
		s, x := mustRun(t, c, events), mustRun(t, c, oneBehindTheOther(events))
		for who := range 3 {
			if !sameJobs(impl.ToldOf(s.Told, who), impl.ToldOf(x.Told, who)) {
				differ++
			}
		}
	})
	if differ == 0 {
		t.Fatal("nobody writes what another one reads")
	}
}

func TestP91WhereNobodyWritesAllOrdersAreOne(t *testing.T) {
	for _, c := range readBuses() {
		for seed := range 12 {
			events := wander(c, seed)
			for many := 0; many <= len(events); many += 1 + many/5 {
				some := events[:many]
				s := mustRun(t, c, some)
				x := mustRun(t, c, slices.Concat(impl.TrcOf(some, 0), impl.TrcOf(some, 1), impl.TrcOf(some, 2)))
				if !sameState(s.Atm, impl.AtmNew()) || !sameState(x.Atm, impl.AtmNew()) {
					t.Fatalf("what just reads leaves %v, and %v", s.Atm, x.Atm)
				}
				for who := range 3 {
					if one, two := impl.ToldOf(s.Told, who), impl.ToldOf(x.Told, who); !sameJobs(one, two) {
						t.Fatalf("%d is told %v, and one behind the other %v", who, one, two)
					}
				}
			}
		}
	}
}

// All who come first, in each order of who asks, lead to the same.
func TestP91InEachOrderOfWhoAsks(t *testing.T) {
	for _, c := range readBuses() {
		events := wander(c, 4)
		s := mustRun(t, c, events)
		for _, order := range [][3]int{{0, 1, 2}, {0, 2, 1}, {1, 0, 2}, {1, 2, 0}, {2, 0, 1}, {2, 1, 0}} {
			x := mustRun(t, c, slices.Concat(impl.TrcOf(events, order[0]), impl.TrcOf(events, order[1]), impl.TrcOf(events, order[2])))
			for who := range 3 {
				if !sameJobs(impl.ToldOf(s.Told, who), impl.ToldOf(x.Told, who)) {
					t.Fatalf("in the order %v %d is told %v", order, who, impl.ToldOf(x.Told, who))
				}
			}
		}
	}
}
