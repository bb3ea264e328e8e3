package tests

import (
	"slices"
	"testing"

	"loop.example/crossyard/impl"
)

// sortedHappens is a list by Who, N and Kind, to hold what happens against what else happens, but for the order.
func sortedHappens(events []impl.TlmEvent) []impl.TlmEvent {
	return slices.SortedFunc(slices.Values(events), lessHappens)
}

// normed fails unless TrcNorm is what the document asks for.
func normed(t *testing.T, c impl.BusCfg, events []impl.TlmEvent) []impl.TlmEvent {
	t.Helper()
	got := impl.TrcNorm(c, events)
	if want := normAsSaid(c, events); !slices.Equal(got, want) {
		t.Fatalf("TrcNorm of %v is %v, not %v", events, got, want)
	}
	return got
}

// sameBoth fails unless TrcSame of two lists, and of these the other way round, is that.
func sameBoth(t *testing.T, c impl.BusCfg, a []impl.TlmEvent, b []impl.TlmEvent, want bool) {
	t.Helper()
	if one, two := impl.TrcSame(c, a, b), impl.TrcSame(c, b, a); one != want || two != want {
		t.Fatalf("%v and %v are the same: %v, the other way round %v", a, b, one, two)
	}
}

func TestP53TheLeastOrderKeepsWhatIsNotApart(t *testing.T) {
	twice, moved := 0, 0
	eachList(func(c impl.BusCfg, events []impl.TlmEvent) {
		norm := normed(t, c, events)
		if !slices.Equal(sortedHappens(norm), sortedHappens(events)) {
			t.Fatalf("TrcNorm of %v has %v", events, norm)
		}
		if again := impl.TrcNorm(c, norm); !slices.Equal(again, norm) {
			t.Fatalf("TrcNorm of %v, which is one, is %v", norm, again)
		}
		if twiceIn(events) {
			twice++
		}
		if !slices.Equal(norm, events) {
			moved++
		}
		sameBoth(t, c, events, norm, !twiceIn(events))
	})
	if twice == 0 || moved == 0 {
		t.Fatalf("in %d lists something happens twice, and %d are not in their least order", twice, moved)
	}
}

func TestP53OfWhatIsTheSameItIsTheSame(t *testing.T) {
	eachOrder(func(c impl.BusCfg, events []impl.TlmEvent) {
		norm := impl.TrcNorm(c, events)
		for seed, times := range []int{1, 2, 20, 300} {
			other := turnedApart(c, events, seed, times)
			if got := impl.TrcNorm(c, other); !slices.Equal(got, norm) {
				t.Fatalf("TrcNorm of %v is %v, and of %v %v", events, norm, other, got)
			}
		}
	})
}

// Where something happens twice there is a least order still.
func TestP53WhereThingsHappenTwice(t *testing.T) {
	for _, c := range orderBuses() {
		all := eventsOf(c)
		if len(all) == 0 {
			continue
		}
		for seed := range 20 {
			n := chance(seed * 41)
			var events []impl.TlmEvent
			for range 3 + 3*seed {
				events = append(events, all[n.below(min(len(all), 3+seed))])
			}
			norm := normed(t, c, events)
			for times := range 4 {
				if got := impl.TrcNorm(c, turnedApart(c, events, seed, 1+40*times)); !slices.Equal(got, norm) {
					t.Fatalf("with what is apart turned about TrcNorm of %v is %v", events, got)
				}
			}
		}
	}
}

func TestTrcNormByHand(t *testing.T) {
	c := meetBus()
	for _, x := range []struct {
		events []impl.TlmEvent
		want   []impl.TlmEvent
	}{
		// The three first are in the order of who asks: all are apart.
		{[]impl.TlmEvent{event(1, 2, 0), event(1, 1, 0), event(1, 0, 0)}, []impl.TlmEvent{event(1, 0, 0), event(1, 1, 0), event(1, 2, 0)}},
		// What the same one asks stays as it is, be it in its order or not.
		{[]impl.TlmEvent{event(3, 1, 4), event(2, 1, 4), event(1, 1, 5), event(1, 1, 0)}, []impl.TlmEvent{event(3, 1, 4), event(2, 1, 4), event(1, 1, 5), event(1, 1, 0)}},
		// What is told stays as it is, and keeps what else the same one asks behind it.
		{[]impl.TlmEvent{event(3, 2, 0), event(3, 1, 0), event(1, 0, 0), event(3, 0, 1), event(1, 1, 1)}, []impl.TlmEvent{event(1, 0, 0), event(3, 2, 0), event(3, 1, 0), event(3, 0, 1), event(1, 1, 1)}},
		// 1 writes 14 and 15 ahead of what 0 reads there; what 2 does at 40 comes last.
		{[]impl.TlmEvent{event(2, 2, 4), event(2, 1, 0), event(2, 0, 0)}, []impl.TlmEvent{event(2, 1, 0), event(2, 0, 0), event(2, 2, 4)}},
		// As 0 is done, what else it asks is free, ahead of what 1 asks.
		{[]impl.TlmEvent{event(1, 1, 2), event(2, 1, 0), event(1, 1, 3), event(2, 0, 0), event(1, 0, 1), event(1, 2, 0)}, []impl.TlmEvent{event(1, 1, 2), event(2, 1, 0), event(2, 0, 0), event(1, 0, 1), event(1, 1, 3), event(1, 2, 0)}},
		// The first is not apart from the second (14), nor the second from the third (13), but the first from the third.
		{[]impl.TlmEvent{event(2, 2, 0), event(2, 0, 0), event(2, 1, 1)}, []impl.TlmEvent{event(2, 2, 0), event(2, 0, 0), event(2, 1, 1)}},
		{[]impl.TlmEvent{event(2, 1, 1), event(2, 0, 0), event(2, 2, 0)}, []impl.TlmEvent{event(2, 1, 1), event(2, 0, 0), event(2, 2, 0)}},
		// The second is apart from both others, and these are not from each other.
		{[]impl.TlmEvent{event(2, 1, 0), event(2, 2, 4), event(2, 0, 0)}, []impl.TlmEvent{event(2, 1, 0), event(2, 0, 0), event(2, 2, 4)}},
	} {
		if got := normed(t, c, x.events); !slices.Equal(got, x.want) {
			t.Errorf("TrcNorm of %v is %v, not %v", x.events, got, x.want)
		}
		sameBoth(t, c, x.events, x.want, true)
		sameBoth(t, c, x.events, turnedAt(x.events, 0), areApart(c, x.events[0], x.events[1]))
	}
}

// Things that differ but in Who, N or Kind: where Who is the same they stay as they stood, however N and Kind are.
func TestTrcNormOfThingsNextToEachOther(t *testing.T) {
	c := meetBus()
	for kind := 1; kind <= 3; kind++ {
		for who := range 3 {
			for n := range 5 {
				e := event(kind, who, n)
				for _, other := range []impl.TlmEvent{event(kind%3+1, who, n), event(kind, (who+1)%3, n), event(kind, who, n+1), event(kind, who, (n+4)%5)} {
					for _, events := range [][]impl.TlmEvent{{e, other}, {other, e}} {
						want := events
						if e.Who != other.Who && areApart(c, e, other) && events[0].Who > events[1].Who {
							want = []impl.TlmEvent{events[1], events[0]}
						}
						if got := impl.TrcNorm(c, events); !slices.Equal(got, want) {
							t.Errorf("TrcNorm of %v is %v", events, got)
						}
					}
				}
			}
		}
	}
}

func TestP54ToBeTheSameIsSoBothWays(t *testing.T) {
	same, differ := 0, 0
	for _, c := range orderBuses() {
		var lists [][]impl.TlmEvent
		for seed := range 2 {
			events := wander(c, seed)
			lists = append(lists, events, turnedApart(c, events, seed, 1), turnedApart(c, events, seed, 100), mixed(events, seed))
			for k, places := 0, neighbours(c, events, false); k < min(2, len(places)); k++ {
				lists = append(lists, turnedAt(events, places[k*7%len(places)]))
			}
		}
		for _, a := range lists {
			for _, b := range lists {
				want := sameAsSaid(c, a, b)
				sameBoth(t, c, a, b, want)
				if got := slices.Equal(impl.TrcNorm(c, a), impl.TrcNorm(c, b)); got != want {
					t.Fatalf("%v and %v are the same: %v, and TrcNorm of both is one: %v", a, b, want, got)
				}
				if want {
					same++
				} else {
					differ++
				}
			}
		}
	}
	if same == 0 || differ == 0 {
		t.Fatalf("%d were the same, and %d were not", same, differ)
	}
}

// Of a few things each order is held against each other one.
func TestP54AllOrdersOfAFewThings(t *testing.T) {
	c := meetBus()
	for _, few := range [][]impl.TlmEvent{
		{event(2, 0, 0), event(2, 1, 0), event(2, 2, 0), event(2, 1, 5)},
		{event(1, 0, 0), event(2, 0, 0), event(3, 0, 0), event(1, 1, 0), event(2, 1, 0)},
		{event(3, 0, 0), event(3, 1, 0), event(3, 2, 0), event(2, 2, 4)},
		{event(2, 0, 0), event(2, 1, 1), event(2, 2, 0), event(1, 2, 1), event(3, 0, 1)},
		{event(1, 0, 3), event(1, 1, 3), event(1, 2, 3), event(2, 0, 2), event(2, 1, 2)},
	} {
		orders := allOrders(few)
		norms := map[string]bool{}
		for _, a := range orders {
			norms[textOfHappens(normed(t, c, a))] = true
			for _, b := range orders {
				want := sameAsSaid(c, a, b)
				if got := impl.TrcSame(c, a, b); got != want {
					t.Fatalf("%v and %v are the same: %v", a, b, got)
				}
				if got := slices.Equal(impl.TrcNorm(c, a), impl.TrcNorm(c, b)); got != want {
					t.Fatalf("%v and %v are the same: %v, and TrcNorm of both is one: %v", a, b, want, got)
				}
			}
		}
		if len(norms) < 2 || len(norms) == len(orders) {
			t.Fatalf("of %d orders of %v there are %d", len(orders), few, len(norms))
		}
	}
}

func textOfHappens(events []impl.TlmEvent) string {
	var all []byte
	for _, e := range events {
		all = append(all, byte('0'+e.Kind), byte('0'+e.Who), byte('a'+e.N))
	}
	return string(all)
}

// What is not apart, turned about, is not the same, wherever it stands.
func TestTrcSameWithWhatIsNotApartTurnedAbout(t *testing.T) {
	eachOrder(func(c impl.BusCfg, events []impl.TlmEvent) {
		for k, at := range neighbours(c, events, false) {
			if k%5 == 0 {
				sameBoth(t, c, events, turnedAt(events, at), false)
			}
		}
		for k, at := range neighbours(c, events, true) {
			if k%5 == 0 {
				sameBoth(t, c, events, turnedAt(events, at), true)
			}
		}
	})
}

// The first and the last thing turned about, with one between that is apart from both, or from one, or from none.
func TestTrcSameOfTwoThatStandFarFromEachOther(t *testing.T) {
	c := meetBus()
	for _, x := range []struct {
		events []impl.TlmEvent
		want   bool
	}{
		{[]impl.TlmEvent{event(2, 1, 0), event(2, 2, 4), event(2, 0, 0)}, false},
		{[]impl.TlmEvent{event(1, 1, 0), event(2, 2, 4), event(2, 0, 0)}, true},
		{[]impl.TlmEvent{event(2, 2, 0), event(2, 0, 0), event(2, 1, 1)}, false},
		{[]impl.TlmEvent{event(2, 2, 0), event(3, 2, 0), event(2, 1, 1)}, false},
		{[]impl.TlmEvent{event(3, 2, 0), event(1, 0, 0), event(3, 1, 1)}, false},
		{[]impl.TlmEvent{event(3, 2, 0), event(1, 0, 0), event(2, 1, 1)}, true},
	} {
		a, b, d := x.events[0], x.events[1], x.events[2]
		sameBoth(t, c, x.events, []impl.TlmEvent{d, b, a}, x.want)
	}
}

func TestTrcSameOfListsThatDoNotHaveTheSame(t *testing.T) {
	eachOrder(func(c impl.BusCfg, events []impl.TlmEvent) {
		for k := 0; k < len(events); k += 1 + len(events)/4 {
			less := oneAway(events, k)
			sameBoth(t, c, events, less, false)
			sameBoth(t, c, less, less, true)
			other := slices.Clone(less)
			other[len(other)/2] = events[k]
			sameBoth(t, c, less, other, false)
		}
		if len(events) > 0 {
			sameBoth(t, c, events, nil, false)
			sameBoth(t, c, events[:1], []impl.TlmEvent{}, false)
			sameBoth(t, c, events[:1], events[1:2], false)
		}
	})
}

// Something that happens twice is not even the same as itself: next to each other, far apart, in one list, in the other, in both.
func TestTrcSameOfWhatHappensTwice(t *testing.T) {
	eachOrder(func(c impl.BusCfg, events []impl.TlmEvent) {
		for k := 0; k < len(events); k += 1 + len(events)/4 {
			for _, at := range []int{0, k, k + 1, len(events)} {
				twice := onceMore(events, at, events[k])
				sameBoth(t, c, twice, twice, false)
				sameBoth(t, c, twice, events, false)
				other := onceMore(events, at, events[(k+1)%len(events)])
				sameBoth(t, c, twice, other, false)
				for _, place := range []int{0, len(events) / 2, len(events)} {
					sameBoth(t, c, twice[:len(events)], oneAway(twice, place), sameAsSaid(c, twice[:len(events)], oneAway(twice, place)))
				}
				if got := impl.TrcNorm(c, twice); !slices.Equal(sortedHappens(got), sortedHappens(twice)) {
					t.Fatalf("TrcNorm of %v is %v", twice, got)
				}
			}
		}
	})
	c := meetBus()
	a, b := event(1, 0, 0), event(1, 1, 0)
	for _, lists := range [][2][]impl.TlmEvent{{{a, a}, {a, a}}, {{a, a}, {a, b}}, {{a, a}, {b, b}}, {{a, b, a}, {a, a, b}}, {{a, b, a}, {a, b, b}}, {{a, b, b}, {a, a, b}}, {{a, a, a}, {a, b, a}}} {
		sameBoth(t, c, lists[0], lists[1], false)
	}
	sameBoth(t, c, []impl.TlmEvent{a, b}, []impl.TlmEvent{b, a}, true)
}

func TestTrcNormAndTrcSameOfNothingAndOfOneThing(t *testing.T) {
	for _, c := range orderBuses() {
		for _, none := range [][]impl.TlmEvent{nil, {}, make([]impl.TlmEvent, 0, 5)} {
			if got := impl.TrcNorm(c, none); len(got) != 0 {
				t.Fatalf("TrcNorm of nothing is %v", got)
			}
			for _, other := range [][]impl.TlmEvent{nil, {}} {
				sameBoth(t, c, none, other, true)
			}
		}
		for _, e := range eventsOf(c) {
			one := []impl.TlmEvent{e}
			if got := impl.TrcNorm(c, one); !slices.Equal(got, one) {
				t.Fatalf("TrcNorm of %v is %v", one, got)
			}
			sameBoth(t, c, one, one, true)
			sameBoth(t, c, one, nil, false)
		}
	}
}

func TestTrcNormOfAsManyAsMayBe(t *testing.T) {
	for _, c := range []impl.BusCfg{meetBus(), crowdedBuses()[2], okBuses()[5]} {
		all := eventsOf(c)
		for _, size := range []int{108, 109, 199, 200} {
			for seed := range 3 {
				events := mixed(slices.Repeat(all, 5), seed)[:size]
				if got := normed(t, c, events); len(got) != size {
					t.Fatalf("TrcNorm of %d things has %d", size, len(got))
				}
				sameBoth(t, c, events, events, false)
			}
			same := slices.Repeat(all[:1], size)
			if got := impl.TrcNorm(c, same); !slices.Equal(got, same) {
				t.Fatalf("TrcNorm of one thing %d times is %v", size, got)
			}
		}
		for _, size := range []int{201, 202, 400, 3000} {
			for _, events := range [][]impl.TlmEvent{slices.Repeat(all[:1], size), slices.Repeat(all, size)[:size]} {
				if got := impl.TrcNorm(c, events); len(got) != 0 {
					t.Fatalf("TrcNorm of %d things is %v", size, got)
				}
				sameBoth(t, c, events, events, false)
				sameBoth(t, c, events, nil, false)
			}
		}
	}
}

// One thing that is none, among others that are, at each place.
func TestTrcNormAndTrcSameOfWhatIsNotAsked(t *testing.T) {
	for _, c := range orderBuses() {
		events := wander(c, 1)
		for k, wrong := range noEvents(c) {
			for _, at := range []int{k % (len(events) + 1), 0, len(events)} {
				with := onceMore(events, at, wrong)
				if got := impl.TrcNorm(c, with); len(got) != 0 {
					t.Fatalf("TrcNorm with %v at %d is %v", wrong, at, got)
				}
				if impl.TrcSame(c, with, with) || impl.TrcSame(c, events, with) || impl.TrcSame(c, with, events) {
					t.Fatalf("with %v at %d something is the same", wrong, at)
				}
			}
			alone := []impl.TlmEvent{wrong}
			if got := impl.TrcNorm(c, alone); len(got) != 0 || impl.TrcSame(c, alone, alone) {
				t.Fatalf("TrcNorm of %v is %v", alone, got)
			}
		}
	}
}

// At each place of a list one thing is turned into what is none.
func TestTrcNormAndTrcSameWithOneThingSpoilt(t *testing.T) {
	c := meetBus()
	events := wander(c, 3)
	for at := range events {
		for _, wrong := range []impl.TlmEvent{event(0, events[at].Who, events[at].N), event(4, events[at].Who, events[at].N), event(events[at].Kind, 3, events[at].N), event(events[at].Kind, -1, events[at].N), event(events[at].Kind, events[at].Who, -1), event(events[at].Kind, events[at].Who, 7)} {
			spoilt := slices.Clone(events)
			spoilt[at] = wrong
			if got := impl.TrcNorm(c, spoilt); len(got) != 0 || impl.TrcSame(c, spoilt, spoilt) {
				t.Fatalf("with %v at %d TrcNorm is %v", wrong, at, got)
			}
			sameBoth(t, c, events, spoilt, false)
		}
	}
}

func TestTrcNormAndTrcSameOfABusThatIsNotOk(t *testing.T) {
	right := greatBuses()[0]
	events := wander(right, 0)
	for _, c := range wrongBuses() {
		for _, list := range [][]impl.TlmEvent{nil, {}, {event(1, 0, 0)}, events[:20], events} {
			if got := impl.TrcNorm(c, list); len(got) != 0 {
				t.Fatalf("TrcNorm of a bus that is not ok is %v", got)
			}
			if impl.TrcSame(c, list, list) {
				t.Fatalf("of a bus that is not ok %v is the same", list)
			}
		}
	}
}

// Things that may not happen from a bus's beginning on have a least order, too.
func TestTrcNormOfWhatMayNotHappen(t *testing.T) {
	for _, c := range orderBuses() {
		for seed := range 6 {
			all := mixed(eventsOf(c), seed)
			sameBoth(t, c, all, normed(t, c, all), true)
			tells := ofKind(all, impl.TlmTell)
			if got := normed(t, c, tells); !slices.Equal(got, tells) {
				t.Fatalf("of what is told the least order is %v", got)
			}
			asks := ofKind(all, impl.TlmAsk)
			if got := normed(t, c, asks); !slices.Equal(got, oneBehindTheOther(asks)) {
				t.Fatalf("of what is asked the least order is %v", got)
			}
		}
	}
}

func TestP11HoweverWhatIsApartIsTurnedAbout(t *testing.T) {
	eachOrder(func(c impl.BusCfg, events []impl.TlmEvent) {
		want := mustRun(t, c, events)
		for seed, times := range []int{1, 1, 3, 30, 300} {
			other := turnedApart(c, events, seed, times)
			got, n := impl.TlmRun(c, impl.TlmNew(), other)
			if n != len(other) || !sameStand(got, want) {
				t.Fatalf("of %v, turned about, %d may happen, and lead to %v, not %v", other, n, got, want)
			}
			sameBoth(t, c, events, other, true)
		}
		norm, n := impl.TlmRun(c, impl.TlmNew(), impl.TrcNorm(c, events))
		if n != len(events) || !sameStand(norm, want) {
			t.Fatalf("in their least order %d of %v may happen, and lead to %v", n, events, norm)
		}
	})
}

// Not just what happens up to the end: what happens up to any place may be turned about.
func TestP11OfEachBeginning(t *testing.T) {
	for _, c := range orderBuses() {
		events := wander(c, 2)
		for many := 0; many <= len(events); many += 1 + many/3 {
			some := events[:many]
			other := turnedApart(c, some, many, many)
			got, n := impl.TlmRun(c, impl.TlmNew(), other)
			if n != many || !sameStand(got, mustRun(t, c, some)) {
				t.Fatalf("of %v, turned about, %d may happen, and lead to %v", other, n, got)
			}
			sameBoth(t, c, some, other, true)
		}
	}
}

// atOf is where something happens to a thing; below 0, if it does not.
func atOf(events []impl.TlmEvent, kind int, who int, n int) int {
	return slices.Index(events, event(kind, who, n))
}

func TestP100WhatHappensToOneThingIsNeverApart(t *testing.T) {
	eachOrder(func(c impl.BusCfg, events []impl.TlmEvent) {
		for seed, other := range [][]impl.TlmEvent{impl.TrcNorm(c, events), turnedApart(c, events, 1, 1), turnedApart(c, events, 2, 150), mixed(events, 3), oneBehindTheOther(events)} {
			if !impl.TrcSame(c, events, other) {
				if seed < 3 {
					t.Fatalf("%v is not the same as %v", other, events)
				}
				continue
			}
			for who, prog := range c.Progs {
				for n := range prog {
					ask, do, tell := atOf(other, 1, who, n), atOf(other, 2, who, n), atOf(other, 3, who, n)
					if ask < 0 || ask >= do || do >= tell {
						t.Fatalf("in %v the %d. thing that %d asks is asked at %d, done at %d and told at %d", other, n, who, ask, do, tell)
					}
				}
			}
		}
	})
}

// With what happens to one thing turned about a list is not the same any more.
func TestP100TurnedAbout(t *testing.T) {
	eachOrder(func(c impl.BusCfg, events []impl.TlmEvent) {
		for who, prog := range c.Progs {
			for n := range prog {
				ask, do, tell := atOf(events, 1, who, n), atOf(events, 2, who, n), atOf(events, 3, who, n)
				for _, two := range [][2]int{{ask, do}, {do, tell}, {ask, tell}} {
					other := slices.Clone(events)
					other[two[0]], other[two[1]] = other[two[1]], other[two[0]]
					if n%4 == 0 {
						sameBoth(t, c, events, other, false)
					}
				}
			}
		}
	})
}
