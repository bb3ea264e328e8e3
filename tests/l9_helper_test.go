package tests

import (
	"cmp"
	"slices"

	"loop.example/crossyard/impl"
)

// areApart is what the document asks of TrcApart, of Kinds of something that is asked, said without the program.
func areApart(c impl.BusCfg, a impl.TlmEvent, b impl.TlmEvent) bool {
	if a.Who == b.Who || a.Kind == 3 && b.Kind == 3 {
		return false
	}
	if a.Kind != 2 || b.Kind != 2 {
		return true
	}
	other := burstOf(c.Progs[b.Who][b.N])
	return !slices.ContainsFunc(burstOf(c.Progs[a.Who][a.N]), func(addr int) bool { return slices.Contains(other, addr) })
}

// apartIn is areApart of each two of a list, by their places.
func apartIn(c impl.BusCfg, events []impl.TlmEvent) [][]bool {
	all := make([][]bool, len(events))
	for k, a := range events {
		for _, b := range events {
			all[k] = append(all[k], areApart(c, a, b))
		}
	}
	return all
}

// lessHappens is the order in which the document takes what is free.
func lessHappens(a impl.TlmEvent, b impl.TlmEvent) int {
	return cmp.Or(cmp.Compare(a.Who, b.Who), cmp.Compare(a.N, b.N), cmp.Compare(a.Kind, b.Kind))
}

// normAsSaid is what the document asks of TrcNorm, of what is all ok, said without the program: each time all that is left is gone through anew.
func normAsSaid(c impl.BusCfg, events []impl.TlmEvent) []impl.TlmEvent {
	apart := apartIn(c, events)
	var left []int
	for k := range events {
		left = append(left, k)
	}
	var all []impl.TlmEvent
	for len(left) > 0 {
		least := -1
		for at, k := range left {
			stands := slices.ContainsFunc(left[:at], func(ahead int) bool { return !apart[ahead][k] })
			if !stands && (least < 0 || lessHappens(events[k], events[left[least]]) < 0) {
				least = at
			}
		}
		all = append(all, events[left[least]])
		left = slices.Delete(left, least, least+1)
	}
	return all
}

// twiceIn says whether something happens twice.
func twiceIn(events []impl.TlmEvent) bool {
	for k, e := range events {
		if slices.Contains(events[:k], e) {
			return true
		}
	}
	return false
}

// sameAsSaid is what the document asks of TrcSame, of what is all ok, said without the program.
func sameAsSaid(c impl.BusCfg, a []impl.TlmEvent, b []impl.TlmEvent) bool {
	if twiceIn(a) || twiceIn(b) || len(a) != len(b) {
		return false
	}
	for k, e := range a {
		at := slices.Index(b, e)
		if at < 0 {
			return false
		}
		for _, ahead := range a[:k] {
			if !areApart(c, ahead, e) && slices.Index(b, ahead) > at {
				return false
			}
		}
	}
	return true
}

// whyAsSaid is what the document asks of TrcWhy, of a bus that may stand so, said without the program.
func whyAsSaid(c impl.BusCfg, s impl.TlmState, e impl.TlmEvent) int {
	if e.Kind < 1 || e.Kind > 3 || e.Who < 0 || e.Who > 2 || e.N < 0 || e.N >= len(c.Progs[e.Who]) {
		return 1
	}
	switch {
	case mayAsSaid(c, s, e):
		return 0
	case e.Kind == 1:
		return 2
	case e.Kind == 2 && jobAt(s.Wait, e.Who, e.N) < 0:
		return 3
	case e.Kind == 2:
		return 4
	case jobAt(s.Done, e.Who, e.N) < 0:
		return 5
	}
	return 6
}

// checkAsSaid is what the document asks of TrcCheck, of a bus that is ok, and of at most TlmMost, said without the program.
func checkAsSaid(c impl.BusCfg, events []impl.TlmEvent) (int, int) {
	s, n := runAsSaid(c, startAsSaid(), events)
	if n == len(events) {
		return -1, 0
	}
	return n, whyAsSaid(c, s, events[n])
}

// happensTo is what the document asks of TrcOf, said without the program.
func happensTo(events []impl.TlmEvent, who int) []impl.TlmEvent {
	return slices.DeleteFunc(slices.Clone(events), func(e impl.TlmEvent) bool { return e.Who != who })
}

// oneBehindTheOther is what happens of the first who asks, then of the second, and then of the third.
func oneBehindTheOther(events []impl.TlmEvent) []impl.TlmEvent {
	return slices.Concat(happensTo(events, 0), happensTo(events, 1), happensTo(events, 2))
}

// neighbours are the places of a list whose thing is apart, or is not, from the next one.
func neighbours(c impl.BusCfg, events []impl.TlmEvent, apart bool) []int {
	var all []int
	for k := 0; k+1 < len(events); k++ {
		if areApart(c, events[k], events[k+1]) == apart {
			all = append(all, k)
		}
	}
	return all
}

// turnedAt is a list with what stands at a place, and behind it, turned about.
func turnedAt(events []impl.TlmEvent, at int) []impl.TlmEvent {
	events = slices.Clone(events)
	events[at], events[at+1] = events[at+1], events[at]
	return events
}

// turnedApart is a list with neighbours that are apart turned about, so many times.
func turnedApart(c impl.BusCfg, events []impl.TlmEvent, seed int, times int) []impl.TlmEvent {
	n := chance(seed*523 + 29)
	for range times {
		places := neighbours(c, events, true)
		if len(places) == 0 {
			return events
		}
		events = turnedAt(events, places[n.below(len(places))])
	}
	return events
}

// allOrders are all orders of a short list.
func allOrders(events []impl.TlmEvent) [][]impl.TlmEvent {
	if len(events) == 0 {
		return [][]impl.TlmEvent{nil}
	}
	var all [][]impl.TlmEvent
	for k, e := range events {
		for _, rest := range allOrders(slices.Delete(slices.Clone(events), k, k+1)) {
			all = append(all, append([]impl.TlmEvent{e}, rest...))
		}
	}
	return all
}

// oneAway is a list without what stands at a place, and onceMore one with something put in there.
func oneAway(events []impl.TlmEvent, at int) []impl.TlmEvent {
	return slices.Delete(slices.Clone(events), at, at+1)
}

func onceMore(events []impl.TlmEvent, at int, e impl.TlmEvent) []impl.TlmEvent {
	return slices.Insert(slices.Clone(events), at, e)
}

// meetBus asks for bursts that share no address, one, some and all, round about and not, to read and to write, of stores, of one that can but be read, and where there is none.
func meetBus() impl.BusCfg {
	return busOf(doMaps()[0],
		[]impl.ReqReq{askFor(0, impl.ReqRead, 14, 4, true), askFor(1, impl.ReqWrite, 12, 1, false), askFor(0, impl.ReqRead, 60, 4, false), askFor(1, impl.ReqWrite, 16, 2, false), askFor(0, impl.ReqWrite, 15, 2, true), holdOf(1, 14), askFor(0, impl.ReqRead, 6, 4, false)},
		[]impl.ReqReq{askFor(1, impl.ReqWrite, 14, 2, false), readOf(13), named(1, askFor(0, impl.ReqRead, 62, 2, true)), askFor(0, impl.ReqWrite, 12, 4, true), tryOf(1, 14, 5, 3), readOf(16), askFor(1, impl.ReqRead, 15, 2, false)},
		[]impl.ReqReq{readOf(15), named(1, askFor(0, impl.ReqWrite, 63, 1, true)), askFor(0, impl.ReqWrite, 7, 4, true), tryOf(1, 12, 3, 1), holdOf(0, 40), askFor(0, impl.ReqRead, 9, 1, false)},
	)
}

// readBuses are such on which all just read: of one address, of several that meet, of where there is no store; as much as may be, and less.
func readBuses() []impl.BusCfg {
	list := doMaps()[0]
	same := slices.Repeat([]impl.ReqReq{readOf(1), named(1, readOf(1))}, 6)
	meet := slices.Repeat([]impl.ReqReq{askFor(0, impl.ReqRead, 14, 4, true), named(1, readOf(16)), askFor(0, impl.ReqRead, 14, 2, false), named(1, readOf(60))}, 3)
	less := []impl.ReqReq{named(1, readOf(33)), readOf(13), readOf(60)}
	return []impl.BusCfg{
		busOf(list, same, same, same),
		busOf(list, meet, same, less),
		busOf(list, less, nil, meet),
		busOf(doMaps()[4], same, less, meet),
		{Map: doMaps()[3], Lat: []int{3, 3, 3, 3}, Progs: [][]impl.ReqReq{meet, meet, meet}},
	}
}

// orderBuses are all buses on which orders are looked at.
func orderBuses() []impl.BusCfg {
	return slices.Concat(okBuses(), apartBuses()[:7], crowdedBuses(), readBuses(), []impl.BusCfg{meetBus(), crossing()})
}

// eachOrder goes through what may happen on each bus, in several orders, up to its end.
func eachOrder(look func(c impl.BusCfg, events []impl.TlmEvent)) {
	for _, c := range orderBuses() {
		for seed := range 4 {
			look(c, wander(c, seed))
		}
	}
}

// eachList goes through lists of Kinds of something that is asked: such as may happen, the beginnings of these, such with neighbours turned about that are, or are not, apart, such as may not happen, and such in which things happen twice.
func eachList(look func(c impl.BusCfg, events []impl.TlmEvent)) {
	for _, c := range orderBuses() {
		for seed := range 2 {
			events := wander(c, seed)
			look(c, events)
			look(c, events[:len(events)/2])
			look(c, turnedApart(c, events, seed, 1))
			look(c, turnedApart(c, events, seed, 200))
			if places := neighbours(c, events, false); len(places) > 0 {
				look(c, turnedAt(events, places[len(places)/2]))
			}
			look(c, mixed(events, seed))
			look(c, mixed(slices.Concat(events, events[:len(events)/2]), seed)[:len(events)])
		}
	}
}
