package tests

import (
	"cmp"
	"fmt"
	"math"
	"slices"

	"loop.example/crossyard/impl"
)

// allHappens are all Kinds of what happens, and noHappens numbers next to these, and far from them.
var (
	allHappens = []int{impl.TlmAsk, impl.TlmDo, impl.TlmTell}
	noHappens  = []int{math.MinInt, -1 << 32, -3, -2, -1, 0, 4, 5, 1<<32 | 1, math.MaxInt}
)

// noPlaces are numbers of things that nobody asks.
var noPlaces = []int{math.MinInt, -1 << 32, -2, -1, 12, 13, 1 << 32, math.MaxInt - 1, math.MaxInt}

// named is the same asked by another name.
func named(id int, r impl.ReqReq) impl.ReqReq {
	r = copyAsk(r)
	r.Id = id
	return r
}

func busOf(list []impl.MapRange, progs ...[]impl.ReqReq) impl.BusCfg {
	return impl.BusCfg{Map: list, Lat: []int{2, 0, 1, 3}, Progs: progs}
}

// smallBuses are so small that each way they may come to stand can be looked at: one name and both, one address of several, somebody who asks nothing.
func smallBuses() []impl.BusCfg {
	list := doMaps()[0]
	return []impl.BusCfg{
		busOf(list, nil, nil, nil),
		busOf(list, []impl.ReqReq{writeOf(1, 300, 3), readOf(1), named(1, readOf(16))}, []impl.ReqReq{holdOf(0, 1)}, []impl.ReqReq{}),
		busOf(list, nil, []impl.ReqReq{holdOf(1, 1), tryOf(1, 1, 9, 3)}, []impl.ReqReq{writeOf(1, 7, 1), named(1, writeOf(1, 8, 2))}),
		busOf(nil, []impl.ReqReq{named(1, readOf(3)), readOf(3), named(1, readOf(3)), readOf(3)}, nil, nil),
		busOf(list, []impl.ReqReq{holdOf(0, 33)}, []impl.ReqReq{tryOf(0, 33, 1, 3)}, []impl.ReqReq{writeOf(33, 5, 3)}),
	}
}

// greatBuses ask as much as may be, by turns of names that differ, of each Kind, of addresses that meet.
func greatBuses() []impl.BusCfg {
	fours := func(who int) []impl.ReqReq {
		var all []impl.ReqReq
		for k := range 3 {
			all = append(all, holdOf((who+k)%2, 14), tryOf((who+k)%2, 14, 100*who+k, 3), askFor(k%2, impl.ReqRead, 14, 2, false), askFor(who%2, impl.ReqWrite, 14, 2, true))
		}
		return all
	}
	oneName := make([]impl.ReqReq, 12)
	for k := range oneName {
		oneName[k] = named(1, writeOf(k%3, k, 3))
	}
	return []impl.BusCfg{
		busOf(doMaps()[0], walk(1, 12), walk(2, 12), walk(3, 12)),
		busOf(doMaps()[1], fours(0), fours(1), fours(2)),
		{Map: doMaps()[2], Lat: []int{0, 0, 0, 0}, Progs: [][]impl.ReqReq{fours(2), walk(4, 11), oneName}},
		{Map: doMaps()[4], Lat: []int{3, 3, 3, 3}, Progs: [][]impl.ReqReq{walk(5, 1), nil, walk(6, 12)}},
	}
}

func okBuses() []impl.BusCfg {
	return append(smallBuses(), greatBuses()...)
}

func copyBus(c impl.BusCfg) impl.BusCfg {
	x := impl.BusCfg{Map: slices.Clone(c.Map), Lat: slices.Clone(c.Lat)}
	for _, prog := range c.Progs {
		var all []impl.ReqReq
		for _, r := range prog {
			all = append(all, copyAsk(r))
		}
		x.Progs = append(x.Progs, all)
	}
	return x
}

func copyJobs(list []impl.TlmJob) []impl.TlmJob {
	list = slices.Clone(list)
	for k := range list {
		list[k].Rsp.Data = slices.Clone(list[k].Rsp.Data)
	}
	return list
}

func copyStand(s impl.TlmState) impl.TlmState {
	return impl.TlmState{Atm: copyState(s.Atm), Asked: slices.Clone(s.Asked), Wait: copyJobs(s.Wait), Done: copyJobs(s.Done), Told: copyJobs(s.Told)}
}

// sameJob, sameJobs and sameStand take the empty list and the nil list for the same.
func sameJob(a impl.TlmJob, b impl.TlmJob) bool {
	return a.Who == b.Who && a.N == b.N && sameRsp(a.Rsp, b.Rsp)
}

func sameJobs(a []impl.TlmJob, b []impl.TlmJob) bool {
	return slices.EqualFunc(a, b, sameJob)
}

func sameStand(a impl.TlmState, b impl.TlmState) bool {
	return sameState(a.Atm, b.Atm) && slices.Equal(a.Asked, b.Asked) && sameJobs(a.Wait, b.Wait) && sameJobs(a.Done, b.Done) && sameJobs(a.Told, b.Told)
}

func jobAt(list []impl.TlmJob, who int, n int) int {
	return slices.IndexFunc(list, func(j impl.TlmJob) bool { return j.Who == who && j.N == n })
}

// putJob is a list, in order, with a job more.
func putJob(list []impl.TlmJob, j impl.TlmJob) []impl.TlmJob {
	list = append(copyJobs(list), j)
	slices.SortStableFunc(list, func(a impl.TlmJob, b impl.TlmJob) int {
		return cmp.Or(cmp.Compare(a.Who, b.Who), cmp.Compare(a.N, b.N))
	})
	return list
}

func dropJob(list []impl.TlmJob, place int) []impl.TlmJob {
	return append(copyJobs(list[:place]), copyJobs(list[place+1:])...)
}

// startAsSaid is what the document asks of TlmNew, said without the program.
func startAsSaid() impl.TlmState {
	return impl.TlmState{Atm: impl.AtmState{Mem: impl.MemMem{Words: make([]int, 64)}, Holds: []int{-1, -1, -1, -1, -1, -1}}, Asked: []int{0, 0, 0}}
}

// mayAsSaid is what the document asks of what may happen, of a bus that may stand so, said without the program.
func mayAsSaid(c impl.BusCfg, s impl.TlmState, e impl.TlmEvent) bool {
	if e.Who < 0 || e.Who > 2 || e.N < 0 || e.N >= len(c.Progs[e.Who]) {
		return false
	}
	free := func(list []impl.TlmJob) bool {
		for n := range e.N {
			if c.Progs[e.Who][n].Id == c.Progs[e.Who][e.N].Id && jobAt(list, e.Who, n) >= 0 {
				return false
			}
		}
		return true
	}
	switch e.Kind {
	case 1:
		return e.N == s.Asked[e.Who]
	case 2:
		return jobAt(s.Wait, e.Who, e.N) >= 0 && free(s.Wait)
	case 3:
		return jobAt(s.Done, e.Who, e.N) >= 0 && free(s.Wait) && free(s.Done)
	}
	return false
}

// stepAsSaid is what the document asks of TlmStep, of a bus that may stand so, said without the program.
func stepAsSaid(c impl.BusCfg, s impl.TlmState, e impl.TlmEvent) (impl.TlmState, bool) {
	if !mayAsSaid(c, s, e) {
		return s, false
	}
	x := copyStand(s)
	j := impl.TlmJob{Who: e.Who, N: e.N}
	switch e.Kind {
	case 1:
		x.Asked[e.Who]++
		x.Wait = putJob(x.Wait, j)
	case 2:
		x.Wait = dropJob(x.Wait, jobAt(x.Wait, e.Who, e.N))
		x.Atm, j.Rsp = doneAtOnce(c.Map, x.Atm, e.Who, c.Progs[e.Who][e.N])
		x.Done = putJob(x.Done, j)
	case 3:
		at := jobAt(x.Done, e.Who, e.N)
		x.Told = append(x.Told, x.Done[at])
		x.Done = dropJob(x.Done, at)
	}
	return x, true
}

// eventsOf is each Kind of each thing that is asked.
func eventsOf(c impl.BusCfg) []impl.TlmEvent {
	var all []impl.TlmEvent
	for who, prog := range c.Progs {
		for n := range prog {
			for _, kind := range allHappens {
				all = append(all, impl.TlmEvent{Kind: kind, Who: who, N: n})
			}
		}
	}
	return all
}

// noEvents is what is no Kind of something that is asked: a wrong Kind, nobody, and behind and ahead of what is asked.
func noEvents(c impl.BusCfg) []impl.TlmEvent {
	var all []impl.TlmEvent
	for who, prog := range c.Progs {
		for n := range len(prog) + 1 {
			for _, kind := range noHappens {
				all = append(all, impl.TlmEvent{Kind: kind, Who: who, N: n})
			}
		}
	}
	for _, kind := range allHappens {
		for _, who := range noWho {
			all = append(all, impl.TlmEvent{Kind: kind, Who: who}, impl.TlmEvent{Kind: kind, Who: who, N: 1})
		}
		for who, prog := range c.Progs {
			for _, n := range append([]int{len(prog), len(prog) + 1}, noPlaces...) {
				all = append(all, impl.TlmEvent{Kind: kind, Who: who, N: n})
			}
		}
	}
	return all
}

// chance is numbers told by a rule, so that each run of the tests has the same.
type chance int

func (n *chance) below(many int) int {
	*n = (*n*1103515245 + 12345) % (1 << 31)
	return int(*n) >> 8 % many
}

// wander is what may happen from the beginning on, one behind the other, till nothing is left. By its seed what is asked first, what is done first, what is told first, or any comes first, so that much waits, or is done, or little.
func wander(c impl.BusCfg, seed int) []impl.TlmEvent {
	n := chance(seed*7919 + 17)
	s := startAsSaid()
	var all []impl.TlmEvent
	for {
		may := slices.DeleteFunc(eventsOf(c), func(e impl.TlmEvent) bool { return !mayAsSaid(c, s, e) })
		if len(may) == 0 {
			return all
		}
		e := may[n.below(len(may))]
		for range 2 {
			if other := may[n.below(len(may))]; other.Kind == seed%4 {
				e = other
			}
		}
		s, _ = stepAsSaid(c, s, e)
		all = append(all, e)
	}
}

// stand is a bus, how it stands, and what happened from its beginning on.
type stand struct {
	bus    impl.BusCfg
	state  impl.TlmState
	events []impl.TlmEvent
}

// standsAlong is how a bus stands ahead of, and behind, each of what happens.
func standsAlong(c impl.BusCfg, events []impl.TlmEvent) []stand {
	s := startAsSaid()
	all := []stand{{bus: c, state: s}}
	for k, e := range events {
		s, _ = stepAsSaid(c, s, e)
		all = append(all, stand{bus: c, state: s, events: events[:k+1]})
	}
	return all
}

// standsOf is each way in which a small bus may come to stand, with one way to come there.
func standsOf(c impl.BusCfg) []stand {
	all := []stand{{bus: c, state: startAsSaid()}}
	known := map[string]bool{fmt.Sprint(all[0].state): true}
	for k := 0; k < len(all); k++ {
		for _, e := range eventsOf(c) {
			if x, ok := stepAsSaid(c, all[k].state, e); ok && !known[fmt.Sprint(x)] {
				known[fmt.Sprint(x)] = true
				all = append(all, stand{bus: c, state: x, events: append(slices.Clone(all[k].events), e)})
			}
		}
	}
	return all
}

// eachStand goes through all ways in which small buses may come to stand, and many of great ones.
func eachStand(look func(at stand)) {
	for _, c := range smallBuses() {
		for _, at := range standsOf(c) {
			look(at)
		}
	}
	for _, c := range greatBuses() {
		for seed := range 4 {
			for _, at := range standsAlong(c, wander(c, seed)) {
				look(at)
			}
		}
	}
}

// eachWander goes through what may happen on each bus, in several orders.
func eachWander(look func(c impl.BusCfg, events []impl.TlmEvent)) {
	for _, c := range okBuses() {
		for seed := range 12 {
			look(c, wander(c, seed))
		}
	}
}

// strewn is a bus on which all that was asked is in any place, also where it cannot come to be from its beginning on: it may stand so, too.
func strewn(c impl.BusCfg, seed int) impl.TlmState {
	n := chance(seed*104729 + 5)
	s := startAsSaid()
	s.Atm = copyState(okStates()[n.below(len(okStates()))])
	for who, prog := range c.Progs {
		s.Asked[who] = n.below(len(prog) + 1)
		for k := range s.Asked[who] {
			j := impl.TlmJob{Who: who, N: k}
			place := n.below(3)
			if place == 0 {
				s.Wait = append(s.Wait, j)
				continue
			}
			j.Rsp = impl.RspRsp{Id: prog[k].Id, Code: 1 + n.below(4), Data: risingWords()[:n.below(5)]}
			if place == 1 {
				s.Done = append(s.Done, j)
			} else {
				s.Told = slices.Insert(s.Told, n.below(len(s.Told)+1), j)
			}
		}
	}
	return copyStand(s)
}
