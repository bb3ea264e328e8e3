package tests

import (
	"slices"
	"sync"

	"loop.example/crossyard/impl"
)

// happensAsSaid is what the document asks of CycEvents, of what is all ok, said without the program: read off how a bus stands ahead of a cycle, and behind it.
func happensAsSaid(c impl.BusCfg, s impl.CycState, in impl.CycIn) []impl.TlmEvent {
	x := cycleAsSaid(c, s, in)
	var all []impl.TlmEvent
	for _, j := range x.Told[len(s.Told):] {
		all = append(all, impl.TlmEvent{Kind: 3, Who: j.Who, N: j.N})
	}
	for at, v := range s.Slaves {
		if len(v.Pipe) == 0 {
			continue
		}
		first := v.Pipe[0]
		if len(x.Slaves[at].Pipe) == 0 || x.Slaves[at].Pipe[0].Who != first.Who || x.Slaves[at].Pipe[0].N != first.N {
			all = append(all, impl.TlmEvent{Kind: 2, Who: first.Who, N: first.N})
		}
	}
	for who, p := range s.Ports {
		if x.Ports[who].Next > p.Next {
			all = append(all, impl.TlmEvent{Kind: 1, Who: who, N: p.Next})
		}
	}
	return all
}

// traceAsSaid is what the document asks of CycTrace, of what is all ok, said without the program.
func traceAsSaid(c impl.BusCfg, s impl.CycState, ins []impl.CycIn) []impl.TlmEvent {
	var all []impl.TlmEvent
	for _, in := range ins {
		all = append(all, happensAsSaid(c, s, in)...)
		s = cycleAsSaid(c, s, in)
	}
	return all
}

// orderAsSaid is what the document asks of AtmOrder, of a bus that is ok, said without the program.
func orderAsSaid(c impl.BusCfg, events []impl.TlmEvent) (impl.AtmState, []impl.TlmJob) {
	s := startAsSaid().Atm
	var all []impl.TlmJob
	for _, e := range events {
		if e.Kind != 2 || e.Who < 0 || e.Who > 2 || e.N < 0 || e.N >= len(c.Progs[e.Who]) {
			continue
		}
		j := impl.TlmJob{Who: e.Who, N: e.N}
		s, j.Rsp = doneAtOnce(c.Map, s, e.Who, c.Progs[e.Who][e.N])
		all = append(all, j)
	}
	return s, all
}

// askedAddrs is a thing for each address, by names that take turns, each turn of so many.
func askedAddrs(turn int, addrs ...int) []impl.ReqReq {
	var all []impl.ReqReq
	for k, addr := range addrs {
		r := readOf(addr)
		if k%3 == 1 && addr != 16 {
			r = writeOf(addr, 100*turn+k, 3)
		}
		all = append(all, named(k/turn%2, r))
	}
	return all
}

// apartBuses are such on which somebody asks of stores of its own: each of one, one of two, of where there is none, some of nothing.
func apartBuses() []impl.BusCfg {
	list := []impl.MapRange{{From: 0, To: 15, Slave: 0}, {From: 16, To: 31, Slave: 1, Only: true}, {From: 32, To: 47, Slave: 2}}
	zero, one := askedAddrs(1, 1, 2, 1, 3, 2, 1, 1, 4, 1, 2, 3, 1), askedAddrs(2, 16, 17, 16, 18, 16, 17)
	two, none := askedAddrs(3, 33, 34, 33, 33, 35, 36, 33, 34, 35, 33, 40, 41), askedAddrs(1, 60, 50, 51, 60, 15+33, 63)
	both := askedAddrs(2, 1, 16, 2, 17, 1, 2, 16, 16, 3, 1, 18, 1)
	far := askedAddrs(1, 33, 60, 34, 33, 61, 62, 35, 60)
	holds := []impl.ReqReq{holdOf(0, 33), holdOf(1, 34), tryOf(0, 33, 9, 3), tryOf(1, 34, 8, 1), tryOf(0, 33, 7, 3), readOf(33)}
	slow := func(lat [4]int, progs ...[]impl.ReqReq) impl.BusCfg {
		return impl.BusCfg{Map: list, Lat: lat[:], Progs: progs}
	}
	return []impl.BusCfg{
		slow([4]int{0, 0, 0, 0}, zero, one, two),
		slow([4]int{3, 1, 0, 2}, none, zero, holds),
		slow([4]int{0, 3, 2, 1}, both, far, nil),
		slow([4]int{2, 0, 1, 3}, far, nil, both),
		slow([4]int{1, 1, 1, 1}, nil, both, holds),
		slow([4]int{3, 3, 3, 3}, zero, both, far),
		slow([4]int{0, 2, 0, 2}, both, none, zero),
		slow([4]int{1, 0, 2, 0}, nil, nil, nil),
		slow([4]int{2, 2, 2, 2}, nil, far, nil),
	}
}

// crowdedBuses ask as much as may be: all of one store, as slow as may be; and by one name, of two stores by turns, so that each thing waits for the one ahead of it.
func crowdedBuses() []impl.BusCfg {
	list := doMaps()[0]
	lat := []int{3, 3, 3, 3}
	same := slices.Repeat([]impl.ReqReq{readOf(1), named(1, readOf(2))}, 6)
	turns := slices.Repeat([]impl.ReqReq{readOf(1), readOf(16)}, 6)
	other := slices.Repeat([]impl.ReqReq{readOf(60), readOf(1), readOf(16)}, 4)
	return []impl.BusCfg{
		{Map: list, Lat: lat, Progs: [][]impl.ReqReq{same, same, same}},
		{Map: list, Lat: lat, Progs: [][]impl.ReqReq{turns, turns, turns}},
		{Map: list, Lat: lat, Progs: [][]impl.ReqReq{turns, same, other}},
	}
}

// traceBuses are all buses whose cycles are looked at.
func traceBuses() []impl.BusCfg {
	return slices.Concat(cycBuses(), apartBuses(), crowdedBuses(), []impl.BusCfg{crossing()})
}

// journey is cycles of a bus from its beginning on, as the program tells them: how it stands ahead of, and behind, each, and what happens in each.
type journey struct {
	bus    impl.BusCfg
	ins    []impl.CycIn
	stands []impl.CycState
	events [][]impl.TlmEvent
}

func journeyOf(c impl.BusCfg, ins []impl.CycIn) journey {
	j := journey{bus: c, ins: ins, stands: []impl.CycState{impl.CycNew()}}
	for k, in := range ins {
		j.events = append(j.events, impl.CycEvents(c, j.stands[k], in))
		j.stands = append(j.stands, impl.CycStep(c, j.stands[k], in))
	}
	return j
}

func (j journey) end() impl.CycState { return j.stands[len(j.stands)-1] }

// insOf are lists of what comes from outside: nothing stands still; one thing alone does, for all cycles, and for some; and by chance.
func insOf() [][]impl.CycIn {
	all := [][]impl.CycIn{slices.Repeat([]impl.CycIn{nothingStands()}, 120)}
	for _, in := range onesAt() {
		all = append(all, slices.Repeat([]impl.CycIn{in}, 40), slices.Repeat([]impl.CycIn{nothingStands(), nothingStands(), in, in, in}, 12))
	}
	for seed := range 6 {
		all = append(all, insBy(seed, 70))
	}
	return all
}

// journeys are made once; no test writes into them.
var journeys = sync.OnceValue(func() []journey {
	var all []journey
	for _, c := range traceBuses() {
		for _, ins := range insOf() {
			all = append(all, journeyOf(c, ins))
		}
	}
	return all
})

// flows are journeys in which nothing stands still.
var flows = sync.OnceValue(func() []journey {
	var all []journey
	for _, c := range traceBuses() {
		all = append(all, journeyOf(c, slices.Repeat([]impl.CycIn{impl.InAll()}, 250)))
	}
	return all
})

// letInAt is what a store lets in in a cycle; false, if that is nothing.
func letInAt(s impl.CycState, x impl.CycState, at int) (impl.CycJob, bool) {
	for _, j := range x.Slaves[at].Pipe {
		if !slices.ContainsFunc(s.Slaves[at].Pipe, func(q impl.CycJob) bool { return q.Who == j.Who && q.N == j.N }) {
			return j, true
		}
	}
	return impl.CycJob{}, false
}

// ofKind is what happens of one Kind.
func ofKind(events []impl.TlmEvent, kind int) []impl.TlmEvent {
	var all []impl.TlmEvent
	for _, e := range events {
		if e.Kind == kind {
			all = append(all, e)
		}
	}
	return all
}

// beginsWith says whether a list of what was told begins with another one.
func beginsWith(list []impl.TlmJob, first []impl.TlmJob) bool {
	return len(list) >= len(first) && sameJobs(list[:len(first)], first)
}

// toldTo is what one was told, said without the program.
func toldTo(list []impl.TlmJob, who int) []impl.TlmJob {
	var all []impl.TlmJob
	for _, j := range list {
		if j.Who == who {
			all = append(all, j)
		}
	}
	return all
}

// byAsked is what came of what one was told, by what it asked; false, if it is not all, or something is twice.
func byAsked(list []impl.TlmJob, who int, many int) ([]impl.RspRsp, bool) {
	own := toldTo(list, who)
	all := make([]impl.RspRsp, many)
	for n := range many {
		at := jobAt(own, who, n)
		if at < 0 || len(own) != many {
			return nil, false
		}
		all[n] = own[at].Rsp
	}
	return all, true
}

// asksOfStore says whether one asks of a store.
func asksOfStore(c impl.BusCfg, who int, at int) bool {
	for n := range c.Progs[who] {
		if storeOf(c, who, n) == at {
			return true
		}
	}
	return false
}

// apartAsSaid is what the document asks of BusApart, of what is ok, said without the program.
func apartAsSaid(c impl.BusCfg, who int) bool {
	for at := range 4 {
		for other := range 3 {
			if other != who && asksOfStore(c, who, at) && asksOfStore(c, other, at) {
				return false
			}
		}
	}
	return true
}

// aloneAsSaid is what the document asks of BusAlone, of what is ok, said without the program.
func aloneAsSaid(c impl.BusCfg, who int) impl.BusCfg {
	x := copyBus(c)
	for other := range 3 {
		if other != who {
			x.Progs[other] = nil
		}
	}
	return x
}

// sameBus takes the empty list and the nil list for the same.
func sameBus(a impl.BusCfg, b impl.BusCfg) bool {
	return slices.Equal(a.Map, b.Map) && slices.Equal(a.Lat, b.Lat) && slices.EqualFunc(a.Progs, b.Progs, func(x []impl.ReqReq, y []impl.ReqReq) bool {
		return slices.EqualFunc(x, y, sameAsk)
	})
}
