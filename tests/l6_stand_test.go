package tests

import (
	"math"
	"slices"
	"testing"

	"loop.example/crossyard/impl"
)

// crossing is a bus on which things of both names go to each store, and where there is none; crossed is how it stands with something in each place, and in some as much as may be.
func crossing() impl.BusCfg {
	return busOf(doMaps()[0],
		[]impl.ReqReq{writeOf(1, 300, 3), readOf(1), named(1, readOf(16)), readOf(2), named(1, readOf(17)), readOf(33), named(1, readOf(60)), readOf(3), named(1, readOf(18))},
		[]impl.ReqReq{holdOf(1, 1), readOf(4), named(1, readOf(5)), writeOf(33, 5, 3), readOf(34), readOf(6)},
		[]impl.ReqReq{readOf(60), named(1, readOf(35)), readOf(61), tryOf(1, 36, 9, 3), readOf(62)},
	)
}

func crossed() impl.CycState {
	c := crossing()
	job := func(who int, n int) impl.TlmJob {
		return impl.TlmJob{Who: who, N: n, Rsp: cameOf(c, impl.TlmJob{Who: who, N: n})}
	}
	return copyCyc(impl.CycState{
		Atm: okStates()[2],
		Ports: []impl.CycPort{
			{Next: 7, Queue: []int{5, 6}, Out: []impl.CycJob{{Who: 0, N: 1, Left: 0}, {Who: 0, N: 2, Left: 1}, {Who: 0, N: 3, Left: 0}, {Who: 0, N: 4, Left: 1}}, Last: 0},
			{Next: 5, Queue: []int{4}, Out: []impl.CycJob{{Who: 1, N: 0, Left: 0}, {Who: 1, N: 2, Left: 0}, {Who: 1, N: 3, Left: 2}}, Last: 3},
			{Next: 4, Out: []impl.CycJob{{Who: 2, N: 0, Left: 3}, {Who: 2, N: 1, Left: 2}, {Who: 2, N: 2, Left: 3}, {Who: 2, N: 3, Left: 2}}, Last: 2},
		},
		Slaves: []impl.CycSlave{
			{Done: []impl.TlmJob{job(1, 0), job(0, 1)}, Pipe: []impl.CycJob{{Who: 0, N: 3, Left: 1}, {Who: 1, N: 2, Left: 2}}, Last: 1},
			{Done: []impl.TlmJob{job(0, 2)}, Pipe: []impl.CycJob{{Who: 0, N: 4, Left: 0}}, Last: 0},
			{Done: []impl.TlmJob{job(2, 1)}, Pipe: []impl.CycJob{{Who: 2, N: 3, Left: 1}, {Who: 1, N: 3, Left: 1}}, Last: 1},
			{Done: []impl.TlmJob{job(2, 0)}, Pipe: []impl.CycJob{{Who: 2, N: 2, Left: 3}}, Last: 2},
		},
		Told: []impl.TlmJob{job(1, 1), job(0, 0)},
	})
}

// cycMayAsSaid is what the document asks of CycOk beyond layers 1 to 5, said without the program.
func cycMayAsSaid(c impl.BusCfg, s impl.CycState) bool {
	if !impl.BusOk(c) || !impl.AtmOk(s.Atm) || len(s.Ports) != 3 || len(s.Slaves) != 4 {
		return false
	}
	for who, p := range s.Ports {
		if !portMayAsSaid(c, who, p) {
			return false
		}
	}
	for at, v := range s.Slaves {
		if !slaveMayAsSaid(c, s, at, v) {
			return false
		}
	}
	for _, p := range s.Ports {
		for _, o := range p.Out {
			many := 0
			for _, v := range s.Slaves {
				many += len(waysTo(v, o.Who, o.N))
			}
			if many != 1 {
				return false
			}
		}
	}
	return impl.TlmOk(c, absAsSaid(s))
}

func portMayAsSaid(c impl.BusCfg, who int, p impl.CycPort) bool {
	if p.Next < 0 || p.Next > len(c.Progs[who]) || len(p.Queue) > 2 || len(p.Out) > 4 || p.Last < 0 || p.Last > 3 {
		return false
	}
	ahead := p.Next
	for _, n := range slices.Backward(p.Queue) {
		ahead--
		if n != ahead || n < 0 {
			return false
		}
	}
	for k, o := range p.Out {
		if o.Who != who || o.N < 0 || o.N >= ahead || o.Left != storeOf(c, who, o.N) {
			return false
		}
		for _, first := range p.Out[:k] {
			if first.N >= o.N || c.Progs[who][first.N].Id == c.Progs[who][o.N].Id && first.Left != o.Left {
				return false
			}
		}
	}
	return true
}

func slaveMayAsSaid(c impl.BusCfg, s impl.CycState, at int, v impl.CycSlave) bool {
	if len(v.Pipe) > 2 || len(v.Done) > 2 || v.Last < 0 || v.Last > 2 {
		return false
	}
	var all []impl.CycJob
	for _, j := range v.Done {
		all = append(all, impl.CycJob{Who: j.Who, N: j.N, Left: at})
	}
	for k, j := range v.Pipe {
		all = append(all, impl.CycJob{Who: j.Who, N: j.N, Left: at})
		if j.Left != c.Lat[at] && (k != 0 || j.Left < 0 || j.Left > c.Lat[at]) {
			return false
		}
	}
	for k, j := range all {
		if j.Who < 0 || j.Who > 2 || !slices.Contains(s.Ports[j.Who].Out, j) {
			return false
		}
		for _, first := range all[:k] {
			if first.Who == j.Who && first.N >= j.N {
				return false
			}
		}
	}
	for _, j := range v.Done {
		if !impl.RspOk(j.Rsp) || j.Rsp.Id != c.Progs[j.Who][j.N].Id {
			return false
		}
	}
	return true
}

// waysTo are the places of a thing at a store.
func waysTo(v impl.CycSlave, who int, n int) []int {
	var all []int
	for k, j := range v.Done {
		if j.Who == who && j.N == n {
			all = append(all, k)
		}
	}
	for k, j := range v.Pipe {
		if j.Who == who && j.N == n {
			all = append(all, len(v.Done)+k)
		}
	}
	return all
}

// cycIsNothing fails unless a bus may not stand so, and nothing comes of any cycles there.
func cycIsNothing(t *testing.T, c impl.BusCfg, s impl.CycState, what string) {
	t.Helper()
	if impl.CycOk(c, s) {
		t.Fatalf("with %s a bus may stand so: %v", what, s)
	}
	for _, in := range []impl.CycIn{nothingStands(), allStands()} {
		if got := impl.CycStep(c, s, in); !sameCyc(got, impl.CycState{}) {
			t.Fatalf("with %s CycStep is %v", what, got)
		}
	}
	for _, many := range []int{0, 1, 2, 300} {
		if got := impl.CycRun(c, s, insBy(0, many)); !sameCyc(got, impl.CycState{}) {
			t.Fatalf("with %s CycRun is %v", what, got)
		}
	}
	for _, many := range []int{math.MinInt, -1, 0, 1, 300} {
		if got := impl.CycFlow(c, s, many); !sameCyc(got, impl.CycState{}) {
			t.Fatalf("with %s CycFlow is %v", what, got)
		}
	}
}

// cycTurn is one part of how a bus stands turned about.
type cycTurn struct {
	what string
	turn func(s *impl.CycState)
}

func TestCycOkWhereverABusMayStand(t *testing.T) {
	eachCycStand(func(c impl.BusCfg, s impl.CycState) {
		if !impl.CycOk(c, s) {
			t.Fatalf("it may not stand as %v", s)
		}
	})
	if !impl.CycOk(crossing(), crossed()) || !cycMayAsSaid(crossing(), crossed()) {
		t.Fatal("crossed it may not stand so")
	}
}

// Of each of these just one part is turned, and it may stand so still.
func TestCycOkOfWhatMayBeTurned(t *testing.T) {
	turns := []cycTurn{
		{"a word", func(s *impl.CycState) { s.Atm.Mem.Words[5] = 65535 }},
		{"what is held", func(s *impl.CycState) { s.Atm.Holds = []int{-1, 63, 0, -1, 5, 5} }},
		{"what was told, the other way round", func(s *impl.CycState) { slices.Reverse(s.Told) }},
		{"what is done of two, the other way round", func(s *impl.CycState) { slices.Reverse(s.Slaves[0].Done) }},
		{"what a store has to do of two, the other way round", func(s *impl.CycState) { slices.Reverse(s.Slaves[2].Pipe) }},
		{"no more Left of the first", func(s *impl.CycState) { s.Slaves[0].Pipe[0].Left = 0 }},
		{"all Left of the first", func(s *impl.CycState) { s.Slaves[0].Pipe[0].Left = 2 }},
		{"another Code", func(s *impl.CycState) { s.Slaves[0].Done[0].Rsp.Code = 4 }},
		{"no words", func(s *impl.CycState) { s.Slaves[3].Done[0].Rsp.Data = []int{} }},
		{"empty lists", func(s *impl.CycState) { s.Ports[2].Queue = make([]int, 0, 3) }},
		{"nothing more to ask", func(s *impl.CycState) {
			s.Ports[2].Next, s.Ports[2].Queue = 5, []int{4}
		}},
	}
	for last := range 4 {
		turns = append(turns, cycTurn{"another store that told last", func(s *impl.CycState) { s.Ports[1].Last = last }})
	}
	for last := range 3 {
		turns = append(turns, cycTurn{"another one who was let in last", func(s *impl.CycState) { s.Slaves[3].Last = last }})
	}
	for _, x := range turns {
		s := crossed()
		x.turn(&s)
		if !impl.CycOk(crossing(), s) || !cycMayAsSaid(crossing(), s) {
			t.Errorf("with %s it may not stand as %v", x.what, s)
		}
	}
}

func allMayNot(t *testing.T, turns []cycTurn) {
	t.Helper()
	for _, x := range turns {
		s := crossed()
		x.turn(&s)
		if cycMayAsSaid(crossing(), s) {
			t.Fatalf("%s: the test is wrong", x.what)
		}
		cycIsNothing(t, crossing(), s, x.what)
	}
}

func TestCycOkOfABusOrStoreThatIsNotOk(t *testing.T) {
	for _, c := range wrongBuses() {
		cycIsNothing(t, c, crossed(), "a bus that is not ok")
	}
	for _, atm := range wrongStates() {
		s := crossed()
		s.Atm = atm
		cycIsNothing(t, crossing(), s, "a store that is not ok")
	}
	cycIsNothing(t, impl.BusCfg{}, impl.CycState{}, "nothing")
	cycIsNothing(t, crossing(), impl.CycState{}, "nothing that stands")
}

func TestCycOkOfOneMoreOrLess(t *testing.T) {
	allMayNot(t, []cycTurn{
		{"no Ports", func(s *impl.CycState) { s.Ports = nil }},
		{"a Port less", func(s *impl.CycState) { s.Ports = s.Ports[:2] }},
		{"a Port more", func(s *impl.CycState) { s.Ports = append(s.Ports, impl.CycPort{}) }},
		{"no Slaves", func(s *impl.CycState) { s.Slaves = nil }},
		{"a Slave less", func(s *impl.CycState) { s.Slaves = s.Slaves[:3] }},
		{"a Slave more", func(s *impl.CycState) { s.Slaves = append(s.Slaves, impl.CycSlave{}) }},
	})
	for _, c := range cycBuses() {
		for _, turn := range []func(s *impl.CycState){
			func(s *impl.CycState) { s.Ports = s.Ports[:2] },
			func(s *impl.CycState) { s.Ports = append(s.Ports, s.Ports[2]) },
			func(s *impl.CycState) { s.Slaves = s.Slaves[:3] },
			func(s *impl.CycState) { s.Slaves = append(s.Slaves, s.Slaves[3]) },
		} {
			s := restAsSaid()
			turn(&s)
			cycIsNothing(t, c, s, "one more or less of all at rest")
		}
	}
}

func TestCycOkOfNumbersThatAreNone(t *testing.T) {
	for _, n := range []int{math.MinInt, -1 << 32, -2, -1, 4, 5, 1 << 32, math.MaxInt} {
		for who := range 3 {
			allMayNot(t, []cycTurn{{"no such store that told last", func(s *impl.CycState) { s.Ports[who].Last = n }}})
		}
	}
	for _, n := range noWho {
		for at := range 4 {
			allMayNot(t, []cycTurn{{"no such one who was let in last", func(s *impl.CycState) { s.Slaves[at].Last = n }}})
		}
	}
	for _, n := range []int{math.MinInt, -1 << 32, -1, 0, 10, 13, 1 << 32, math.MaxInt} {
		for who := range 3 {
			allMayNot(t, []cycTurn{{"no such Next", func(s *impl.CycState) { s.Ports[who].Next = n }}})
		}
	}
	for who := range 3 {
		for _, more := range []int{-2, -1, 1, 2} {
			allMayNot(t, []cycTurn{{"another Next", func(s *impl.CycState) { s.Ports[who].Next += more }}})
		}
	}
}

// At rest nothing waits, so that nothing but Next itself is wrong; with what waits moved along it is just beyond what is asked.
func TestCycOkOfNextBeyondWhatIsAsked(t *testing.T) {
	c := crossing()
	for who, prog := range c.Progs {
		for _, n := range []int{math.MinInt, -1, len(prog) + 1, len(prog) + 2, math.MaxInt} {
			s := restAsSaid()
			s.Ports[who].Next = n
			cycIsNothing(t, c, s, "a Next beyond what is asked, at rest")
			s.Ports[who].Queue = []int{n - 1}
			cycIsNothing(t, c, s, "a Next beyond what is asked, and what waits")
			s.Ports[who].Queue = []int{n - 2, n - 1}
			cycIsNothing(t, c, s, "a Next beyond what is asked, and what waits")
			s.Ports[who].Queue, s.Ports[who].Out = nil, []impl.CycJob{{Who: who, N: n - 1}}
			cycIsNothing(t, c, s, "a Next beyond what is asked, and what is on its way")
		}
	}
}

func TestCycOkOfWhatWaits(t *testing.T) {
	turns := []cycTurn{
		{"just the first of what waits", func(s *impl.CycState) { s.Ports[0].Queue = []int{5} }},
		{"just the last of what waits", func(s *impl.CycState) { s.Ports[0].Queue = []int{6} }},
		{"nothing that waits", func(s *impl.CycState) { s.Ports[0].Queue = nil }},
		{"what waits not in order", func(s *impl.CycState) { slices.Reverse(s.Ports[0].Queue) }},
		{"what waits twice", func(s *impl.CycState) { s.Ports[0].Queue = []int{6, 6} }},
		{"what waits, and is on its way", func(s *impl.CycState) { s.Ports[0].Queue = []int{4, 6} }},
		{"what waits, and was told", func(s *impl.CycState) { s.Ports[0].Queue = []int{0, 6} }},
		{"what waits, and was not asked yet", func(s *impl.CycState) { s.Ports[0].Queue = []int{6, 7} }},
		{"what waits ahead of what was told", func(s *impl.CycState) {
			s.Ports[1].Queue = []int{1}
			s.Told[0] = impl.TlmJob{Who: 1, N: 4, Rsp: cameOf(crossing(), impl.TlmJob{Who: 1, N: 4})}
		}},
		{"what waits behind what was asked first, and the last was told", func(s *impl.CycState) {
			s.Ports[0].Queue, s.Ports[0].Out = []int{5, 4}, s.Ports[0].Out[:3]
			s.Slaves[1].Pipe = nil
			s.Told = append(s.Told, impl.TlmJob{Who: 0, N: 6, Rsp: impl.RspRsp{Id: 1, Code: 1}})
		}},
		{"what waits from below 0 on", func(s *impl.CycState) {
			s.Ports[2] = impl.CycPort{Next: 1, Queue: []int{-1, 0}, Last: 3}
			s.Slaves[2].Done, s.Slaves[2].Pipe = nil, s.Slaves[2].Pipe[1:]
			s.Slaves[3] = impl.CycSlave{Last: 2}
		}},
		{"one more that waits than may", func(s *impl.CycState) {
			s.Ports[2].Queue, s.Ports[2].Out = []int{1, 2, 3}, s.Ports[2].Out[:1]
			s.Slaves[2].Done, s.Slaves[2].Pipe = nil, []impl.CycJob{{Who: 1, N: 3, Left: 1}}
			s.Slaves[3].Pipe = nil
		}},
	}
	for _, n := range wildInts {
		if n != 5 {
			turns = append(turns, cycTurn{"something else that waits", func(s *impl.CycState) { s.Ports[0].Queue[0] = n }})
		}
		if n != 4 {
			turns = append(turns, cycTurn{"something else that waits", func(s *impl.CycState) { s.Ports[1].Queue[0] = n }})
		}
	}
	allMayNot(t, turns)
}

func TestCycOkOfWhatIsOnItsWay(t *testing.T) {
	turns := []cycTurn{
		{"nothing on its way", func(s *impl.CycState) { s.Ports[1].Out = nil }},
		{"one less on its way, that is at a store", func(s *impl.CycState) { s.Ports[1].Out = s.Ports[1].Out[:2] }},
		{"one twice on its way", func(s *impl.CycState) { s.Ports[1].Out = append(s.Ports[1].Out, s.Ports[1].Out[2]) }},
		{"what is on its way not rising", func(s *impl.CycState) { slices.Reverse(s.Ports[0].Out) }},
		{"two on their way turned about", func(s *impl.CycState) {
			s.Ports[1].Out[1], s.Ports[1].Out[2] = s.Ports[1].Out[2], s.Ports[1].Out[1]
		}},
		{"what is on its way of another one", func(s *impl.CycState) { s.Ports[1].Out[0].Who = 0 }},
		{"what is on its way of nobody", func(s *impl.CycState) { s.Ports[0].Out[0].Who = -1 }},
		{"at another store than its own", func(s *impl.CycState) {
			s.Ports[1].Out[2].Left = 1
			s.Slaves[2].Pipe = s.Slaves[2].Pipe[:1]
			s.Slaves[1].Pipe = append(s.Slaves[1].Pipe, impl.CycJob{Who: 1, N: 3, Left: 0})
		}},
		{"one on its way that was not asked", func(s *impl.CycState) {
			s.Ports[1].Out = append(s.Ports[1].Out, impl.CycJob{Who: 1, N: 5, Left: 0})
		}},
		{"one on its way, and at its store, that was not asked", func(s *impl.CycState) {
			s.Ports[2].Out = append(s.Ports[2].Out[:3], impl.CycJob{Who: 2, N: 4, Left: 3})
			s.Slaves[2].Pipe = s.Slaves[2].Pipe[1:]
			s.Slaves[3].Pipe = append(s.Slaves[3].Pipe, impl.CycJob{Who: 2, N: 4, Left: 3})
			s.Told = append(s.Told, impl.TlmJob{Who: 2, N: 3, Rsp: impl.RspRsp{Id: 1, Code: 1}})
		}},
		{"one on its way that waits", func(s *impl.CycState) {
			s.Ports[1].Out = append(s.Ports[1].Out, impl.CycJob{Who: 1, N: 4, Left: 2})
		}},
		{"one on its way, at its store, that waits", func(s *impl.CycState) {
			s.Ports[1].Out = append(s.Ports[1].Out, impl.CycJob{Who: 1, N: 4, Left: 2})
			s.Slaves[2].Pipe[0] = impl.CycJob{Who: 1, N: 4, Left: 1}
		}},
	}
	for _, n := range wildInts {
		for who, p := range crossed().Ports {
			for k, o := range p.Out {
				if n != o.N {
					turns = append(turns, cycTurn{"something else on its way", func(s *impl.CycState) { s.Ports[who].Out[k].N = n }})
				}
				if n != o.Left {
					turns = append(turns, cycTurn{"what is on its way at another store", func(s *impl.CycState) { s.Ports[who].Out[k].Left = n }})
				}
				if n != who {
					turns = append(turns, cycTurn{"what is on its way of another one", func(s *impl.CycState) { s.Ports[who].Out[k].Who = n }})
				}
			}
		}
	}
	allMayNot(t, turns)
}

// lane is a bus on which one asks so many things, each of a store and by a name, all asked, those from some place on at their stores: as much of each as is said done, all else to do.
func lane(asks []impl.ReqReq, told int, done [4]int) cycStand {
	c := busOf(doMaps()[0], nil, asks, nil)
	s := restAsSaid()
	s.Ports[1].Next = len(asks)
	for n := range asks {
		j := impl.TlmJob{Who: 1, N: n, Rsp: impl.RspRsp{Id: asks[n].Id, Code: 1}}
		if n < told {
			s.Told = append(s.Told, j)
			continue
		}
		at := storeOf(c, 1, n)
		s.Ports[1].Out = append(s.Ports[1].Out, impl.CycJob{Who: 1, N: n, Left: at})
		if v := &s.Slaves[at]; len(v.Done) < done[at] {
			v.Done = append(v.Done, j)
		} else {
			v.Pipe = append(v.Pipe, impl.CycJob{Who: 1, N: n, Left: c.Lat[at]})
		}
	}
	return cycStand{c, s}
}

// Of each of these just how much there is of something is wrong, and with one less it is not.
func TestCycOkOfMoreThanMayBe(t *testing.T) {
	one, two := readOf(1), named(1, readOf(16))
	for _, x := range []struct {
		what  string
		right cycStand
		wrong cycStand
	}{
		{"on its way", lane([]impl.ReqReq{one, one, one, two, two}, 1, [4]int{1, 1}), lane([]impl.ReqReq{one, one, one, two, two}, 0, [4]int{1, 1})},
		{"on its way", lane([]impl.ReqReq{one, one, one, two, two, two}, 2, [4]int{0, 1}), lane([]impl.ReqReq{one, one, one, two, two, two}, 1, [4]int{0, 1})},
		{"to do", lane([]impl.ReqReq{one, one, one}, 1, [4]int{}), lane([]impl.ReqReq{one, one, one}, 0, [4]int{})},
		{"to do", lane([]impl.ReqReq{one, one, one, one}, 0, [4]int{2}), lane([]impl.ReqReq{one, one, one, one}, 0, [4]int{1})},
		{"done", lane([]impl.ReqReq{two, two, two}, 1, [4]int{0, 2}), lane([]impl.ReqReq{two, two, two}, 0, [4]int{0, 3})},
		{"done", lane([]impl.ReqReq{two, two, two, two}, 0, [4]int{0, 2}), lane([]impl.ReqReq{two, two, two, two}, 0, [4]int{0, 3})},
	} {
		if !impl.CycOk(x.right.bus, x.right.state) {
			t.Errorf("with as much %s as may be it may not stand so: %v", x.what, x.right.state)
		}
		cycIsNothing(t, x.wrong.bus, x.wrong.state, "more "+x.what+" than may be")
	}
}

func TestCycOkOfOneNameAtTwoStores(t *testing.T) {
	for _, other := range []int{16, 33, 60} {
		for id := range 2 {
			torn := lane([]impl.ReqReq{named(id, readOf(1)), named(id, readOf(other))}, 0, [4]int{})
			cycIsNothing(t, torn.bus, torn.state, "one name at two stores")
			torn = lane([]impl.ReqReq{named(id, readOf(1)), named(1-id, readOf(2)), named(id, readOf(other))}, 0, [4]int{1, 1, 1, 1})
			cycIsNothing(t, torn.bus, torn.state, "one name at two stores, another one between")
			torn = lane([]impl.ReqReq{named(id, readOf(1)), named(id, readOf(1)), named(id, readOf(other))}, 2, [4]int{})
			if !impl.CycOk(torn.bus, torn.state) {
				t.Errorf("what was told by the name, at another store, is taken to be on its way: %v", torn.state)
			}
			both := lane([]impl.ReqReq{named(id, readOf(1)), named(1-id, readOf(other))}, 0, [4]int{})
			if !impl.CycOk(both.bus, both.state) {
				t.Errorf("of two names it may not stand as %v", both.state)
			}
		}
	}
}

func TestCycOkOfWhatIsAtStores(t *testing.T) {
	turns := []cycTurn{
		{"what is on its way at no store", func(s *impl.CycState) { s.Slaves[0].Pipe = s.Slaves[0].Pipe[:1] }},
		{"what is done at no store", func(s *impl.CycState) { s.Slaves[3].Done = nil }},
		{"what is on its way at no store, and told", func(s *impl.CycState) {
			s.Slaves[0].Pipe = s.Slaves[0].Pipe[:1]
			s.Told = append(s.Told, impl.TlmJob{Who: 1, N: 2, Rsp: impl.RspRsp{Id: 1, Code: 1}})
		}},
		{"what is done, on its way at no store, and told", func(s *impl.CycState) {
			s.Told = append(s.Told, s.Slaves[3].Done[0])
			s.Slaves[3].Done = nil
		}},
		{"what is at two stores", func(s *impl.CycState) {
			s.Slaves[1].Pipe = append(s.Slaves[1].Pipe, impl.CycJob{Who: 1, N: 3, Left: 0})
		}},
		{"what is at one store twice", func(s *impl.CycState) { s.Slaves[1].Pipe = append(s.Slaves[1].Pipe, s.Slaves[1].Pipe[0]) }},
		{"what is done twice", func(s *impl.CycState) { s.Slaves[3].Done = append(s.Slaves[3].Done, s.Slaves[3].Done[0]) }},
		{"what is done, and to do", func(s *impl.CycState) {
			s.Slaves[3].Pipe = append([]impl.CycJob{{Who: 2, N: 0, Left: 0}}, s.Slaves[3].Pipe...)
		}},
		{"what is to do twice, and another one at no store", func(s *impl.CycState) { s.Slaves[2].Pipe[1] = s.Slaves[2].Pipe[0] }},
		{"what was told, and is done", func(s *impl.CycState) { s.Slaves[1].Done = append(s.Slaves[1].Done, s.Told[1]) }},
		{"what waits, and is to do", func(s *impl.CycState) {
			s.Slaves[1].Pipe = append(s.Slaves[1].Pipe, impl.CycJob{Who: 1, N: 4, Left: 0})
		}},
		{"what is to do ahead of what was asked first", func(s *impl.CycState) {
			s.Slaves[1].Pipe[0].N, s.Slaves[1].Done[0].N = 2, 4
		}},
		{"what is done ahead of what was asked first", func(s *impl.CycState) {
			s.Slaves[3] = impl.CycSlave{Done: []impl.TlmJob{{Who: 2, N: 2, Rsp: impl.RspRsp{Code: 4}}, {Who: 2, N: 0, Rsp: impl.RspRsp{Code: 4}}}, Last: 2}
		}},
		{"what is to do, not rising", func(s *impl.CycState) {
			s.Slaves[3] = impl.CycSlave{Pipe: []impl.CycJob{{Who: 2, N: 2, Left: 3}, {Who: 2, N: 0, Left: 3}}, Last: 2}
		}},
		{"stores turned about", func(s *impl.CycState) { s.Slaves[1], s.Slaves[3] = s.Slaves[3], s.Slaves[1] }},
	}
	for _, n := range wildInts {
		for at, v := range crossed().Slaves {
			for k, j := range v.Pipe {
				if n != j.N {
					turns = append(turns, cycTurn{"something else to do", func(s *impl.CycState) { s.Slaves[at].Pipe[k].N = n }})
				}
				if n != j.Who {
					turns = append(turns, cycTurn{"what is to do of another one", func(s *impl.CycState) { s.Slaves[at].Pipe[k].Who = n }})
				}
			}
			for k, j := range v.Done {
				if n != j.N {
					turns = append(turns, cycTurn{"something else done", func(s *impl.CycState) { s.Slaves[at].Done[k].N = n }})
				}
				if n != j.Who {
					turns = append(turns, cycTurn{"what is done of another one", func(s *impl.CycState) { s.Slaves[at].Done[k].Who = n }})
				}
			}
		}
	}
	allMayNot(t, turns)
}

func TestCycOkOfHowManyCyclesSomethingTakes(t *testing.T) {
	c := crossing()
	for at, v := range crossed().Slaves {
		for k := range v.Pipe {
			for _, left := range append([]int{-3, -2, -1, 0, 1, 2, 3, 4, 5}, wildInts...) {
				s := crossed()
				s.Slaves[at].Pipe[k].Left = left
				may := left == c.Lat[at] || k == 0 && left >= 0 && left <= c.Lat[at]
				if !may {
					cycIsNothing(t, c, s, "a Left that may not be")
				} else if !impl.CycOk(c, s) {
					t.Errorf("store %d may not have %v to do", at, s.Slaves[at].Pipe)
				}
			}
		}
	}
}

func TestCycOkOfWhatCameOfThings(t *testing.T) {
	c := crossing()
	for at, v := range crossed().Slaves {
		for k, j := range v.Done {
			for _, rsp := range wrongRspsOf(c, j) {
				s := crossed()
				s.Slaves[at].Done[k].Rsp = rsp
				cycIsNothing(t, c, s, "what may not come of what is done")
			}
			for _, code := range allCodes {
				s := crossed()
				s.Slaves[at].Done[k].Rsp = impl.RspRsp{Id: c.Progs[j.Who][j.N].Id, Code: code, Data: []int{0, 65535, 1, 2}}
				if !impl.CycOk(c, s) {
					t.Errorf("%v may not come of something", s.Slaves[at].Done[k].Rsp)
				}
			}
		}
	}
	for k, j := range crossed().Told {
		for _, rsp := range wrongRspsOf(c, j) {
			s := crossed()
			s.Told[k].Rsp = rsp
			cycIsNothing(t, c, s, "what may not come of what was told")
		}
	}
}

func TestCycOkOfWhatWasTold(t *testing.T) {
	told := func(who int, n int, id int) impl.TlmJob {
		return impl.TlmJob{Who: who, N: n, Rsp: impl.RspRsp{Id: id, Code: 1}}
	}
	turns := []cycTurn{
		{"one less told", func(s *impl.CycState) { s.Told = s.Told[:1] }},
		{"nothing told", func(s *impl.CycState) { s.Told = nil }},
		{"one told twice", func(s *impl.CycState) { s.Told = append(s.Told, s.Told[0]) }},
		{"one told in the place of another", func(s *impl.CycState) { s.Told[0] = s.Told[1] }},
	}
	for _, j := range []impl.TlmJob{{Who: 0, N: 5}, {Who: 0, N: 7}, {Who: 0, N: 9}, {Who: 0, N: 1}, {Who: 0, N: 4}, {Who: 1, N: -1}, {Who: 2, N: 4}, {Who: -1}, {Who: 3}, {Who: math.MinInt}, {Who: math.MaxInt}, {Who: 1, N: math.MinInt}, {Who: 1, N: math.MaxInt}} {
		for id := range 2 {
			turns = append(turns, cycTurn{"what was told, and is elsewhere, or was not asked", func(s *impl.CycState) { s.Told = append(s.Told, told(j.Who, j.N, id)) }})
		}
	}
	allMayNot(t, turns)
}

// shaken turns one thing, of any list, by chance.
func shaken(s impl.CycState, n *chance) impl.CycState {
	x := copyCyc(s)
	p, v := &x.Ports[n.below(3)], &x.Slaves[n.below(4)]
	number := []int{-1, 0, 1, 2, 3, 4, 5, 6, 12, math.MinInt, math.MaxInt}[n.below(11)]
	switch n.below(13) {
	case 0:
		p.Next += n.below(3) - 1
	case 1:
		p.Last = number
	case 2:
		v.Last = number
	case 3:
		p.Queue = shakenList(p.Queue, n, func(k *int) { *k = number })
	case 4, 5, 6:
		p.Out = shakenList(p.Out, n, func(o *impl.CycJob) { *[]*int{&o.Who, &o.N, &o.Left}[n.below(3)] = number })
	case 7, 8, 9:
		v.Pipe = shakenList(v.Pipe, n, func(j *impl.CycJob) { *[]*int{&j.Who, &j.N, &j.Left}[n.below(3)] = number })
	case 10, 11:
		v.Done = shakenList(v.Done, n, func(j *impl.TlmJob) { *[]*int{&j.Who, &j.N, &j.Rsp.Id, &j.Rsp.Code}[n.below(4)] = number })
	case 12:
		x.Told = shakenList(x.Told, n, func(j *impl.TlmJob) { *[]*int{&j.Who, &j.N, &j.Rsp.Id, &j.Rsp.Code}[n.below(4)] = number })
	}
	return x
}

func shakenList[T any](list []T, n *chance, turn func(one *T)) []T {
	if len(list) == 0 {
		return list
	}
	k, other := n.below(len(list)), n.below(len(list))
	switch n.below(4) {
	case 0:
		return slices.Delete(list, k, k+1)
	case 1:
		return slices.Insert(list, other, list[k])
	case 2:
		list[k], list[other] = list[other], list[k]
	default:
		turn(&list[k])
	}
	return list
}

func TestCycOkIsAsTheDocumentSaysHoweverItIsShaken(t *testing.T) {
	n := chance(4)
	both := map[bool]int{}
	look := func(c impl.BusCfg, s impl.CycState) {
		for range 1 + n.below(2) {
			s = shaken(s, &n)
			if len(s.Ports) != 3 || len(s.Slaves) != 4 {
				return
			}
		}
		want := cycMayAsSaid(c, s)
		both[want]++
		if got := impl.CycOk(c, s); got != want {
			t.Fatalf("CycOk of %v, of the bus %v, is %v", s, c, got)
		}
	}
	eachCycStand(look)
	for range 20000 {
		look(crossing(), crossed())
	}
	if both[true] < 500 || both[false] < 500 {
		t.Fatalf("all are much the same: %v", both)
	}
}
