package tests

import (
	"math"
	"slices"
	"testing"

	"loop.example/crossyard/impl"
)

// happenedIn fails unless CycEvents is what the document asks for, and, if all of it happens, a bus stands as behind the cycle.
func happenedIn(t *testing.T, c impl.BusCfg, s impl.CycState, in impl.CycIn) []impl.TlmEvent {
	t.Helper()
	got := impl.CycEvents(c, s, in)
	if want := happensAsSaid(c, s, in); !slices.Equal(got, want) {
		t.Fatalf("with %v, from %v on, %v happens, not %v", in, s, got, want)
	}
	x, n := impl.TlmRun(c, impl.CycAbs(s), got)
	if n != len(got) || !sameStand(x, impl.CycAbs(impl.CycStep(c, s, in))) {
		t.Fatalf("with %v, from %v on, of %v %d may happen, and lead to %v", in, s, got, n, x)
	}
	return got
}

// Cycles in which something is told, done and asked, or just some of that, and such in which there are several of each, all come along.
func TestP5ACycleIsWhatHappensInIt(t *testing.T) {
	ways := map[[3]bool]int{}
	several := 0
	for _, j := range journeys() {
		for k, in := range j.ins {
			got := happenedIn(t, j.bus, j.stands[k], in)
			tells, does, asks := len(ofKind(got, 3)), len(ofKind(got, 2)), len(ofKind(got, 1))
			ways[[3]bool{tells > 0, does > 0, asks > 0}]++
			if tells > 1 && does > 1 && asks > 1 {
				several++
			}
		}
	}
	if len(ways) != 8 || several == 0 {
		t.Fatalf("not each way of a cycle was looked at: %v, and %d with several of all", ways, several)
	}
}

func TestP5WhereverABusMayStand(t *testing.T) {
	n := 0
	eachCycStand(func(c impl.BusCfg, s impl.CycState) {
		n++
		happenedIn(t, c, s, nothingStands())
		happenedIn(t, c, s, insBy(n, 1)[0])
	})
}

func TestP5WhateverComesFromOutside(t *testing.T) {
	for n := range 1 << 10 {
		in := nothingStands()
		for k := range 3 {
			in.Ready[k], in.Send[k] = n>>k&1 == 0, n>>(7+k)&1 == 0
		}
		for k := range 4 {
			in.Stall[k] = n>>(3+k)&1 == 0
		}
		happenedIn(t, crossing(), crossed(), in)
		happenedIn(t, crossing(), impl.CycStep(crossing(), crossed(), in), in)
	}
}

// event is what happens, in short.
func event(kind int, who int, n int) impl.TlmEvent {
	return impl.TlmEvent{Kind: kind, Who: who, N: n}
}

// The example of the document, cycle by cycle.
func TestCycEventsByHand(t *testing.T) {
	list := []impl.MapRange{{From: 0, To: 15, Slave: 0}, {From: 16, To: 31, Slave: 1}, {From: 32, To: 47, Slave: 2, Only: true}}
	c := impl.BusCfg{Map: list, Lat: []int{2, 0, 1, 0}, Progs: [][]impl.ReqReq{
		{writeOf(1, 300, 3), named(1, readOf(16))},
		{holdOf(0, 1), tryOf(0, 1, 9, 1)},
		{writeOf(33, 1, 3), {Id: 1, Kind: impl.ReqRead, Addr: 60, Many: 2}},
	}}
	want := [][]impl.TlmEvent{
		{event(1, 0, 0), event(1, 1, 0), event(1, 2, 0)},
		{event(1, 0, 1), event(1, 1, 1), event(1, 2, 1)},
		{},
		{event(2, 0, 1), event(2, 2, 0), event(2, 2, 1)},
		{event(3, 0, 1), event(3, 2, 0), event(2, 0, 0)},
		{event(3, 0, 0), event(3, 2, 1)},
		{},
		{event(2, 1, 0)},
		{event(3, 1, 0)},
		{},
		{event(2, 1, 1)},
		{event(3, 1, 1)},
		{},
	}
	s := impl.CycNew()
	for k, events := range want {
		if got := impl.CycEvents(c, s, nothingStands()); !slices.Equal(got, events) {
			t.Errorf("in the %d. cycle %v happens, not %v", k+1, got, events)
		}
		if done := impl.CycDone(c, s); done != (k == 12) {
			t.Errorf("behind %d cycles all was told: %v", k, done)
		}
		s = impl.CycStep(c, s, nothingStands())
	}
}

// Store 0 does something for 1, who is told something else by store 1 in the same cycle.
func TestCycEventsOfOneThatIsToldSomethingElse(t *testing.T) {
	at := lane([]impl.ReqReq{readOf(1), named(1, readOf(16))}, 0, [4]int{0, 1})
	at.state.Slaves[0].Pipe[0].Left = 0
	if got := happenedIn(t, at.bus, at.state, nothingStands()); !slices.Equal(got, []impl.TlmEvent{event(3, 1, 1), event(2, 1, 0)}) {
		t.Fatalf("%v happens", got)
	}
}

func TestCycEventsOfOneThatIsToldAndAsks(t *testing.T) {
	at := lane([]impl.ReqReq{readOf(1), readOf(2)}, 0, [4]int{1})
	at.state.Ports[1].Next, at.state.Ports[1].Out, at.state.Slaves[0].Pipe = 1, at.state.Ports[1].Out[:1], nil
	if got := happenedIn(t, at.bus, at.state, nothingStands()); !slices.Equal(got, []impl.TlmEvent{event(3, 1, 0), event(1, 1, 1)}) {
		t.Fatalf("%v happens", got)
	}
	for in, want := range map[string][]impl.TlmEvent{"101": {event(1, 1, 1)}, "111": {event(3, 1, 0), event(1, 1, 1)}} {
		if got := happenedIn(t, at.bus, at.state, comes(in, "0000", "111")); !slices.Equal(got, want) {
			t.Fatalf("where %s are Ready %v happens", in, got)
		}
	}
	if got := happenedIn(t, at.bus, at.state, comes("111", "0000", "101")); !slices.Equal(got, []impl.TlmEvent{event(3, 1, 0)}) {
		t.Fatalf("where it does not Send %v happens", got)
	}
}

// What becomes free by being told is free for what is done in the same cycle.
func TestCycEventsWhereDoneBecomesFree(t *testing.T) {
	at := lane([]impl.ReqReq{readOf(1), readOf(2), writeOf(3, 5, 3), readOf(4)}, 0, [4]int{2})
	at.state.Slaves[0].Pipe[0].Left = 0
	if got := happenedIn(t, at.bus, at.state, nothingStands()); !slices.Equal(got, []impl.TlmEvent{event(3, 1, 0), event(2, 1, 2)}) {
		t.Fatalf("where Done becomes free %v happens", got)
	}
	if got := happenedIn(t, at.bus, at.state, comes("101", "0000", "111")); len(got) != 0 {
		t.Fatalf("where Done is full %v happens", got)
	}
	if got := happenedIn(t, at.bus, at.state, comes("111", "1000", "111")); !slices.Equal(got, []impl.TlmEvent{event(3, 1, 0)}) {
		t.Fatalf("where the store stands still %v happens", got)
	}
}

// Of one store two may be told in one cycle, if the second thing is for one that comes behind.
func TestCycEventsOfTwoThatOneStoreTells(t *testing.T) {
	at := doneFor([4][]int{{0, 1}, {}, {2}})
	if got := happenedIn(t, at.bus, at.state, nothingStands()); !slices.Equal(got, []impl.TlmEvent{event(3, 0, 0), event(3, 1, 0), event(3, 2, 0)}) {
		t.Fatalf("%v happens", got)
	}
	at = doneFor([4][]int{{1, 0}, {}, {2}})
	if got := happenedIn(t, at.bus, at.state, nothingStands()); !slices.Equal(got, []impl.TlmEvent{event(3, 1, 0), event(3, 2, 0)}) {
		t.Fatalf("%v happens", got)
	}
}

// What is done goes by stores, whoever asked it.
func TestCycEventsOfStoresInOrder(t *testing.T) {
	c := busOf(doMaps()[0], []impl.ReqReq{readOf(60)}, []impl.ReqReq{readOf(33)}, []impl.ReqReq{readOf(1)})
	c.Lat = []int{0, 0, 0, 0}
	s := impl.CycFlow(c, impl.CycNew(), 2)
	if got := happenedIn(t, c, s, nothingStands()); !slices.Equal(got, []impl.TlmEvent{event(2, 2, 0), event(2, 1, 0), event(2, 0, 0)}) {
		t.Fatalf("%v happens", got)
	}
}

func TestP35WhereAllStandsStillNothingHappens(t *testing.T) {
	let := 0
	look := func(c impl.BusCfg, s impl.CycState) {
		x := impl.CycStep(c, s, allStands())
		if got := impl.CycEvents(c, s, allStands()); len(got) != 0 || !sameStand(impl.CycAbs(x), impl.CycAbs(s)) || !sameJobs(x.Told, s.Told) || !sameState(x.Atm, s.Atm) {
			t.Fatalf("from %v on %v happens, and it stands as %v", s, got, x)
		}
		for at := range 4 {
			if _, ok := letInAt(s, x, at); ok {
				let++
			}
		}
	}
	eachCycStand(look)
	look(crossing(), crossed())
	if let == 0 {
		t.Fatal("what waits goes to no store")
	}
}

func TestP81InACycleAllHasItsTurn(t *testing.T) {
	most := [4]int{}
	look := func(c impl.BusCfg, s impl.CycState, in impl.CycIn) {
		var turns [][2]int
		many := [4]int{}
		got := impl.CycEvents(c, s, in)
		for _, e := range got {
			place := e.Who
			if e.Kind == impl.TlmDo {
				place = storeOf(c, e.Who, e.N)
			}
			turns = append(turns, [2]int{3 - e.Kind, place})
			many[e.Kind]++
			most[e.Kind] = max(most[e.Kind], many[e.Kind])
		}
		for k := 1; k < len(turns); k++ {
			if turns[k-1][0] > turns[k][0] || turns[k-1][0] == turns[k][0] && turns[k-1][1] >= turns[k][1] {
				t.Fatalf("from %v on %v happens", s, got)
			}
		}
	}
	for _, j := range journeys() {
		for k, in := range j.ins {
			look(j.bus, j.stands[k], in)
		}
	}
	for _, c := range traceBuses() {
		for seed := range 200 {
			look(c, strewnCyc(c, seed), nothingStands())
		}
	}
	if most[impl.TlmTell] != 3 || most[impl.TlmDo] < 3 || most[impl.TlmAsk] != 3 {
		t.Fatalf("of each there was at most %v in a cycle", most)
	}
}

// eventsAreNone fails unless nothing happens in any cycles.
func eventsAreNone(t *testing.T, c impl.BusCfg, s impl.CycState, what string) {
	t.Helper()
	for _, in := range []impl.CycIn{nothingStands(), allStands()} {
		if got := impl.CycEvents(c, s, in); len(got) != 0 {
			t.Fatalf("with %s %v happens in a cycle", what, got)
		}
	}
	for _, many := range []int{0, 1, 2, 300} {
		if got := impl.CycTrace(c, s, insBy(0, many)); len(got) != 0 {
			t.Fatalf("with %s %v happens in cycles", what, got)
		}
	}
	if impl.CycDone(c, s) {
		t.Fatalf("with %s all was told", what)
	}
}

// wrongTurns are each one part of how crossed stands turned about, so that it may not stand so.
func wrongTurns() []cycTurn {
	all := []cycTurn{
		{"no Ports", func(s *impl.CycState) { s.Ports = nil }},
		{"a Port less", func(s *impl.CycState) { s.Ports = s.Ports[:2] }},
		{"a Port more", func(s *impl.CycState) { s.Ports = append(s.Ports, impl.CycPort{}) }},
		{"no Slaves", func(s *impl.CycState) { s.Slaves = nil }},
		{"a Slave less", func(s *impl.CycState) { s.Slaves = s.Slaves[:3] }},
		{"a Slave more", func(s *impl.CycState) { s.Slaves = append(s.Slaves, impl.CycSlave{}) }},
		{"what waits not in order", func(s *impl.CycState) { slices.Reverse(s.Ports[0].Queue) }},
		{"nothing that waits", func(s *impl.CycState) { s.Ports[0].Queue = nil }},
		{"nothing on its way", func(s *impl.CycState) { s.Ports[1].Out = nil }},
		{"what is on its way not rising", func(s *impl.CycState) { slices.Reverse(s.Ports[0].Out) }},
		{"at another store", func(s *impl.CycState) { s.Ports[0].Out[0].Left = 1 }},
		{"of another one", func(s *impl.CycState) { s.Ports[0].Out[0].Who = 1 }},
		{"nothing to do", func(s *impl.CycState) { s.Slaves[1].Pipe = nil }},
		{"something to do twice", func(s *impl.CycState) { s.Slaves[1].Pipe = append(s.Slaves[1].Pipe, s.Slaves[1].Pipe[0]) }},
		{"nothing done", func(s *impl.CycState) { s.Slaves[3].Done = nil }},
		{"something done twice", func(s *impl.CycState) { s.Slaves[3].Done = append(s.Slaves[3].Done, s.Slaves[3].Done[0]) }},
		{"done without a Code", func(s *impl.CycState) { s.Slaves[0].Done[0].Rsp.Code = 0 }},
		{"done by another name", func(s *impl.CycState) { s.Slaves[0].Done[0].Rsp.Id = 0 }},
		{"more Left than its store is slow", func(s *impl.CycState) { s.Slaves[1].Pipe[0].Left = 1 }},
		{"less Left of the second thing", func(s *impl.CycState) { s.Slaves[0].Pipe[1].Left = 1 }},
		{"one less told", func(s *impl.CycState) { s.Told = s.Told[:1] }},
		{"one told twice", func(s *impl.CycState) { s.Told = append(s.Told, s.Told[0]) }},
		{"a word less", func(s *impl.CycState) { s.Atm.Mem.Words = s.Atm.Mem.Words[:63] }},
		{"no word", func(s *impl.CycState) { s.Atm.Mem.Words[7] = 65536 }},
		{"one less that holds", func(s *impl.CycState) { s.Atm.Holds = s.Atm.Holds[:5] }},
		{"something held that is none", func(s *impl.CycState) { s.Atm.Holds[5] = 64 }},
	}
	for _, n := range []int{math.MinInt, -1, 4, math.MaxInt} {
		all = append(all,
			cycTurn{"no such store that told last", func(s *impl.CycState) { s.Ports[2].Last = n }},
			cycTurn{"no such one who was let in last", func(s *impl.CycState) { s.Slaves[3].Last = n }},
			cycTurn{"no such Left", func(s *impl.CycState) { s.Slaves[0].Pipe[0].Left = n }},
			cycTurn{"nobody whose thing it is to do", func(s *impl.CycState) { s.Slaves[0].Pipe[0].Who = n }},
			cycTurn{"nobody whose thing is done", func(s *impl.CycState) { s.Slaves[0].Done[0].Who = n }},
			cycTurn{"nobody who was told", func(s *impl.CycState) { s.Told[0].Who = n }},
		)
	}
	for _, n := range []int{math.MinInt, -1, 12, math.MaxInt} {
		all = append(all,
			cycTurn{"no such Next", func(s *impl.CycState) { s.Ports[0].Next = n }},
			cycTurn{"nothing that waits so", func(s *impl.CycState) { s.Ports[0].Queue[1] = n }},
			cycTurn{"nothing that is so on its way", func(s *impl.CycState) { s.Ports[0].Out[3].N = n }},
			cycTurn{"nothing so to do", func(s *impl.CycState) { s.Slaves[0].Pipe[0].N = n }},
			cycTurn{"nothing that is so done", func(s *impl.CycState) { s.Slaves[0].Done[0].N = n }},
			cycTurn{"nothing that was so told", func(s *impl.CycState) { s.Told[0].N = n }},
		)
	}
	return all
}

func TestCycEventsWhereABusMayNotStandSo(t *testing.T) {
	for _, x := range wrongTurns() {
		s := crossed()
		x.turn(&s)
		if cycMayAsSaid(crossing(), s) {
			t.Fatalf("%s: the test is wrong", x.what)
		}
		eventsAreNone(t, crossing(), s, x.what)
	}
	eventsAreNone(t, crossing(), impl.CycState{}, "nothing that stands")
	eventsAreNone(t, impl.BusCfg{}, impl.CycState{}, "nothing")
}

func TestCycEventsOfABusThatIsNotOk(t *testing.T) {
	for _, c := range wrongBuses() {
		eventsAreNone(t, c, impl.CycNew(), "a bus that is not ok")
		eventsAreNone(t, c, crossed(), "a bus that is not ok")
	}
}

func TestCycEventsOfWhatIsNotOkFromOutside(t *testing.T) {
	for _, at := range []cycStand{{crossing(), crossed()}, {crossing(), impl.CycNew()}} {
		for _, in := range wrongIns() {
			if got := impl.CycEvents(at.bus, at.state, in); len(got) != 0 {
				t.Fatalf("with %v %v happens", in, got)
			}
		}
	}
}

// The empty list and the nil list are the same.
func TestCycEventsOfEmptyLists(t *testing.T) {
	for _, c := range traceBuses() {
		for _, s := range []impl.CycState{impl.CycNew(), strewnCyc(c, 5), impl.CycFlow(c, impl.CycNew(), 300)} {
			x := emptied(s)
			if !slices.Equal(impl.CycEvents(c, x, nothingStands()), impl.CycEvents(c, s, nothingStands())) || impl.CycDone(c, x) != impl.CycDone(c, s) {
				t.Fatalf("with empty lists something else happens: %v", x)
			}
		}
	}
}
