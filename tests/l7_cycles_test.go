package tests

import (
	"math"
	"slices"
	"testing"

	"loop.example/crossyard/impl"
)

// eachCycle goes through all cycles of all journeys, with how a bus stands ahead of, and behind, each.
func eachCycle(look func(j journey, k int, s impl.CycState, x impl.CycState)) {
	for _, j := range journeys() {
		for k := range j.ins {
			look(j, k, j.stands[k], j.stands[k+1])
		}
	}
}

func TestP7WhereNothingStandsStillAllComes(t *testing.T) {
	for _, j := range flows() {
		if !allTold(j.bus, j.end()) {
			t.Fatalf("behind %d cycles it stands as %v", len(j.ins), j.end())
		}
	}
	for _, j := range journeys() {
		for _, k := range []int{3, 8, 21, len(j.ins)} {
			if end := impl.CycFlow(j.bus, j.stands[k], impl.CycMost); !allTold(j.bus, end) || !impl.CycDone(j.bus, end) {
				t.Fatalf("behind %d cycles in which nothing stands still it stands as %v", impl.CycMost, end)
			}
		}
	}
}

// Behind cycles in which nobody is told anything, or no store goes on, all is as full as may be.
func TestP7BehindWhatHeldUpAll(t *testing.T) {
	for _, c := range traceBuses() {
		for _, in := range []impl.CycIn{comes("000", "0000", "111"), comes("111", "1111", "111"), comes("000", "1111", "111"), allStands()} {
			s := impl.CycRun(c, impl.CycNew(), slices.Repeat([]impl.CycIn{in}, 50))
			if end := impl.CycFlow(c, s, 300); !allTold(c, end) {
				t.Fatalf("behind 300 cycles in which nothing stands still it stands as %v", end)
			}
		}
	}
}

func TestP32ABusStaysAsItMayStand(t *testing.T) {
	look := func(c impl.BusCfg, x impl.CycState) {
		if !impl.CycOk(c, x) || !cycMayAsSaid(c, x) || !impl.TlmOk(c, impl.CycAbs(x)) {
			t.Fatalf("behind a cycle it may not stand as %v", x)
		}
	}
	eachCycle(func(j journey, k int, s impl.CycState, x impl.CycState) { look(j.bus, x) })
	for _, c := range traceBuses() {
		for seed := range 60 {
			for _, in := range append(insBy(seed, 1), nothingStands(), allStands()) {
				look(c, impl.CycStep(c, strewnCyc(c, seed), in))
			}
		}
	}
}

func TestP33WhatIsOfOneNameIsToldInOrder(t *testing.T) {
	for _, j := range slices.Concat(journeys(), flows()) {
		last := map[[2]int]int{}
		for _, told := range j.end().Told {
			name := [2]int{told.Who, j.bus.Progs[told.Who][told.N].Id}
			if told.N < last[name] {
				t.Fatalf("%d is told %v", told.Who, j.end().Told)
			}
			last[name] = told.N + 1
		}
		for name, next := range last {
			for n, r := range j.bus.Progs[name[0]][:next] {
				if r.Id == name[1] && jobAt(j.end().Told, name[0], n) < 0 {
					t.Fatalf("%d is not told %d, but of the same name %d", name[0], n, next-1)
				}
			}
		}
	}
}

// mayGo says whether one's first thing that waits may go to a store, once all that is told in the cycle is told.
func mayGo(c impl.BusCfg, s impl.CycState, x impl.CycState, who int, at int) bool {
	p := s.Ports[who]
	if len(p.Queue) == 0 || storeOf(c, who, p.Queue[0]) != at {
		return false
	}
	out := slices.DeleteFunc(slices.Clone(p.Out), func(o impl.CycJob) bool { return jobAt(x.Told, who, o.N) >= 0 })
	name := c.Progs[who][p.Queue[0]].Id
	return len(out) < 4 && !slices.ContainsFunc(out, func(o impl.CycJob) bool { return c.Progs[who][o.N].Id == name && o.Left != at })
}

func TestP34WhoWaitsForAStoreIsLetInInItsTurn(t *testing.T) {
	both := 0
	for _, j := range slices.Concat(journeys(), flows()) {
		ahead := [4][3][3]int{}
		for k := range j.ins {
			s, x := j.stands[k], j.stands[k+1]
			for at := range 4 {
				let, some := letInAt(s, x, at)
				for who := range 3 {
					if !mayGo(j.bus, s, x, who, at) || some && let.Who == who {
						ahead[at][who] = [3]int{}
						continue
					}
					if !some {
						continue
					}
					ahead[at][who][let.Who]++
					if ahead[at][who][let.Who] > 1 {
						t.Fatalf("store %d lets in %d twice, and %d waits: %v", at, let.Who, who, s)
					}
					if ahead[at][who][0]+ahead[at][who][1]+ahead[at][who][2] == 2 {
						both++
					}
				}
			}
		}
	}
	if both == 0 {
		t.Fatal("nobody waits for both others")
	}
}

// A store with room lets in whoever may go there.
func TestP34AStoreWithRoomLetsIn(t *testing.T) {
	eachCycle(func(j journey, k int, s impl.CycState, x impl.CycState) {
		for at := range 4 {
			if _, some := letInAt(s, x, at); some || len(x.Slaves[at].Pipe) == 2 {
				continue
			}
			for who := range 3 {
				if mayGo(j.bus, s, x, who, at) {
					t.Fatalf("store %d has room, and %d waits: %v", at, who, s)
				}
			}
		}
	})
}

func TestP37ToFlowIsToRunWhereNothingStandsStill(t *testing.T) {
	for _, c := range traceBuses() {
		for _, many := range []int{1, 2, 3, 10, 50, 300} {
			ins := slices.Repeat([]impl.CycIn{impl.InAll()}, many)
			for _, s := range []impl.CycState{impl.CycNew(), strewnCyc(c, many)} {
				if !sameCyc(impl.CycFlow(c, s, many), impl.CycRun(c, s, ins)) {
					t.Fatalf("behind %d cycles to flow is not to run", many)
				}
			}
		}
		for _, many := range []int{0, -1, -300, math.MinInt} {
			if s := strewnCyc(c, 7); !sameCyc(impl.CycFlow(c, s, many), s) {
				t.Fatalf("behind %d cycles it does not stand as it does", many)
			}
		}
	}
}

func TestP38WhatWasToldStays(t *testing.T) {
	eachCycle(func(j journey, k int, s impl.CycState, x impl.CycState) {
		if !beginsWith(x.Told, s.Told) {
			t.Fatalf("behind %v %v was told", s.Told, x.Told)
		}
		for who := range 3 {
			asked, told := x.Ports[who].Next-s.Ports[who].Next, len(toldTo(x.Told[len(s.Told):], who))
			if asked < 0 || asked > 1 || told > 1 {
				t.Fatalf("in a cycle %d asks %d, and is told %d", who, asked, told)
			}
			own := []impl.TlmEvent{}
			for _, e := range j.events[k] {
				if e.Who == who && e.Kind != impl.TlmDo {
					own = append(own, e)
				}
			}
			if len(own) != asked+told {
				t.Fatalf("in a cycle %d asks %d, is told %d, and of it %v happens", who, asked, told, own)
			}
		}
	})
}

func TestP39NoMoreIsOnItsWayThanMayBe(t *testing.T) {
	queue, out, pipe, done := 0, 0, 0, 0
	eachCycle(func(j journey, k int, s impl.CycState, x impl.CycState) {
		ways := 0
		for _, v := range x.Slaves {
			pipe, done = max(pipe, len(v.Pipe)), max(done, len(v.Done))
			ways += len(v.Pipe) + len(v.Done)
		}
		for who, p := range x.Ports {
			queue, out = max(queue, len(p.Queue)), max(out, len(p.Out))
			for _, o := range p.Out {
				ways--
				if len(waysTo(x.Slaves[o.Left], who, o.N)) != 1 {
					t.Fatalf("%v is on its way, and at no store: %v", o, x)
				}
			}
		}
		if ways != 0 {
			t.Fatalf("%d more is at stores than on its way: %v", ways, x)
		}
	})
	if queue != 2 || out != 4 || pipe != 2 || done != 2 {
		t.Fatalf("at most %d wait, %d are on their way, stores have %d to do, and %d done", queue, out, pipe, done)
	}
}

func TestP40ASlowStoreIsSlow(t *testing.T) {
	for slow := range 4 {
		for _, addr := range []int{1, 16, 33, 60} {
			for _, r := range []impl.ReqReq{readOf(addr), writeOf(addr, 5, 3), named(1, holdOf(1, addr)), tryOf(0, addr, 7, 1)} {
				for who := range 3 {
					c := busOf(doMaps()[0], nil, nil, nil)
					c.Progs[who], c.Lat = []impl.ReqReq{r}, []int{3 - slow, 3 - slow, 3 - slow, 3 - slow}
					c.Lat[storeOf(c, who, 0)] = slow
					for many := range slow + 8 {
						if got := impl.CycDone(c, impl.CycFlow(c, impl.CycNew(), many)); got != (many >= slow+4) {
							t.Fatalf("of a store as slow as %d it was told behind %d cycles: %v", slow, many, got)
						}
					}
					if got := impl.CycEvents(c, impl.CycFlow(c, impl.CycNew(), slow+3), nothingStands()); !slices.Equal(got, []impl.TlmEvent{event(3, who, 0)}) {
						t.Fatalf("in its last cycle %v happens", got)
					}
				}
			}
		}
	}
}

func TestP42EachThingThatWasAskedIsInOnePlace(t *testing.T) {
	look := func(c impl.BusCfg, s impl.CycState) {
		x := impl.CycAbs(s)
		all := slices.Concat(x.Wait, x.Done, x.Told)
		many := 0
		for who, next := range x.Asked {
			many += next
			for n := range next {
				if jobAt(all, who, n) < 0 {
					t.Fatalf("the %d. thing of %d is nowhere: %v", n, who, x)
				}
			}
			if next != s.Ports[who].Next {
				t.Fatalf("%d has asked %d, not %d", who, next, s.Ports[who].Next)
			}
		}
		if len(all) != many {
			t.Fatalf("of %d that was asked %d is in some place: %v", many, len(all), x)
		}
	}
	eachCycle(func(j journey, k int, s impl.CycState, x impl.CycState) { look(j.bus, x) })
	for _, c := range traceBuses() {
		for seed := range 60 {
			look(c, strewnCyc(c, seed))
		}
	}
	look(crossing(), crossed())
}

func TestP61AStoreDoesOneThingAtATime(t *testing.T) {
	stood, slowed, did := 0, 0, 0
	eachCycle(func(j journey, k int, s impl.CycState, x impl.CycState) {
		var done [4][]impl.TlmEvent
		for _, e := range ofKind(j.events[k], impl.TlmDo) {
			at := storeOf(j.bus, e.Who, e.N)
			done[at] = append(done[at], e)
		}
		for at, v := range s.Slaves {
			after := x.Slaves[at].Pipe
			switch {
			case len(done[at]) > 0:
				did++
				if first := v.Pipe[0]; len(done[at]) > 1 || done[at][0] != event(2, first.Who, first.N) || first.Left != 0 || j.ins[k].Stall[at] {
					t.Fatalf("store %d does %v: %v", at, done[at], s)
				}
				if !slices.Equal(after[:len(v.Pipe)-1], v.Pipe[1:]) {
					t.Fatalf("store %d goes from %v to %v", at, v.Pipe, after)
				}
			case len(v.Pipe) > 0 && !j.ins[k].Stall[at] && v.Pipe[0].Left > 0:
				slowed++
				want := slices.Clone(v.Pipe)
				want[0].Left--
				if !slices.Equal(after[:len(want)], want) {
					t.Fatalf("store %d goes from %v to %v", at, v.Pipe, after)
				}
			default:
				stood++
				if !slices.Equal(after[:len(v.Pipe)], v.Pipe) {
					t.Fatalf("store %d, that does nothing, goes from %v to %v", at, v.Pipe, after)
				}
			}
			for _, p := range after {
				if p.Left < 0 || p.Left > j.bus.Lat[at] {
					t.Fatalf("store %d has %v to do", at, after)
				}
			}
		}
	})
	if stood == 0 || slowed == 0 || did == 0 {
		t.Fatalf("stores stood %d times, were slow %d times, and did something %d times", stood, slowed, did)
	}
}

func TestP62WhatIsOfOneNameIsAtOneStore(t *testing.T) {
	eachCycle(func(j journey, k int, s impl.CycState, x impl.CycState) {
		for who, p := range x.Ports {
			stores := map[int]int{}
			for _, o := range p.Out {
				name := j.bus.Progs[who][o.N].Id
				if at, some := stores[name]; some && at != o.Left || o.Left != storeOf(j.bus, who, o.N) {
					t.Fatalf("%d has %v on its way", who, p.Out)
				}
				stores[name] = o.Left
			}
		}
	})
}

// neverReady is a list of what comes from outside with one who may never be told anything.
func neverReady(ins []impl.CycIn, who int) []impl.CycIn {
	var all []impl.CycIn
	for _, in := range ins {
		in = copyIn(in)
		in.Ready[who] = false
		all = append(all, in)
	}
	return all
}

func TestP63WhoMayNotBeToldAnythingHoldsUpWhatIsItsOwn(t *testing.T) {
	most, apart := 0, 0
	for _, c := range traceBuses() {
		for who := range 3 {
			for seed := range 4 {
				s := impl.CycRun(c, impl.CycNew(), neverReady(insBy(seed, 20*seed), who))
				ins := neverReady(slices.Repeat([]impl.CycIn{nothingStands()}, 300), who)
				for k := 0; k < 300; k += 5 {
					s = impl.CycRun(c, s, ins[k:k+5])
					most = max(most, len(s.Ports[who].Out))
					if len(s.Ports[who].Out) > 4 || len(toldTo(s.Told, who)) != 0 || impl.CycDone(c, s) && len(c.Progs[who]) > 0 {
						t.Fatalf("%d, who may not be told anything, is told something: %v", who, s)
					}
				}
				if !impl.BusApart(c, who) {
					continue
				}
				apart++
				if !onlyLeft(c, s, who) {
					t.Fatalf("others wait for %d: %v", who, s)
				}
			}
		}
	}
	if most != 4 || apart == 0 {
		t.Fatalf("at most %d are on their way, and %d times one was apart", most, apart)
	}
}

// onlyLeft says whether all that is asked, but by one, was told.
func onlyLeft(c impl.BusCfg, s impl.CycState, who int) bool {
	for other, prog := range c.Progs {
		if other != who && len(toldTo(s.Told, other)) != len(prog) {
			return false
		}
	}
	return true
}

func TestP64AStoreThatStandsStillHoldsUpWhatIsItsOwn(t *testing.T) {
	free := 0
	for _, c := range traceBuses() {
		for at := range 4 {
			still := nothingStands()
			still.Stall[at] = true
			ins := slices.Repeat([]impl.CycIn{still}, 300)
			for _, e := range ofKind(impl.CycTrace(c, impl.CycNew(), ins), impl.TlmDo) {
				if storeOf(c, e.Who, e.N) == at {
					t.Fatalf("store %d stands still, and %v happens", at, e)
				}
			}
			for who := range 3 {
				x := impl.BusAlone(c, who)
				end := impl.CycRun(x, impl.CycNew(), ins)
				if !asksOfStore(c, who, at) {
					free++
				}
				if got := impl.CycDone(x, end); got == asksOfStore(c, who, at) {
					t.Fatalf("where store %d stands still %d alone is told all: %v", at, who, got)
				}
			}
		}
	}
	if free == 0 {
		t.Fatal("all ask of all stores")
	}
}

func TestP66ToRunTwiceIsToRunOnce(t *testing.T) {
	for k, j := range journeys() {
		other := journeys()[(k*37+1)%len(journeys())]
		for _, many := range []int{0, 3, 20, len(j.ins)} {
			one, trace := impl.CycRun(j.bus, impl.CycNew(), j.ins[:many]), impl.CycTrace(j.bus, impl.CycNew(), j.ins[:many])
			impl.CycTrace(other.bus, impl.CycNew(), other.ins)
			impl.AtmOrder(other.bus, trace)
			two, again := impl.CycRun(j.bus, impl.CycNew(), j.ins[:many]), impl.CycTrace(j.bus, impl.CycNew(), j.ins[:many])
			if !sameCyc(one, j.stands[many]) || !sameCyc(two, one) || !slices.Equal(trace, again) {
				t.Fatalf("to run twice is %v, and then %v", one, two)
			}
			if !sameCyc(impl.CycRun(j.bus, one, nil), two) || !sameCyc(impl.CycFlow(j.bus, one, 0), two) || len(impl.CycTrace(j.bus, one, nil)) != 0 {
				t.Fatalf("behind no more cycles it does not stand as %v", one)
			}
		}
	}
}

func TestP82NothingIsToldSoonerThanItsStoreLets(t *testing.T) {
	just := [4]int{}
	for _, j := range slices.Concat(journeys(), flows()) {
		asked := map[[2]int]int{}
		for k, events := range j.events {
			for _, e := range events {
				thing := [2]int{e.Who, e.N}
				switch e.Kind {
				case impl.TlmAsk:
					asked[thing] = k
				case impl.TlmTell:
					slow := j.bus.Lat[storeOf(j.bus, e.Who, e.N)]
					between := k - asked[thing] - 1
					if between < slow+2 {
						t.Fatalf("%v of a store as slow as %d is told %d cycles behind", thing, slow, between)
					}
					if between == slow+2 {
						just[slow]++
					}
				}
			}
		}
	}
	if slices.Contains(just[:], 0) {
		t.Fatalf("as soon as may be is told %v", just)
	}
}

func TestP84WhereNobodyAsksNothingTurns(t *testing.T) {
	for _, list := range doMaps() {
		for _, c := range []impl.BusCfg{busOf(list, nil, nil, nil), busOf(list, []impl.ReqReq{}, []impl.ReqReq{}, nil)} {
			for seed := range 12 {
				ins := insBy(seed, 40)
				if !sameCyc(impl.CycRun(c, impl.CycNew(), ins), restAsSaid()) || len(impl.CycTrace(c, impl.CycNew(), ins)) != 0 {
					t.Fatal("where nobody asks something turns")
				}
			}
			if !sameCyc(impl.CycFlow(c, impl.CycNew(), 300), restAsSaid()) || !impl.CycDone(c, impl.CycNew()) {
				t.Fatal("where nobody asks something turns")
			}
		}
	}
}

func TestP84WhereNobodyMayAskNothingTurns(t *testing.T) {
	for _, c := range traceBuses() {
		for seed := range 12 {
			ins := insBy(seed, 40)
			for k := range ins {
				ins[k].Send = make([]bool, 3)
			}
			if !sameCyc(impl.CycRun(c, impl.CycNew(), ins), restAsSaid()) || len(impl.CycTrace(c, impl.CycNew(), ins)) != 0 {
				t.Fatal("where nobody may ask something turns")
			}
		}
	}
}

func TestP85MoreCyclesTellNoLess(t *testing.T) {
	for _, c := range traceBuses() {
		var told []impl.TlmJob
		for _, many := range []int{0, 1, 2, 3, 4, 5, 6, 7, 8, 9, 10, 15, 20, 30, 50, 90, 150, 299, 300} {
			s := impl.CycFlow(c, impl.CycNew(), many)
			if !beginsWith(s.Told, told) {
				t.Fatalf("behind %d cycles %v was told, and behind fewer %v", many, s.Told, told)
			}
			told = s.Told
		}
	}
	for _, j := range flows() {
		for k := range j.ins {
			if !beginsWith(j.end().Told, j.stands[k].Told) || !beginsWith(j.stands[k+1].Told, j.stands[k].Told) {
				t.Fatalf("behind %d cycles %v was told", k, j.stands[k].Told)
			}
		}
	}
}

func TestP86AStoreDoesWhatItLetInInOrder(t *testing.T) {
	mixed := 0
	for _, j := range slices.Concat(journeys(), flows()) {
		var let, did [4][]impl.TlmEvent
		for k := range j.ins {
			for at := range 4 {
				if in, ok := letInAt(j.stands[k], j.stands[k+1], at); ok {
					let[at] = append(let[at], event(2, in.Who, in.N))
				}
			}
			for _, e := range ofKind(j.events[k], impl.TlmDo) {
				at := storeOf(j.bus, e.Who, e.N)
				did[at] = append(did[at], e)
			}
		}
		for at := range 4 {
			if len(did[at]) > len(let[at]) || !slices.Equal(did[at], let[at][:len(did[at])]) {
				t.Fatalf("store %d lets in %v, and does %v", at, let[at], did[at])
			}
			if !slices.IsSortedFunc(did[at], func(a impl.TlmEvent, b impl.TlmEvent) int { return a.Who - b.Who }) {
				mixed++
			}
		}
	}
	if mixed == 0 {
		t.Fatal("all stores do what one asks behind what another one asks")
	}
}

// takesLess says whether something that a store has to do takes one cycle less.
func takesLess(s impl.CycState, x impl.CycState) bool {
	for at, v := range s.Slaves {
		after := x.Slaves[at].Pipe
		if len(v.Pipe) > 0 && len(after) > 0 && after[0].Who == v.Pipe[0].Who && after[0].N == v.Pipe[0].N && after[0].Left == v.Pipe[0].Left-1 {
			return true
		}
	}
	return false
}

func TestP87WhoIsSlowedWaitsForSomebody(t *testing.T) {
	onlyLess, onlyLet := 0, 0
	look := func(c impl.BusCfg, s impl.CycState) {
		if allTold(c, s) {
			return
		}
		x := impl.CycStep(c, s, impl.InAll())
		let := false
		for at := range 4 {
			_, some := letInAt(s, x, at)
			let = let || some
		}
		happens, less := len(impl.CycEvents(c, s, impl.InAll())) > 0, takesLess(s, x)
		if !happens && !let && !less {
			t.Fatalf("nothing happens from %v on", s)
		}
		if !happens && !let {
			onlyLess++
		}
		if !happens && !less {
			onlyLet++
		}
	}
	for _, j := range slices.Concat(flows(), journeys()) {
		for k, s := range j.stands {
			if k%3 == 0 || k < 20 {
				look(j.bus, s)
			}
		}
	}
	if onlyLess == 0 || onlyLet == 0 {
		t.Fatalf("just one less %d times, just let in %d times", onlyLess, onlyLet)
	}
}
