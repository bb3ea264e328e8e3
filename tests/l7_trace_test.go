package tests

import (
	"slices"
	"testing"

	"loop.example/crossyard/impl"
)

// traced fails unless what happens in cycles from a bus's beginning on may happen, and comes to what cycles come to, and to what doing one thing at once comes to.
func traced(t *testing.T, c impl.BusCfg, ins []impl.CycIn, behind impl.CycState) {
	t.Helper()
	trace := impl.CycTrace(c, impl.CycNew(), ins)
	x, n := impl.TlmRun(c, impl.TlmNew(), trace)
	if n != len(trace) || !sameStand(x, impl.CycAbs(behind)) {
		t.Fatalf("of %v %d may happen, and come to %v, not to %v", trace, n, x, behind)
	}
	atm, all := impl.AtmOrder(c, trace)
	if !sameState(atm, behind.Atm) {
		t.Fatalf("one thing at once %v leaves %v, not %v", trace, atm, behind.Atm)
	}
	for _, j := range behind.Told {
		if at := jobAt(all, j.Who, j.N); at < 0 || !sameJob(all[at], j) {
			t.Fatalf("%d is told %v, and by one thing at once %v", j.Who, j, all)
		}
	}
}

func TestP6AllThreeComeToTheSame(t *testing.T) {
	for _, j := range journeys() {
		for _, many := range []int{0, 1, 2, 5, 11, 23, 39, len(j.ins)} {
			traced(t, j.bus, j.ins[:many], j.stands[many])
		}
	}
	for _, j := range flows() {
		traced(t, j.bus, j.ins, j.end())
		if _, all := impl.AtmOrder(j.bus, impl.CycTrace(j.bus, impl.CycNew(), j.ins)); len(all) != len(j.end().Told) {
			t.Fatalf("all was told, but not done: %v", all)
		}
	}
}

func TestP6WhateverComesFromOutside(t *testing.T) {
	for _, c := range traceBuses() {
		for seed := range 12 {
			ins := insBy(seed+6, 60)
			traced(t, c, ins, impl.CycRun(c, impl.CycNew(), ins))
		}
	}
}

func TestP36CyclesAreTheFirstOfThemAndThenTheRest(t *testing.T) {
	for _, j := range journeys() {
		for k, in := range j.ins {
			if k < 30 && !sameCyc(impl.CycRun(j.bus, j.stands[k], []impl.CycIn{in}), j.stands[k+1]) {
				t.Fatalf("CycRun of %v is not CycStep", in)
			}
		}
		whole := impl.CycTrace(j.bus, impl.CycNew(), j.ins)
		for cut := 0; cut <= len(j.ins); cut += 9 {
			first, rest := j.ins[:cut], j.ins[cut:]
			middle := impl.CycRun(j.bus, impl.CycNew(), first)
			if !sameCyc(middle, j.stands[cut]) || !sameCyc(impl.CycRun(j.bus, middle, rest), j.end()) {
				t.Fatalf("cut at %d it stands as %v", cut, middle)
			}
			if got := slices.Concat(impl.CycTrace(j.bus, impl.CycNew(), first), impl.CycTrace(j.bus, middle, rest)); !slices.Equal(got, whole) {
				t.Fatalf("cut at %d %v happens, not %v", cut, got, whole)
			}
		}
	}
}

func TestP36OneByOneItIsCycEvents(t *testing.T) {
	for _, j := range journeys() {
		for k := range j.ins {
			if k > 12 && k%17 != 0 {
				continue
			}
			if got := impl.CycTrace(j.bus, impl.CycNew(), j.ins[:k]); !slices.Equal(got, slices.Concat(j.events[:k]...)) {
				t.Fatalf("in %d cycles %v happens, one by one %v", k, got, j.events[:k])
			}
		}
	}
}

// Two lists that are together just as many as may be, and one more.
func TestP36TogetherAsManyAsMayBe(t *testing.T) {
	for _, c := range traceBuses() {
		ins := insBy(1, 301)
		whole, end := impl.CycTrace(c, impl.CycNew(), ins[:300]), impl.CycRun(c, impl.CycNew(), ins[:300])
		for _, cut := range []int{0, 1, 40, 150, 299, 300} {
			middle := impl.CycRun(c, impl.CycNew(), ins[:cut])
			if !sameCyc(impl.CycRun(c, middle, ins[cut:300]), end) {
				t.Fatalf("cut at %d it stands in another way", cut)
			}
			if got := slices.Concat(impl.CycTrace(c, impl.CycNew(), ins[:cut]), impl.CycTrace(c, middle, ins[cut:300])); !slices.Equal(got, whole) {
				t.Fatalf("cut at %d %v happens, not %v", cut, got, whole)
			}
		}
	}
}

func TestCycTraceIsAsTheDocumentSays(t *testing.T) {
	for _, c := range traceBuses() {
		for seed := range 6 {
			for _, s := range []impl.CycState{impl.CycNew(), strewnCyc(c, seed)} {
				ins := insBy(seed, 45)
				if got, want := impl.CycTrace(c, s, ins), traceAsSaid(c, s, ins); !slices.Equal(got, want) {
					t.Fatalf("from %v on %v happens, not %v", s, got, want)
				}
			}
		}
	}
	ins := insBy(0, 80)
	if got, want := impl.CycTrace(crossing(), crossed(), ins), traceAsSaid(crossing(), crossed(), ins); !slices.Equal(got, want) {
		t.Fatalf("%v happens, not %v", got, want)
	}
}

func TestCycTraceOfNoCycles(t *testing.T) {
	eachCycStand(func(c impl.BusCfg, s impl.CycState) {
		for _, none := range [][]impl.CycIn{nil, {}, {nothingStands()}} {
			if got := impl.CycTrace(c, s, none[:0]); len(got) != 0 {
				t.Fatalf("in no cycles %v happens", got)
			}
		}
	})
}

func TestCycTraceOfOneCycle(t *testing.T) {
	for _, j := range journeys() {
		for k := 0; k < len(j.ins); k += 5 {
			if got := impl.CycTrace(j.bus, j.stands[k], j.ins[k:k+1]); !slices.Equal(got, j.events[k]) {
				t.Fatalf("in one cycle %v happens, not %v", got, j.events[k])
			}
		}
	}
}

func TestCycTraceOfAsManyAsMayBe(t *testing.T) {
	for _, c := range traceBuses() {
		for _, s := range []impl.CycState{impl.CycNew(), strewnCyc(c, 4)} {
			for _, many := range []int{299, 300, 301, 302, 600} {
				ins := insBy(1, many)
				var want []impl.TlmEvent
				if many <= 300 {
					want = traceAsSaid(c, s, ins)
				}
				if got := impl.CycTrace(c, s, ins); !slices.Equal(got, want) {
					t.Fatalf("in %d cycles %v happens, not %v", many, got, want)
				}
			}
		}
	}
}

func TestCycTraceWithOneThatIsNotOk(t *testing.T) {
	for _, many := range []int{1, 2, 7, 300} {
		for _, place := range []int{0, many / 2, many - 1} {
			for _, wrong := range wrongIns() {
				ins := insBy(0, many)
				ins[place] = wrong
				for _, s := range []impl.CycState{impl.CycNew(), crossed()} {
					if got := impl.CycTrace(crossing(), s, ins); len(got) != 0 {
						t.Fatalf("with %v at %d of %d cycles %v happens", wrong, place, many, got)
					}
				}
			}
		}
	}
}

func TestP83CyclesDoEachThingOnce(t *testing.T) {
	for _, j := range slices.Concat(journeys(), flows()) {
		trace := impl.CycTrace(j.bus, impl.CycNew(), j.ins)
		next := map[[2]int]int{}
		for _, e := range trace {
			thing := [2]int{e.Who, e.N}
			next[thing]++
			if e.Kind != next[thing] {
				t.Fatalf("of %v Kind %d is the %d. that happens: %v", thing, e.Kind, next[thing], trace)
			}
		}
		for thing, kind := range next {
			if told := jobAt(j.end().Told, thing[0], thing[1]) >= 0; told != (kind == 3) {
				t.Fatalf("%v happens %d times", thing, kind)
			}
		}
	}
}

func TestCycDoneAlongCycles(t *testing.T) {
	turned := 0
	for _, j := range slices.Concat(journeys(), flows()) {
		for k, s := range j.stands {
			if got := impl.CycDone(j.bus, s); got != allTold(j.bus, s) {
				t.Fatalf("all was told: %v, of %v", got, s)
			}
			if k > 0 && allTold(j.bus, s) && !allTold(j.bus, j.stands[k-1]) {
				turned++
				if last := s.Told[len(s.Told)-1]; !slices.Contains(j.events[k-1], event(3, last.Who, last.N)) {
					t.Fatalf("all was told behind a cycle that tells %v", j.events[k-1])
				}
			}
		}
	}
	if turned < 100 {
		t.Fatalf("all was told but %d times", turned)
	}
}

func TestCycDoneOfABusOnWhichNobodyAsks(t *testing.T) {
	for _, c := range []impl.BusCfg{busOf(nil, nil, nil, nil), busOf(doMaps()[0], []impl.ReqReq{}, nil, []impl.ReqReq{})} {
		if !impl.CycDone(c, impl.CycNew()) {
			t.Fatal("where nobody asks not all was told")
		}
	}
	for who := range 3 {
		c := busOf(doMaps()[0], nil, nil, nil)
		c.Progs[who] = []impl.ReqReq{readOf(1)}
		if impl.CycDone(c, impl.CycNew()) {
			t.Fatal("at its beginning all was told")
		}
	}
}

// What was asked so far may all be told, and something still be to ask: then not all was told.
func TestCycDoneWhereSomethingIsStillToAsk(t *testing.T) {
	c := alone(1, readOf(1), readOf(2))
	s := impl.CycStep(c, impl.CycNew(), nothingStands())
	s = impl.CycRun(c, s, slices.Repeat([]impl.CycIn{comes("111", "0000", "000")}, 20))
	if len(s.Told) != 1 || s.Ports[1].Next != 1 || impl.CycDone(c, s) {
		t.Fatalf("all was told of %v", s)
	}
	if s = impl.CycFlow(c, s, 20); !impl.CycDone(c, s) {
		t.Fatalf("not all was told of %v", s)
	}
}

// toldStand is a bus on which all was told, in any order, whatever came of it.
func toldStand(c impl.BusCfg, seed int) impl.CycState {
	n := chance(seed*7001 + 29)
	s := restAsSaid()
	s.Atm = copyState(okStates()[n.below(len(okStates()))])
	for who, prog := range c.Progs {
		s.Ports[who].Next, s.Ports[who].Last = len(prog), n.below(4)
		for k, r := range prog {
			j := impl.TlmJob{Who: who, N: k, Rsp: impl.RspRsp{Id: r.Id, Code: 1 + n.below(4), Data: risingWords()[:n.below(5)]}}
			s.Told = slices.Insert(s.Told, n.below(len(s.Told)+1), j)
		}
	}
	for at := range s.Slaves {
		s.Slaves[at].Last = n.below(3)
	}
	return copyCyc(s)
}

func TestCycDoneHoweverItCameToBe(t *testing.T) {
	for _, c := range traceBuses() {
		for seed := range 20 {
			if s := toldStand(c, seed); !impl.CycDone(c, s) {
				t.Fatalf("not all was told of %v", s)
			}
			if s := strewnCyc(c, seed); impl.CycDone(c, s) != allTold(c, s) {
				t.Fatalf("all was told: %v, of %v", !allTold(c, s), s)
			}
		}
	}
}

// As much was told as is asked, but one thing twice, or one that nobody asks.
func TestCycDoneWhereABusMayNotStandSo(t *testing.T) {
	for _, c := range append(crowdedBuses(), crossing()) {
		for _, wrong := range []impl.TlmJob{{Who: 0, N: 0}, {Who: 1, N: 12}, {Who: 3, N: 0}, {Who: -1, N: 0}, {Who: 1, N: -1}} {
			s := toldStand(c, 3)
			place := jobAt(s.Told, 2, 1)
			wrong.Rsp = s.Told[place].Rsp
			s.Told[place] = wrong
			eventsAreNone(t, c, s, "something told that may not be")
		}
	}
}

func TestP65WhatWasAllToldStaysTold(t *testing.T) {
	for _, c := range traceBuses() {
		for seed := range 10 {
			s := toldStand(c, seed)
			x := impl.CycAbs(s)
			if !impl.CycDone(c, s) || len(x.Wait) != 0 || len(x.Done) != 0 {
				t.Fatalf("all was told, and it stands as %v", x)
			}
			for _, in := range append(insBy(seed, 6), nothingStands(), allStands()) {
				if got := impl.CycStep(c, s, in); !sameCyc(got, s) || len(impl.CycEvents(c, s, in)) != 0 {
					t.Fatalf("a cycle turns %v to %v", s, got)
				}
			}
			if got := impl.CycRun(c, s, insBy(seed, 300)); !sameCyc(got, s) {
				t.Fatalf("cycles turn %v to %v", s, got)
			}
		}
	}
}

func TestP65WhereAllWasToldNothingIsLeft(t *testing.T) {
	done := 0
	for _, j := range journeys() {
		s := j.end()
		if !impl.CycDone(j.bus, s) {
			continue
		}
		done++
		for _, p := range s.Ports {
			if len(p.Queue) != 0 || len(p.Out) != 0 {
				t.Fatalf("all was told, and it stands as %v", s)
			}
		}
		for _, v := range s.Slaves {
			if len(v.Pipe) != 0 || len(v.Done) != 0 {
				t.Fatalf("all was told, and it stands as %v", s)
			}
		}
		if got := impl.CycRun(j.bus, s, insBy(2, 50)); !sameCyc(got, s) || len(impl.CycTrace(j.bus, s, insBy(2, 50))) != 0 {
			t.Fatalf("cycles turn %v to %v", s, got)
		}
	}
	if done < 50 {
		t.Fatalf("all was told but %d times", done)
	}
}
