package tests

import (
	"testing"

	"loop.example/crossyard/impl"
)

// adds fails unless a cycle counts, to noughts and to what was counted already, just what is more.
func adds(t *testing.T, at cycStand, in impl.CycIn, more impl.CntCount) {
	t.Helper()
	more.Cycles = 1
	for _, n := range freshCounts() {
		want := copyCount(n)
		want.Cycles++
		for _, l := range countedLists() {
			for k, x := range *l.of(&more) {
				(*l.of(&want))[k] += x
			}
		}
		if got := impl.CntAdd(n, at.bus, at.state, in); !sameCount(got, want) {
			t.Fatalf("of %v, with %v a cycle more of %v is %v, not %v", n, in, at.state, got, want)
		}
	}
}

// flowing is a bus on which 1 alone asks four things of one store, as fast as may be: one that was done, one that is to do, one that waits, and one still to ask.
func flowing(addr int) cycStand {
	c := alone(0, readOf(addr), readOf(addr+1), readOf(addr+2), readOf(addr+3))
	at := storeOf(c, 1, 0)
	s := restAsSaid()
	s.Ports[1] = impl.CycPort{Next: 3, Queue: []int{2}, Out: []impl.CycJob{{Who: 1, N: 0, Left: at}, {Who: 1, N: 1, Left: at}}, Last: 3}
	s.Slaves[at] = impl.CycSlave{Pipe: []impl.CycJob{{Who: 1, N: 1}}, Done: []impl.TlmJob{{Who: 1, N: 0, Rsp: impl.RspRsp{Code: impl.RspOkay}}}, Last: 1}
	return cycStand{c, s}
}

// storeAddrs is an address of each store, and one that is of none.
var storeAddrs = []int{1, 16, 33, 56}

// one is noughts but for a one at a place of each of the lists of these names.
func one(who int, at int, names ...string) impl.CntCount {
	n := noughtsAsSaid()
	for _, l := range countedLists() {
		for _, name := range names {
			if name != l.name {
				continue
			}
			place := who
			if l.many == 4 {
				place = at
			}
			(*l.of(&n))[place]++
		}
	}
	return n
}

// Of four parts of a cycle each by itself, and all in one; of each store, and where there is none.
func TestCntAddOfEachPartOfACycle(t *testing.T) {
	for at, addr := range storeAddrs {
		goesOn := comes("101", "1111", "101")
		goesOn.Stall[at] = false

		all := flowing(addr)
		adds(t, all, nothingStands(), one(1, at, "Asked", "Told", "Waits", "Let", "Done", "Busy"))
		adds(t, all, allStands(), one(1, at, "Waits", "Let", "Busy"))

		rest := cycStand{all.bus, impl.CycNew()}
		adds(t, rest, allStands(), one(1, at))
		adds(t, rest, comes("000", "1111", "010"), one(1, at, "Asked"))

		sent := flowing(addr)
		sent.state.Ports[1].Next, sent.state.Ports[1].Queue = 2, nil
		adds(t, sent, allStands(), one(1, at, "Busy"))
		adds(t, sent, comes("010", "1111", "101"), one(1, at, "Told", "Busy"))
		adds(t, sent, goesOn, one(1, at, "Done", "Busy"))
		adds(t, sent, comes("101", "1111", "010"), one(1, at, "Asked", "Busy"))

		done := flowing(addr)
		done.state.Ports[1] = impl.CycPort{Next: 1, Out: done.state.Ports[1].Out[:1], Last: 3}
		done.state.Slaves[at].Pipe = nil
		adds(t, done, goesOn, one(1, at))
		adds(t, done, comes("010", "1111", "000"), one(1, at, "Told"))
	}
}

// What was let in in this cycle waited ahead of it; its store had nothing to do ahead of it.
func TestCntAddOfAStoreThatHadNothingToDo(t *testing.T) {
	for at, addr := range storeAddrs {
		c := alone(0, readOf(addr), readOf(addr+1))
		s := impl.CycStep(c, impl.CycNew(), nothingStands())
		x := cycStand{c, s}
		adds(t, x, allStands(), one(1, at, "Waits", "Let"))
		adds(t, x, nothingStands(), one(1, at, "Waits", "Let", "Asked"))
	}
}

// A store that has something to do is busy, whether it does it, goes on with it, stands still, or has no room for it.
func TestCntAddOfAStoreThatHasSomethingToDo(t *testing.T) {
	for at, addr := range storeAddrs {
		for slow := range 4 {
			for left := range slow + 1 {
				c := alone(slow, readOf(addr))
				s := impl.CycFlow(c, impl.CycNew(), 2)
				s.Slaves[at].Pipe[0].Left = left
				still := nothingStands()
				still.Stall[at] = true
				adds(t, cycStand{c, s}, still, one(1, at, "Busy"))
				if left > 0 {
					adds(t, cycStand{c, s}, nothingStands(), one(1, at, "Busy"))
				} else {
					adds(t, cycStand{c, s}, nothingStands(), one(1, at, "Busy", "Done"))
				}
			}
		}
	}
}

func TestCntAddOfAStoreThatHasNoRoom(t *testing.T) {
	x := lane([]impl.ReqReq{readOf(1), readOf(2), readOf(3), readOf(4)}, 0, [4]int{2})
	x.state.Slaves[0].Pipe[0].Left = 0
	adds(t, x, comes("000", "0000", "111"), one(1, 0, "Busy"))
	adds(t, x, nothingStands(), one(1, 0, "Busy", "Told", "Done"))
}

// What is done, and was not told, is nothing to do any more, and nothing that waits.
func TestCntAddOfWhatIsDone(t *testing.T) {
	x := doneFor([4][]int{{0, 1}, {1}, {}, {2}})
	adds(t, x, comes("000", "0000", "111"), noughtsAsSaid())
	more := noughtsAsSaid()
	more.Told = []int{1, 1, 1}
	adds(t, x, nothingStands(), more)
}

// Both things that wait are one of Waits; what is on its way waits no more.
func TestCntAddOfWhatWaits(t *testing.T) {
	c := alone(3, readOf(1), readOf(2), readOf(3), readOf(4), readOf(5))
	s := impl.CycFlow(c, impl.CycNew(), 4)
	if len(s.Ports[1].Queue) != 2 || len(s.Slaves[0].Pipe) != 2 {
		t.Fatalf("the test is wrong: %v", s)
	}
	adds(t, cycStand{c, s}, allStands(), one(1, 0, "Waits", "Busy"))
	adds(t, cycStand{c, s}, nothingStands(), one(1, 0, "Waits", "Busy"))
	x := lane([]impl.ReqReq{readOf(1), named(1, readOf(16))}, 0, [4]int{})
	more := one(1, 0, "Busy")
	more.Busy[1] = 1
	adds(t, x, allStands(), more)
}

// Something in each place: 0 and 1 are told, and both have something that waits; 2 has nothing that waits; each store has something to do, and 1 alone does it.
func TestCntAddOfABusWithSomethingInEachPlace(t *testing.T) {
	adds(t, cycStand{crossing(), crossed()}, nothingStands(), impl.CntCount{
		Asked: []int{0, 1, 1}, Told: []int{1, 1, 1}, Waits: []int{1, 1, 0},
		Let: []int{0, 0, 0, 0}, Done: []int{0, 1, 0, 0}, Busy: []int{1, 1, 1, 1},
	})
	adds(t, cycStand{crossing(), crossed()}, allStands(), impl.CntCount{
		Asked: []int{0, 0, 0}, Told: []int{0, 0, 0}, Waits: []int{1, 1, 0},
		Let: []int{0, 0, 0, 0}, Done: []int{0, 0, 0, 0}, Busy: []int{1, 1, 1, 1},
	})
}

// Three who ask of three stores at once: each is let in by another one, and counted by its own place.
func TestCntAddOfAllAtOnce(t *testing.T) {
	c := busOf(doMaps()[0], []impl.ReqReq{readOf(60), readOf(61)}, []impl.ReqReq{readOf(1)}, []impl.ReqReq{readOf(16)})
	adds(t, cycStand{c, impl.CycNew()}, nothingStands(), impl.CntCount{Asked: []int{1, 1, 1}, Told: []int{0, 0, 0}})
	s := impl.CycFlow(c, impl.CycNew(), 1)
	adds(t, cycStand{c, s}, nothingStands(), impl.CntCount{Asked: []int{1, 0, 0}, Waits: []int{1, 1, 1}, Let: []int{1, 1, 0, 1}})
}

func TestCntAddOfABusOnWhichNobodyAsks(t *testing.T) {
	for _, c := range []impl.BusCfg{busOf(doMaps()[0], nil, nil, nil), busOf(nil, nil, []impl.ReqReq{}, nil)} {
		for _, in := range append(onesAt(), nothingStands(), allStands()) {
			adds(t, cycStand{c, impl.CycNew()}, in, noughtsAsSaid())
		}
	}
}

func TestCntAddWhereAllWasTold(t *testing.T) {
	for _, c := range cycBuses()[:4] {
		adds(t, cycStand{c, toldStand(c, 3)}, nothingStands(), noughtsAsSaid())
	}
}

func TestCntAddWhereverABusMayStand(t *testing.T) {
	some := freshCounts()
	k := 0
	eachCycStand(func(c impl.BusCfg, s impl.CycState) {
		for _, in := range append(insBy(k, 2), nothingStands(), allStands()) {
			n := some[k%len(some)]
			k++
			if got, want := impl.CntAdd(n, c, s, in), countAsSaid(n, c, s, in); !sameCount(got, want) {
				t.Fatalf("of %v, with %v a cycle more of %v is %v, not %v", n, in, s, got, want)
			}
		}
	})
}

// Each word of what comes from outside, whatever all others are.
func TestCntAddOfEachThatMayComeFromOutside(t *testing.T) {
	stands := []cycStand{{crossing(), crossed()}, flowing(1)}
	for k, x := range stands {
		stands = append(stands, cycStand{x.bus, cyclesAsSaid(x.bus, x.state, insBy(k, 3))})
	}
	for seed := range 1 << 10 {
		in := nothingStands()
		for k := range 3 {
			in.Ready[k], in.Send[k] = seed>>k&1 == 0, seed>>(7+k)&1 == 0
		}
		for k := range 4 {
			in.Stall[k] = seed>>(3+k)&1 == 0
		}
		for _, x := range stands {
			n := spread(seed, seed)
			if got, want := impl.CntAdd(n, x.bus, x.state, in), countAsSaid(n, x.bus, x.state, in); !sameCount(got, want) {
				t.Fatalf("with %v a cycle more of %v is %v, not %v", in, x.state, got, want)
			}
		}
	}
}

// As long as Cycles are below 2499 a cycle more is counted.
func TestCntAddUpToAsManyCyclesAsMayBe(t *testing.T) {
	x := flowing(1)
	for _, cycles := range []int{0, 1, 2497, 2498, 2499, 2500, 2501, 4998, 9998, 9999} {
		for _, n := range []impl.CntCount{spread(cycles, 1), topCount(cycles), {}} {
			if isNoCount(n) {
				n = noughtsAsSaid()
				n.Cycles = cycles
			}
			want := impl.CntCount{}
			if cycles < 2499 {
				want = countAsSaid(n, x.bus, x.state, nothingStands())
			}
			if got := impl.CntAdd(n, x.bus, x.state, nothingStands()); !sameCount(got, want) {
				t.Fatalf("behind %d cycles a cycle more is %v, not %v", cycles, got, want)
			}
		}
	}
}

// Each number at CntTop: where it rises it is one more, and so what was counted is no more to be counted on; where it does not, it stays, and is.
func TestCntAddOfANumberAtCntTop(t *testing.T) {
	for at, addr := range storeAddrs {
		x := flowing(addr)
		for _, l := range countedLists() {
			for k := range l.many {
				n := noughtsAsSaid()
				n.Cycles = 40
				top := 9999
				if l.cycles {
					top = 40
				}
				(*l.of(&n))[k] = top
				rises := l.many == 3 && k == 1 || l.many == 4 && k == at
				got := impl.CntAdd(n, x.bus, x.state, nothingStands())
				if !sameCount(got, countAsSaid(n, x.bus, x.state, nothingStands())) || ((*l.of(&got))[k] == top+1) != rises {
					t.Fatalf("with %d at %d of %s a cycle more is %v", top, k, l.name, got)
				}
				again := impl.CntAdd(got, x.bus, x.state, nothingStands())
				if past := rises && !l.cycles; impl.CntOk(got) == past || isNoCount(again) != past {
					t.Fatalf("with %d at %d of %s two cycles more are %v", top, k, l.name, again)
				}
			}
		}
	}
}

// noneAdded fails unless nothing comes of a cycle more.
func noneAdded(t *testing.T, n impl.CntCount, at cycStand, in impl.CycIn, what string) {
	t.Helper()
	if got := impl.CntAdd(n, at.bus, at.state, in); !isNoCount(got) {
		t.Fatalf("with %s a cycle more is %v", what, got)
	}
}

func TestCntAddOfWhatWasCountedThatIsNotOk(t *testing.T) {
	stands := []cycStand{{crossing(), crossed()}, flowing(16), {cycBuses()[0], impl.CycNew()}, {cycBuses()[1], toldStand(cycBuses()[1], 4)}}
	for _, n := range freshCounts() {
		for _, x := range countTurns() {
			turned := copyCount(n)
			x.turn(&turned)
			for _, at := range stands {
				noneAdded(t, turned, at, nothingStands(), x.what)
			}
		}
	}
	for _, at := range stands {
		noneAdded(t, impl.CntCount{}, at, nothingStands(), "nothing")
		noneAdded(t, impl.CntCount{Cycles: 7}, at, allStands(), "no lists")
	}
}

func TestCntAddOfABusThatIsNotOk(t *testing.T) {
	for _, c := range wrongBuses() {
		for _, s := range []impl.CycState{impl.CycNew(), crossed(), {}} {
			noneAdded(t, noughtsAsSaid(), cycStand{c, s}, nothingStands(), "a bus that is not ok")
		}
	}
}

func TestCntAddOfABusThatMayNotStandSo(t *testing.T) {
	for _, x := range wrongTurns() {
		s := crossed()
		x.turn(&s)
		for _, in := range []impl.CycIn{nothingStands(), allStands()} {
			noneAdded(t, noughtsAsSaid(), cycStand{crossing(), s}, in, x.what)
			noneAdded(t, spread(300, 3), cycStand{crossing(), s}, in, x.what)
		}
	}
	for _, c := range cycBuses() {
		noneAdded(t, noughtsAsSaid(), cycStand{bus: c}, nothingStands(), "nothing")
	}
	noneAdded(t, noughtsAsSaid(), cycStand{cycBuses()[0], crossed()}, nothingStands(), "how another bus stands")
}

func TestCntAddOfWhatComesFromOutsideThatIsNotOk(t *testing.T) {
	for _, in := range wrongIns() {
		for _, at := range []cycStand{{crossing(), crossed()}, flowing(33), {cycBuses()[0], impl.CycNew()}, {cycBuses()[1], toldStand(cycBuses()[1], 4)}} {
			noneAdded(t, noughtsAsSaid(), at, in, "what comes from outside that is not ok")
			noneAdded(t, topCount(7), at, in, "what comes from outside that is not ok")
		}
	}
}

// The empty list and the nil list are the same, also within a bus and how it stands.
func TestCntAddTakesTheEmptyListForTheNilList(t *testing.T) {
	for k, c := range cycBuses() {
		for _, s := range []impl.CycState{impl.CycNew(), strewnCyc(c, k)} {
			want := countAsSaid(noughtsAsSaid(), c, s, nothingStands())
			if got := impl.CntAdd(noughtsAsSaid(), c, emptied(s), nothingStands()); !sameCount(got, want) {
				t.Fatalf("with empty lists it is %v, not %v", got, want)
			}
		}
	}
}
