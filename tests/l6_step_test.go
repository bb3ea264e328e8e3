package tests

import (
	"slices"
	"testing"

	"loop.example/crossyard/impl"
)

// cycled fails unless a cycle leads to how the document says that a bus stands behind it.
func cycled(t *testing.T, c impl.BusCfg, s impl.CycState, in impl.CycIn) impl.CycState {
	t.Helper()
	got := impl.CycStep(c, s, in)
	if want := cycleAsSaid(c, s, in); !sameCyc(got, want) {
		t.Fatalf("with %v, from %v on, it stands as %v, not %v", in, s, got, want)
	}
	return got
}

// cycledAll goes on as cycled does.
func cycledAll(t *testing.T, c impl.BusCfg, s impl.CycState, ins []impl.CycIn) impl.CycState {
	t.Helper()
	for _, in := range ins {
		s = cycled(t, c, s, in)
		if !impl.CycOk(c, s) || !sameStand(impl.CycAbs(s), absAsSaid(s)) {
			t.Fatalf("behind a cycle it may not stand as %v", s)
		}
	}
	return s
}

func TestCycStepUpToWhereAllWasTold(t *testing.T) {
	for _, c := range cycBuses() {
		s := cycledAll(t, c, impl.CycNew(), slices.Repeat([]impl.CycIn{nothingStands()}, 150))
		if !allTold(c, s) {
			t.Fatalf("behind 150 cycles it stands as %v", s)
		}
	}
}

// One who asks, or one store, is not Ready, does not Send, or stands still: for some cycles, and then all comes; for all cycles.
func TestCycStepWithOneThatHoldsUp(t *testing.T) {
	for _, c := range cycBuses() {
		for _, in := range onesAt() {
			s := cycledAll(t, c, impl.CycNew(), slices.Repeat([]impl.CycIn{in}, 60))
			if s = cycledAll(t, c, s, slices.Repeat([]impl.CycIn{nothingStands()}, 120)); !allTold(c, s) {
				t.Fatalf("behind 120 cycles in which nothing stands still it stands as %v", s)
			}
			some := slices.Repeat([]impl.CycIn{nothingStands(), nothingStands(), in, in, in}, 8)
			cycledAll(t, c, impl.CycNew(), some)
		}
	}
}

func TestCycStepWhateverComesFromOutside(t *testing.T) {
	for _, c := range cycBuses() {
		for seed := range 18 {
			cycledAll(t, c, impl.CycNew(), insBy(seed, 50))
		}
	}
}

func TestCycStepWhereverABusMayStand(t *testing.T) {
	for _, c := range append(cycBuses(), crossing()) {
		for seed := range 200 {
			s := strewnCyc(c, seed)
			if !cycMayAsSaid(c, s) {
				t.Fatalf("the test is wrong: %v", s)
			}
			cycledAll(t, c, s, insBy(seed, 4))
		}
	}
}

// Each word of what comes from outside, whatever all others are, from a bus with something in each place.
func TestCycStepOfEachThatMayComeFromOutside(t *testing.T) {
	for n := range 1 << 10 {
		in := nothingStands()
		for k := range 3 {
			in.Ready[k], in.Send[k] = n>>k&1 == 0, n>>(7+k)&1 == 0
		}
		for k := range 4 {
			in.Stall[k] = n>>(3+k)&1 == 0
		}
		cycled(t, crossing(), cycled(t, crossing(), crossed(), in), in)
	}
}

// alone is a bus on which 1 alone asks, and how slow all stores are.
func alone(slow int, asks ...impl.ReqReq) impl.BusCfg {
	return impl.BusCfg{Map: doMaps()[0], Lat: []int{slow, slow, slow, slow}, Progs: [][]impl.ReqReq{nil, asks, nil}}
}

// Asked in the first cycle, let in in the second one; then as many as the store is slow; done in the next one, and told in the one behind that.
func TestCycStepOfOneThing(t *testing.T) {
	for slow := range 4 {
		for at, addr := range []int{1, 16, 33, 60} {
			c := alone(slow, named(1, readOf(addr)))
			s := impl.CycNew()
			for cycle := 1; cycle <= slow+6; cycle++ {
				s = impl.CycStep(c, s, nothingStands())
				want := restAsSaid()
				p, v := &want.Ports[1], &want.Slaves[at]
				p.Next = 1
				j := impl.TlmJob{Who: 1, Rsp: impl.RspRsp{Id: 1, Code: impl.RspOkay, Data: []int{0}}}
				if at == 3 {
					j.Rsp = impl.RspRsp{Id: 1, Code: impl.RspNone}
				}
				switch out := []impl.CycJob{{Who: 1, Left: at}}; {
				case cycle == 1:
					p.Queue = []int{0}
				case cycle <= slow+2:
					p.Out, v.Pipe, v.Last = out, []impl.CycJob{{Who: 1, Left: slow + 2 - cycle}}, 1
				case cycle == slow+3:
					p.Out, v.Done, v.Last = out, []impl.TlmJob{j}, 1
				default:
					want.Told, p.Last, v.Last = []impl.TlmJob{j}, at, 1
				}
				if !sameCyc(s, want) {
					t.Fatalf("behind %d cycles, of a store that is as slow as %d, it stands as %v, not %v", cycle, slow, s, want)
				}
			}
		}
	}
}

// letIns is whom a store lets in, one behind the other.
func letIns(c impl.BusCfg, s impl.CycState, at int, ins []impl.CycIn) []int {
	var all []int
	for _, in := range ins {
		x := impl.CycStep(c, s, in)
		for _, p := range x.Slaves[at].Pipe {
			if !slices.ContainsFunc(s.Slaves[at].Pipe, func(q impl.CycJob) bool { return q.Who == p.Who && q.N == p.N }) {
				all = append(all, p.Who)
			}
		}
		s = x
	}
	return all
}

func TestCycStepLetsInRoundAbout(t *testing.T) {
	three := []impl.ReqReq{readOf(1), readOf(2), readOf(3)}
	c := busOf(doMaps()[0], three, three, three)
	c.Lat = []int{0, 0, 0, 0}
	flow := slices.Repeat([]impl.CycIn{nothingStands()}, 30)
	for last, want := range [][]int{{1, 2, 0}, {2, 0, 1}, {0, 1, 2}} {
		s := impl.CycNew()
		s.Slaves[0].Last = last
		if got := letIns(c, s, 0, flow); !slices.Equal(got, slices.Repeat(want, 3)) {
			t.Errorf("behind %d it lets in %v", last, got)
		}
	}
	// 1 asks in the fifth cycle, and may go in the sixth one, in which it is the turn of 0.
	late := slices.Concat(slices.Repeat([]impl.CycIn{comes("111", "0000", "101")}, 4), flow)
	if got := letIns(c, impl.CycNew(), 0, late); !slices.Equal(got, []int{0, 2, 0, 2, 0, 1, 2, 1, 1}) {
		t.Errorf("who comes late is let in as %v", got)
	}
	c.Progs[1] = nil
	if got := letIns(c, impl.CycNew(), 0, flow); !slices.Equal(got, []int{0, 2, 0, 2, 0, 2}) {
		t.Errorf("of two it lets in %v", got)
	}
	c.Progs[0] = nil
	if got := letIns(c, impl.CycNew(), 0, flow); !slices.Equal(got, []int{2, 2, 2}) {
		t.Errorf("of one it lets in %v", got)
	}
}

// Who may not go to a store is passed by, and comes in its turn once it may: it is not the last that was let in.
func TestCycStepPassesByWhoMayNotGo(t *testing.T) {
	c := crossing()
	s := restAsSaid()
	s.Slaves[0].Last = 0
	for who, n := range []int{0, 0, 0} {
		s.Ports[who].Next, s.Ports[who].Queue = n+1, []int{n}
	}
	got := cycled(t, c, s, nothingStands())
	if got.Slaves[0].Last != 1 || !slices.Equal(got.Slaves[0].Pipe, []impl.CycJob{{Who: 1, Left: 2}}) || !slices.Equal(got.Slaves[3].Pipe, []impl.CycJob{{Who: 2, Left: 3}}) || got.Slaves[1].Last != 2 {
		t.Fatalf("stores let in %v", got.Slaves)
	}
	got = cycled(t, c, got, nothingStands())
	if got.Slaves[0].Last != 0 || len(got.Slaves[0].Pipe) != 2 || got.Slaves[0].Pipe[1] != (impl.CycJob{Who: 0, Left: 2}) || got.Slaves[0].Pipe[0].Left != 1 {
		t.Fatalf("store 0 lets in %v", got.Slaves[0])
	}
}

// doneFor is a bus on which each store has so many things done for each who asks, in that order.
func doneFor(stores [4][]int) cycStand {
	c := impl.BusCfg{Map: doMaps()[0], Lat: []int{0, 0, 0, 0}, Progs: make([][]impl.ReqReq, 3)}
	s := restAsSaid()
	for at, all := range stores {
		for _, who := range all {
			n := len(c.Progs[who])
			c.Progs[who] = append(c.Progs[who], named(min(n, 1), readOf([]int{1, 16, 33, 60}[at])))
			s.Ports[who].Next++
			s.Ports[who].Out = append(s.Ports[who].Out, impl.CycJob{Who: who, N: n, Left: at})
			s.Slaves[at].Done = append(s.Slaves[at].Done, impl.TlmJob{Who: who, N: n, Rsp: impl.RspRsp{Id: min(n, 1), Code: 1, Data: []int{7}}})
		}
	}
	return cycStand{c, s}
}

// Each is told one thing in a cycle: of the stores that have one first for it, the first behind that which told it last.
func TestCycStepTellsRoundAbout(t *testing.T) {
	for _, x := range []struct {
		stores [4][]int
		last   int
		want   []int
	}{
		{[4][]int{{0}, {0}}, 3, []int{0, 1}},
		{[4][]int{{0}, {0}}, 0, []int{1, 0}},
		{[4][]int{{0}, {0}}, 1, []int{0, 1}},
		{[4][]int{{0}, {0}}, 2, []int{0, 1}},
		{[4][]int{{}, {0}, {}, {0}}, 0, []int{1, 3}},
		{[4][]int{{}, {0}, {}, {0}}, 1, []int{3, 1}},
		{[4][]int{{}, {0}, {}, {0}}, 2, []int{3, 1}},
		{[4][]int{{}, {0}, {}, {0}}, 3, []int{1, 3}},
		{[4][]int{{}, {}, {0}, {0}}, 2, []int{3, 2}},
		{[4][]int{{0, 0}}, 0, []int{0, 0}},
		{[4][]int{{}, {}, {}, {0, 0}}, 3, []int{3, 3}},
	} {
		at := doneFor(x.stores)
		at.state.Ports[0].Last = x.last
		s := at.state
		for k, store := range x.want {
			ahead := s.Slaves[store].Done[0]
			s = cycled(t, at.bus, s, nothingStands())
			if len(s.Told) != k+1 || !sameJob(s.Told[k], ahead) || s.Ports[0].Last != store || len(s.Ports[0].Out) != len(x.want)-k-1 {
				t.Fatalf("of %v, behind %d, it is told %v by %d in the %d. cycle", x.stores, x.last, s.Told, s.Ports[0].Last, k)
			}
		}
	}
}

// A store tells just its first thing, but to two who ask in one cycle, if the second thing is for one that comes behind.
func TestCycStepTellsTheFirstThatIsDone(t *testing.T) {
	at := doneFor([4][]int{{0, 1}})
	if s := cycled(t, at.bus, at.state, nothingStands()); len(s.Told) != 2 || s.Told[0].Who != 0 || s.Told[1].Who != 1 {
		t.Errorf("of 0 and then 1 it tells %v", s.Told)
	}
	at = doneFor([4][]int{{1, 0}})
	s := cycled(t, at.bus, at.state, nothingStands())
	if len(s.Told) != 1 || s.Told[0].Who != 1 || s.Ports[0].Last != 3 || s.Ports[1].Last != 0 || len(s.Ports[0].Out) != 1 {
		t.Errorf("of 1 and then 0 it tells %v", s.Told)
	}
	if s = cycled(t, at.bus, s, nothingStands()); len(s.Told) != 2 || s.Told[1].Who != 0 {
		t.Errorf("then it tells %v", s.Told)
	}
	at = doneFor([4][]int{{2, 0}, {1, 2}, {0, 1}})
	s = cycled(t, at.bus, at.state, comes("011", "0000", "111"))
	if len(s.Told) != 2 || s.Told[0].Who != 1 || s.Ports[1].Last != 1 || s.Told[1].Who != 2 || s.Ports[2].Last != 0 {
		t.Errorf("it tells %v", s.Told)
	}
}

func TestCycStepTellsWhoIsReady(t *testing.T) {
	for who := range 3 {
		in := comes("000", "0000", "111")
		at := doneFor([4][]int{{0}, {1}, {2}, {}})
		if s := cycled(t, at.bus, at.state, in); len(s.Told) != 0 || !slices.EqualFunc(s.Ports, at.state.Ports, samePort) {
			t.Fatalf("where nobody is Ready %v is told", s.Told)
		}
		in.Ready[who] = true
		if s := cycled(t, at.bus, at.state, in); len(s.Told) != 1 || s.Told[0].Who != who || len(s.Ports[who].Out) != 0 {
			t.Fatalf("where %d is Ready %v is told", who, s.Told)
		}
	}
}

func TestCycStepOfAStoreThatStandsStill(t *testing.T) {
	still := comes("111", "1000", "111")
	for left := range 3 {
		at := lane([]impl.ReqReq{readOf(1), readOf(2)}, 0, [4]int{})
		at.state.Slaves[0].Pipe[0].Left = left
		if got := cycled(t, at.bus, at.state, still); !sameCyc(got, at.state) {
			t.Fatalf("with %d Left a store that stands still stands as %v", left, got)
		}
		got := cycled(t, at.bus, at.state, nothingStands())
		if left > 0 && (got.Slaves[0].Pipe[0].Left != left-1 || len(got.Slaves[0].Done) != 0 || len(got.Slaves[0].Pipe) != 2) {
			t.Fatalf("with %d Left a store goes on as %v", left, got)
		}
		if left == 0 && (len(got.Slaves[0].Done) != 1 || !slices.Equal(got.Slaves[0].Pipe, []impl.CycJob{{Who: 1, N: 1, Left: 2}})) {
			t.Fatalf("with nothing Left a store goes on as %v", got)
		}
	}
}

// To stand still is to do nothing: what is done is told, and what waits is let in, all the same.
func TestCycStepOfAStoreThatStandsStillTellsAndLetsIn(t *testing.T) {
	at := lane([]impl.ReqReq{readOf(1), readOf(2), readOf(3)}, 0, [4]int{1})
	p := &at.state.Ports[1]
	p.Queue, p.Out = []int{2}, p.Out[:2]
	at.state.Slaves[0].Pipe = at.state.Slaves[0].Pipe[:1]
	got := cycled(t, at.bus, at.state, comes("111", "1111", "111"))
	if len(got.Told) != 1 || len(got.Slaves[0].Done) != 0 || !slices.Equal(got.Slaves[0].Pipe, []impl.CycJob{{Who: 1, N: 1, Left: 2}, {Who: 1, N: 2, Left: 2}}) {
		t.Fatalf("it stands as %v", got)
	}
}

func TestCycStepWhereDoneIsFull(t *testing.T) {
	four := []impl.ReqReq{readOf(1), readOf(2), writeOf(3, 5, 3), readOf(4)}
	at := lane(four, 0, [4]int{2})
	at.state.Slaves[0].Pipe[0].Left = 0
	if got := cycled(t, at.bus, at.state, comes("000", "0000", "111")); !sameCyc(got, at.state) {
		t.Fatalf("where Done is full, and nobody is told, it stands as %v", got)
	}
	got := cycled(t, at.bus, at.state, nothingStands())
	if len(got.Told) != 1 || len(got.Slaves[0].Done) != 2 || got.Slaves[0].Done[1].N != 2 || got.Atm.Mem.Words[3] != 5 || len(got.Slaves[0].Pipe) != 1 {
		t.Fatalf("where Done becomes free in the same cycle it stands as %v", got)
	}
	at.state.Slaves[0].Pipe[0].Left = 2
	if got := cycled(t, at.bus, at.state, comes("000", "0000", "111")); got.Slaves[0].Pipe[0].Left != 1 {
		t.Fatalf("where Done is full, and more than none Left, it stands as %v", got)
	}
}

// With two to do nobody is let in, unless one is done in the same cycle: then the other one does not begin yet.
func TestCycStepWhereAPipeIsFull(t *testing.T) {
	at := lane([]impl.ReqReq{readOf(1), readOf(2)}, 0, [4]int{})
	at.bus.Progs[0] = []impl.ReqReq{readOf(3)}
	at.state.Ports[0].Next, at.state.Ports[0].Queue = 1, []int{0}
	got := cycled(t, at.bus, at.state, nothingStands())
	if len(got.Slaves[0].Pipe) != 2 || !slices.Equal(got.Ports[0].Queue, []int{0}) || got.Slaves[0].Last != 2 {
		t.Fatalf("where a Pipe is full it stands as %v", got)
	}
	at.state.Slaves[0].Pipe[0].Left = 0
	got = cycled(t, at.bus, at.state, nothingStands())
	if !slices.Equal(got.Slaves[0].Pipe, []impl.CycJob{{Who: 1, N: 1, Left: 2}, {Who: 0, N: 0, Left: 2}}) || len(got.Slaves[0].Done) != 1 || len(got.Ports[0].Queue) != 0 || got.Slaves[0].Last != 0 {
		t.Fatalf("where a Pipe becomes free in the same cycle it stands as %v", got)
	}
	if got = cycled(t, at.bus, at.state, comes("111", "1000", "111")); len(got.Ports[0].Queue) != 1 {
		t.Fatalf("where a Pipe is full, and the store stands still, it stands as %v", got)
	}
}

func TestCycStepWhereAQueueIsFull(t *testing.T) {
	c := alone(3, readOf(1), readOf(2), readOf(3), readOf(4), readOf(5), readOf(6))
	s := impl.CycFlow(c, impl.CycNew(), 4)
	if s.Ports[1].Next != 4 || !slices.Equal(s.Ports[1].Queue, []int{2, 3}) {
		t.Fatalf("behind four cycles it stands as %v", s)
	}
	if got := cycled(t, c, s, nothingStands()); got.Ports[1].Next != 4 || !slices.Equal(got.Ports[1].Queue, []int{2, 3}) {
		t.Fatalf("with a Queue that is full it stands as %v", got)
	}
	s.Slaves[0].Pipe[0].Left = 0
	if got := cycled(t, c, s, nothingStands()); got.Ports[1].Next != 5 || !slices.Equal(got.Ports[1].Queue, []int{3, 4}) {
		t.Fatalf("with a Queue that becomes free in the same cycle it stands as %v", got)
	}
	if got := cycled(t, c, s, comes("111", "0000", "101")); got.Ports[1].Next != 4 || !slices.Equal(got.Ports[1].Queue, []int{3}) {
		t.Fatalf("where it does not Send it stands as %v", got)
	}
}

// With four on their way nothing more goes, unless one is told in the same cycle.
func TestCycStepWithAsMuchOnItsWayAsMayBe(t *testing.T) {
	at := lane([]impl.ReqReq{readOf(1), readOf(2), named(1, readOf(16)), named(1, readOf(17)), readOf(3)}, 0, [4]int{1, 1})
	p := &at.state.Ports[1]
	p.Queue, p.Out = []int{4}, p.Out[:4]
	at.state.Slaves[0].Pipe = at.state.Slaves[0].Pipe[:1]
	if got := cycled(t, at.bus, at.state, comes("101", "1111", "111")); len(got.Ports[1].Queue) != 1 || len(got.Ports[1].Out) != 4 {
		t.Fatalf("with four on their way it stands as %v", got)
	}
	got := cycled(t, at.bus, at.state, comes("111", "1111", "111"))
	if len(got.Ports[1].Queue) != 0 || !slices.Equal(got.Ports[1].Out, []impl.CycJob{{Who: 1, N: 1, Left: 0}, {Who: 1, N: 2, Left: 1}, {Who: 1, N: 3, Left: 1}, {Who: 1, N: 4, Left: 0}}) {
		t.Fatalf("with one told in the same cycle it stands as %v", got)
	}
}

func TestCycStepWithTheSameNameAtAnotherStore(t *testing.T) {
	for id := range 2 {
		at := lane([]impl.ReqReq{readOf(1), named(id, readOf(16))}, 0, [4]int{1})
		p := &at.state.Ports[1]
		p.Queue, p.Out = []int{1}, p.Out[:1]
		at.state.Slaves[1].Pipe = nil
		got := cycled(t, at.bus, at.state, comes("000", "0000", "000"))
		if id == 0 && !sameCyc(got, at.state) || id == 1 && (len(got.Slaves[1].Pipe) != 1 || len(got.Ports[1].Out) != 2) {
			t.Fatalf("with something at another store, asked by %d and by 0, it stands as %v", id, got)
		}
		if got = cycled(t, at.bus, at.state, nothingStands()); len(got.Slaves[1].Pipe) != 1 || len(got.Ports[1].Out) != 1 {
			t.Fatalf("once that was told it stands as %v", got)
		}
	}
}

// Of one store, and by one name, the second thing goes behind the first.
func TestCycStepWithTheSameNameAtTheSameStore(t *testing.T) {
	c := alone(1, readOf(1), readOf(2))
	s := impl.CycFlow(c, impl.CycNew(), 3)
	if !slices.Equal(s.Slaves[0].Pipe, []impl.CycJob{{Who: 1, Left: 0}, {Who: 1, N: 1, Left: 1}}) {
		t.Fatalf("behind three cycles it has %v to do", s.Slaves[0])
	}
}

// Of both things that wait one alone goes in a cycle, to a store ahead of, or behind, that of the other one.
func TestCycStepLetsInOneOfEach(t *testing.T) {
	for _, addrs := range [][]int{{1, 16}, {16, 1}, {33, 60}, {60, 33}} {
		c := alone(0, readOf(addrs[0]), named(1, readOf(addrs[1])))
		s := restAsSaid()
		s.Ports[1].Next, s.Ports[1].Queue = 2, []int{0, 1}
		got := cycled(t, c, s, allStands())
		first, second := storeOf(c, 1, 0), storeOf(c, 1, 1)
		if !slices.Equal(got.Ports[1].Queue, []int{1}) || len(got.Slaves[first].Pipe) != 1 || len(got.Slaves[second].Pipe) != 0 {
			t.Fatalf("it stands as %v", got)
		}
		if got = cycled(t, c, got, allStands()); len(got.Ports[1].Queue) != 0 || len(got.Slaves[second].Pipe) != 1 {
			t.Fatalf("then it stands as %v", got)
		}
	}
}

// Two who ask of two stores are both let in, in one cycle.
func TestCycStepLetsInAtEachStore(t *testing.T) {
	c := busOf(doMaps()[0], []impl.ReqReq{readOf(60)}, []impl.ReqReq{readOf(1)}, []impl.ReqReq{readOf(16)})
	s := impl.CycFlow(c, impl.CycNew(), 2)
	for at, who := range map[int]int{0: 1, 1: 2, 3: 0} {
		if len(s.Slaves[at].Pipe) != 1 || s.Slaves[at].Pipe[0].Who != who || s.Slaves[at].Last != who {
			t.Errorf("store %d has let in %v", at, s.Slaves[at])
		}
	}
}

func TestCycStepOfTheLastThing(t *testing.T) {
	c := alone(0, readOf(1), readOf(2))
	s := impl.CycNew()
	for _, next := range []int{1, 2, 2, 2} {
		s = cycled(t, c, s, nothingStands())
		if s.Ports[1].Next != next {
			t.Fatalf("it has asked %d", s.Ports[1].Next)
		}
	}
	if s.Ports[0].Next != 0 || len(s.Ports[1].Queue) != 0 {
		t.Fatalf("it stands as %v", s)
	}
}

// Where nobody is Ready, no store goes on, and nobody Sends, just what waits goes to its store.
func TestCycStepWhereAllStandsStill(t *testing.T) {
	eachCycStand(func(c impl.BusCfg, s impl.CycState) {
		got := cycled(t, c, s, allStands())
		if !sameState(got.Atm, s.Atm) || !sameJobs(got.Told, s.Told) {
			t.Fatalf("from %v on it stands as %v", s, got)
		}
		for at, v := range s.Slaves {
			if !sameJobs(got.Slaves[at].Done, v.Done) || !slices.Equal(got.Slaves[at].Pipe[:len(v.Pipe)], v.Pipe) {
				t.Fatalf("store %d goes from %v to %v", at, v, got.Slaves[at])
			}
		}
		for who, p := range s.Ports {
			if got.Ports[who].Next != p.Next || got.Ports[who].Last != p.Last {
				t.Fatalf("%d goes from %v to %v", who, p, got.Ports[who])
			}
		}
	})
}

// What is done is AtmDo of it: where another one writes between a hold and a try, as it is let in between, the try is not held.
func TestCycStepDoesOneThingAtOnce(t *testing.T) {
	list := []impl.MapRange{{From: 0, To: 3, Slave: 2}, {From: 4, To: 7, Slave: 0}}
	c := impl.BusCfg{Map: list, Lat: []int{0, 0, 0, 0}, Progs: [][]impl.ReqReq{{holdOf(0, 1), tryOf(0, 1, 9, 3)}, {writeOf(1, 5, 3)}, {writeOf(5, 6, 1)}}}
	s := impl.CycFlow(c, impl.CycNew(), 30)
	want := [][]impl.RspRsp{{{Code: impl.RspHeld, Data: []int{0}}, {Code: impl.RspOkay}}, {{Code: impl.RspOkay}}, {{Code: impl.RspOkay}}}
	for _, j := range s.Told {
		if !sameRsp(j.Rsp, want[j.Who][j.N]) {
			t.Errorf("%d is told %v of its %d. thing", j.Who, j.Rsp, j.N)
		}
	}
	if len(s.Told) != 4 || s.Atm.Mem.Words[1] != 5 || s.Atm.Mem.Words[5] != 6 {
		t.Errorf("it stands as %v", s)
	}
}

// The example of the document, by cycles: what was told behind 9 of them, how it stands, and what is told behind three more.
func TestCycFlowOfTheExample(t *testing.T) {
	list := []impl.MapRange{{From: 0, To: 15, Slave: 0}, {From: 16, To: 31, Slave: 1}, {From: 32, To: 47, Slave: 2, Only: true}}
	c := impl.BusCfg{Map: list, Lat: []int{2, 0, 1, 0}, Progs: [][]impl.ReqReq{
		{writeOf(1, 300, 3), named(1, readOf(16))},
		{holdOf(0, 1), tryOf(0, 1, 9, 1)},
		{writeOf(33, 1, 3), {Id: 1, Kind: impl.ReqRead, Addr: 60, Many: 2}},
	}}
	told := []impl.TlmJob{
		{Who: 0, N: 1, Rsp: impl.RspRsp{Id: 1, Code: impl.RspOkay, Data: []int{0}}},
		{Who: 2, N: 0, Rsp: impl.RspRsp{Code: impl.RspDeny}},
		{Who: 0, N: 0, Rsp: impl.RspRsp{Code: impl.RspOkay}},
		{Who: 2, N: 1, Rsp: impl.RspRsp{Id: 1, Code: impl.RspNone}},
		{Who: 1, N: 0, Rsp: impl.RspRsp{Code: impl.RspHeld, Data: []int{300}}},
	}
	s := impl.CycFlow(c, impl.CycNew(), 9)
	if !sameJobs(s.Told, told) {
		t.Fatalf("behind 9 cycles all were told %v", s.Told)
	}
	for who, p := range s.Ports {
		if p.Next != 2 || len(p.Queue) != 0 || len(p.Out) != who%2 {
			t.Errorf("%d stands as %v", who, p)
		}
	}
	for at, v := range s.Slaves {
		if len(v.Done) != 0 || len(v.Pipe) != []int{1, 0, 0, 0}[at] {
			t.Errorf("store %d stands as %v", at, v)
		}
	}
	told = append(told, impl.TlmJob{Who: 1, N: 1, Rsp: impl.RspRsp{Code: impl.RspHeld}})
	for more, many := range []int{5, 5, 5, 6} {
		if x := impl.CycFlow(c, s, more); !sameJobs(x.Told, told[:many]) {
			t.Errorf("behind %d more cycles all were told %v", more, x.Told)
		}
	}
}
