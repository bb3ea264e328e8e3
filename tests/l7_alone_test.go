package tests

import (
	"slices"
	"testing"

	"loop.example/crossyard/impl"
)

func TestP44WhoIsLeftAloneAsksTheSame(t *testing.T) {
	for _, c := range traceBuses() {
		for who := range 3 {
			got := impl.BusAlone(c, who)
			if !impl.BusOk(got) || !sameBus(got, aloneAsSaid(c, who)) {
				t.Fatalf("%d alone is %v", who, got)
			}
			if again := impl.BusAlone(got, who); !sameBus(again, got) {
				t.Fatalf("%d alone, and once more, is %v", who, again)
			}
			for other := range 3 {
				if x := impl.BusAlone(got, other); other != who && !sameBus(x, impl.BusCfg{Map: c.Map, Lat: c.Lat, Progs: make([][]impl.ReqReq, 3)}) {
					t.Fatalf("of %d alone %d alone is %v", who, other, x)
				}
			}
		}
	}
}

func TestBusAloneOfOneThatAsksNothing(t *testing.T) {
	list := doMaps()[0]
	for _, nothing := range [][]impl.ReqReq{nil, {}} {
		c := busOf(list, nothing, []impl.ReqReq{writeOf(1, 5, 3)}, nothing)
		for _, who := range []int{0, 2} {
			x := impl.BusAlone(c, who)
			if !impl.BusOk(x) || !sameBus(x, busOf(list, nil, nil, nil)) || !impl.CycDone(x, impl.CycNew()) {
				t.Fatalf("%d alone, who asks nothing, is %v", who, x)
			}
		}
		if x := impl.BusAlone(c, 1); !sameBus(x, c) {
			t.Fatalf("who asks alone, alone, is %v", x)
		}
		none := busOf(list, nothing, nothing, nothing)
		for who := range 3 {
			if x := impl.BusAlone(none, who); !impl.BusOk(x) || !sameBus(x, none) {
				t.Fatalf("of a bus on which nobody asks %d alone is %v", who, x)
			}
		}
	}
}

func TestBusAloneAndBusApartOfWhatIsNotOk(t *testing.T) {
	for _, c := range wrongBuses() {
		for _, who := range slices.Concat(allWho, noWho) {
			if x := impl.BusAlone(c, who); !sameBus(x, impl.BusCfg{}) {
				t.Fatalf("of a bus that is not ok %d alone is %v", who, x)
			}
			if impl.BusApart(c, who) {
				t.Fatalf("on a bus that is not ok %d is apart", who)
			}
		}
	}
	for _, c := range traceBuses() {
		for _, who := range noWho {
			if x := impl.BusAlone(c, who); !sameBus(x, impl.BusCfg{}) || impl.BusApart(c, who) {
				t.Fatalf("%d, who is nobody, alone is %v", who, x)
			}
		}
	}
}

func TestP45WhoIsApartAsksOfStoresOfItsOwn(t *testing.T) {
	ways := map[bool]int{}
	for _, c := range traceBuses() {
		for who := range 3 {
			want := apartAsSaid(c, who)
			ways[want]++
			if got := impl.BusApart(c, who); got != want {
				t.Fatalf("on %v %d is apart: %v", c, who, got)
			}
			if !impl.BusApart(impl.BusAlone(c, who), who) {
				t.Fatalf("who asks alone is not apart: %v", c)
			}
		}
	}
	if len(ways) != 2 {
		t.Fatalf("not both were looked at: %v", ways)
	}
}

func TestBusApartByHand(t *testing.T) {
	list := doMaps()[0]
	one := func(addrs ...int) []impl.ReqReq {
		var all []impl.ReqReq
		for k, addr := range addrs {
			all = append(all, named(k%2, readOf(addr)))
		}
		return all
	}
	for _, x := range []struct {
		progs [3][]impl.ReqReq
		apart [3]bool
	}{
		{[3][]impl.ReqReq{one(1), one(2), one(3)}, [3]bool{}},
		{[3][]impl.ReqReq{one(1), one(16), one(33)}, [3]bool{true, true, true}},
		{[3][]impl.ReqReq{one(1), one(1), one(33)}, [3]bool{false, false, true}},
		{[3][]impl.ReqReq{one(60), one(50), one(33)}, [3]bool{false, false, true}},
		{[3][]impl.ReqReq{one(60), one(1, 16, 33), nil}, [3]bool{true, true, true}},
		{[3][]impl.ReqReq{one(1, 16, 33, 60), one(1), one(63)}, [3]bool{}},
		{[3][]impl.ReqReq{one(1, 1, 1, 16), one(33, 60), one(33, 16)}, [3]bool{}},
		{[3][]impl.ReqReq{one(1, 16), one(33, 60), one(34)}, [3]bool{true, false, false}},
		{[3][]impl.ReqReq{nil, nil, nil}, [3]bool{true, true, true}},
		{[3][]impl.ReqReq{nil, one(1), {}}, [3]bool{true, true, true}},
	} {
		c := busOf(list, x.progs[0], x.progs[1], x.progs[2])
		for who, want := range x.apart {
			if got := impl.BusApart(c, who); got != want {
				t.Errorf("of %v %d is apart: %v", x.progs, who, got)
			}
		}
	}
}

// Two ranges may be of one store; and of two ranges a burst that is not all of one is of none.
func TestBusApartGoesByStores(t *testing.T) {
	list := []impl.MapRange{{From: 0, To: 15, Slave: 0}, {From: 16, To: 31, Slave: 1}, {From: 32, To: 47, Slave: 0}}
	burst := impl.ReqReq{Kind: impl.ReqRead, Addr: 14, Many: 4}
	if c := busOf(list, []impl.ReqReq{readOf(1)}, []impl.ReqReq{readOf(40)}, []impl.ReqReq{readOf(20)}); impl.BusApart(c, 0) || impl.BusApart(c, 1) || !impl.BusApart(c, 2) {
		t.Error("two ranges of one store are apart, or two stores are not")
	}
	if c := busOf(list, []impl.ReqReq{burst}, []impl.ReqReq{readOf(14)}, []impl.ReqReq{readOf(60)}); impl.BusApart(c, 0) || !impl.BusApart(c, 1) || impl.BusApart(c, 2) {
		t.Error("a burst of no one store is of one, or is apart from where there is none")
	}
}

// toldAtOnce is what one that asks alone is told, done one thing at once.
func toldAtOnce(c impl.BusCfg, who int) (impl.AtmState, []impl.RspRsp) {
	return impl.AtmRun(c.Map, impl.AtmNew(), who, c.Progs[who])
}

func TestP8WhoAsksAloneIsAnsweredAsOneThingAtOnce(t *testing.T) {
	for _, c := range traceBuses() {
		for who := range 3 {
			x := impl.BusAlone(c, who)
			atm, want := toldAtOnce(c, who)
			for seed := range 8 {
				s := impl.CycFlow(x, impl.CycRun(x, impl.CycNew(), insBy(seed, 20*seed)), 200)
				got, all := byAsked(s.Told, who, len(c.Progs[who]))
				if !all || !sameRsps(got, want) || !sameState(s.Atm, atm) {
					t.Fatalf("%d alone is told %v, and it stands as %v; at once it is told %v, and leaves %v", who, got, s, want, atm)
				}
			}
		}
	}
}

// What one asks by two names, of stores that are not as slow, is told in another order; by what it asked it is the same.
func TestP8ByWhatItAsked(t *testing.T) {
	c := busOf(doMaps()[0], nil, []impl.ReqReq{writeOf(1, 300, 3), named(1, readOf(16)), readOf(1), named(1, readOf(17)), holdOf(0, 33), tryOf(0, 33, 4, 3), readOf(33)}, nil)
	atm, want := toldAtOnce(c, 1)
	s := impl.CycFlow(c, impl.CycNew(), 60)
	got, all := byAsked(s.Told, 1, 7)
	if !all || !sameRsps(got, want) || !sameState(s.Atm, atm) || s.Told[0].N != 1 || got[6].Data[0] != 4 {
		t.Fatalf("it is told %v, and at once %v", s.Told, want)
	}
}

// sameOfOwn says whether one has asked, waits for, and was told, the same.
func sameOfOwn(a impl.CycState, b impl.CycState, who int) bool {
	p, q := a.Ports[who], b.Ports[who]
	return p.Next == q.Next && slices.Equal(p.Queue, q.Queue) && slices.Equal(p.Out, q.Out) && sameJobs(toldTo(a.Told, who), toldTo(b.Told, who))
}

func TestP9WhoAsksOfAStoreOfItsOwnIsNotSlowed(t *testing.T) {
	busy := 0
	for _, j := range slices.Concat(journeys(), flows()) {
		for who := range 3 {
			if !apartAsSaid(j.bus, who) || len(j.bus.Progs[who]) == 0 {
				continue
			}
			x := impl.BusAlone(j.bus, who)
			s := impl.CycNew()
			for k, in := range j.ins {
				s = impl.CycStep(x, s, in)
				if !sameOfOwn(s, j.stands[k+1], who) {
					t.Fatalf("behind %d cycles %d stands as %v, and alone as %v", k+1, who, j.stands[k+1], s)
				}
			}
			if len(j.end().Told) > len(toldTo(j.end().Told, who)) {
				busy++
			}
		}
	}
	if busy < 100 {
		t.Fatalf("others were told something but %d times", busy)
	}
}

// Where others ask of its store, one is slowed: else to be told the same as alone would say nothing.
func TestP9WhoAsksOfAStoreOfOthersIsSlowed(t *testing.T) {
	slowed := 0
	for _, j := range flows() {
		for who := range 3 {
			if apartAsSaid(j.bus, who) {
				continue
			}
			x := impl.BusAlone(j.bus, who)
			for k := range j.stands {
				if k%10 == 5 && !sameOfOwn(impl.CycFlow(x, impl.CycNew(), k), j.stands[k], who) {
					slowed++
					break
				}
			}
		}
	}
	if slowed == 0 {
		t.Fatal("nobody is slowed")
	}
}

// asOther is a bus on which one alone asks, with another one who asks that.
func asOther(c impl.BusCfg, who int, other int) impl.BusCfg {
	x := copyBus(c)
	x.Progs[who], x.Progs[other] = x.Progs[other], x.Progs[who]
	return x
}

// sameOfAnybody says whether what was told is the same but for who was told.
func sameOfAnybody(a []impl.TlmJob, b []impl.TlmJob) bool {
	return slices.EqualFunc(a, b, func(x impl.TlmJob, y impl.TlmJob) bool { return x.N == y.N && sameRsp(x.Rsp, y.Rsp) })
}

func TestP88WhoAsksNothingMayBeAnybody(t *testing.T) {
	for _, c := range traceBuses() {
		for who := range 3 {
			x := impl.BusAlone(c, who)
			for other := range 3 {
				y := asOther(x, who, other)
				for _, many := range []int{1, 2, 3, 4, 5, 7, 10, 15, 30, 60, 120} {
					a, b := impl.CycFlow(x, impl.CycNew(), many), impl.CycFlow(y, impl.CycNew(), many)
					if !sameOfAnybody(a.Told, b.Told) || !slices.Equal(a.Atm.Mem.Words, b.Atm.Mem.Words) || impl.CycDone(x, a) != impl.CycDone(y, b) {
						t.Fatalf("behind %d cycles %d is told %v, and %d %v", many, who, a.Told, other, b.Told)
					}
				}
			}
		}
	}
}

// The same holds where what comes from outside is the same for all who ask, and stores stand still.
func TestP88WhateverComesFromOutside(t *testing.T) {
	for _, c := range traceBuses() {
		for seed := range 6 {
			ins := insBy(seed, 60)
			for k, in := range ins {
				ins[k].Ready, ins[k].Send = slices.Repeat(in.Ready[:1], 3), slices.Repeat(in.Send[:1], 3)
			}
			x := impl.BusAlone(c, 1)
			for _, other := range []int{0, 2} {
				y := asOther(x, 1, other)
				if a, b := impl.CycRun(x, impl.CycNew(), ins), impl.CycRun(y, impl.CycNew(), ins); !sameOfAnybody(a.Told, b.Told) {
					t.Fatalf("1 is told %v, and %d %v", a.Told, other, b.Told)
				}
			}
		}
	}
}

func TestP99HowSlowStoresAreMakesNoDifferenceToWhoAsksAlone(t *testing.T) {
	for _, c := range traceBuses() {
		for who := range 3 {
			x := impl.BusAlone(c, who)
			many := len(x.Progs[who])
			want, all := byAsked(impl.CycFlow(x, impl.CycNew(), 300).Told, who, many)
			for _, lat := range [][]int{{3, 3, 3, 3}, {0, 0, 0, 0}, {0, 1, 2, 3}, {3, 2, 1, 0}} {
				slow := copyBus(x)
				slow.Lat = lat
				got, allSlow := byAsked(impl.CycFlow(slow, impl.CycNew(), 300).Told, who, many)
				if !all || !allSlow || !sameRsps(got, want) {
					t.Fatalf("with stores as slow as %v %d alone is told %v, not %v", lat, who, got, want)
				}
			}
		}
	}
}
