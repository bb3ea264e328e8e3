package tests

import (
	"math"
	"slices"
	"testing"

	"loop.example/crossyard/impl"
)

// midway is a bus with several things of each who asks, of both names, in each place; what was told is not in the order of who asks.
func midway() (impl.BusCfg, impl.TlmState) {
	c := busOf(doMaps()[0], walk(7, 12), walk(8, 12), walk(9, 7))
	s := startAsSaid()
	s.Asked = []int{9, 9, 7}
	for who, many := range s.Asked {
		for n := range many {
			j := impl.TlmJob{Who: who, N: n}
			if (who+n)%3 == 0 {
				s.Wait = append(s.Wait, j)
				continue
			}
			j.Rsp = cameOf(c, j)
			if (who+n)%3 == 1 {
				s.Done = append(s.Done, j)
			} else {
				s.Told = append([]impl.TlmJob{j}, s.Told...)
			}
		}
	}
	return c, s
}

// cameOf is something that may come of a job.
func cameOf(c impl.BusCfg, j impl.TlmJob) impl.RspRsp {
	return impl.RspRsp{Id: c.Progs[j.Who][j.N].Id, Code: 1 + (j.Who+j.N)%4, Data: risingWords()[:j.N%5]}
}

// mayNotStand fails unless a bus may not stand so, and nothing comes of anything there.
func mayNotStand(t *testing.T, c impl.BusCfg, s impl.TlmState, what string) {
	t.Helper()
	if impl.TlmOk(c, s) {
		t.Fatalf("with %s a bus may stand so: %v", what, s)
	}
	for _, e := range []impl.TlmEvent{{}, {Kind: impl.TlmAsk}, {Kind: impl.TlmAsk, Who: 1, N: 9}, {Kind: impl.TlmDo}, {Kind: impl.TlmTell, Who: 1}, {Kind: 4, Who: -1, N: math.MaxInt}} {
		if got, ok := impl.TlmStep(c, s, e); ok || !sameStand(got, impl.TlmState{}) {
			t.Fatalf("with %s %v leads to %v and %v", what, e, got, ok)
		}
		if got, n := impl.TlmRun(c, s, []impl.TlmEvent{e}); n != -1 || !sameStand(got, impl.TlmState{}) {
			t.Fatalf("with %s TlmRun of %v is %v and %d", what, e, got, n)
		}
	}
	if got, n := impl.TlmRun(c, s, nil); n != -1 || !sameStand(got, impl.TlmState{}) {
		t.Fatalf("with %s TlmRun of nothing is %v and %d", what, got, n)
	}
}

func TestP80EachWayToStand(t *testing.T) {
	eachStand(func(at stand) {
		if !impl.TlmOk(at.bus, at.state) {
			t.Fatalf("behind %v it may not stand so", at.events)
		}
	})
	if c, s := midway(); !impl.TlmOk(c, s) {
		t.Fatalf("%v may not stand so", s)
	}
}

func TestP80WhatWaitsAndIsDone(t *testing.T) {
	eachStand(func(at stand) {
		for _, j := range at.state.Wait {
			both := j
			both.Rsp = cameOf(at.bus, j)
			s := copyStand(at.state)
			s.Done = putJob(s.Done, both)
			if impl.TlmOk(at.bus, s) {
				t.Fatalf("%v waits, and is done", j)
			}
			s = copyStand(at.state)
			s.Told = append(s.Told, both)
			if impl.TlmOk(at.bus, s) {
				t.Fatalf("%v waits, and was told", j)
			}
		}
	})
}

func TestP80OneMoreAskedThatIsNowhere(t *testing.T) {
	eachStand(func(at stand) {
		for who := range 3 {
			for _, more := range []int{1, -1} {
				s := copyStand(at.state)
				s.Asked[who] += more
				if impl.TlmOk(at.bus, s) {
					t.Fatalf("where %d has asked %d, and not %d, it may stand so", who, s.Asked[who], at.state.Asked[who])
				}
			}
		}
	})
}

// onePlace turns each list of jobs by itself.
type onePlace struct {
	name string
	of   func(s *impl.TlmState) *[]impl.TlmJob
}

func allPlaces() []onePlace {
	return []onePlace{
		{"Wait", func(s *impl.TlmState) *[]impl.TlmJob { return &s.Wait }},
		{"Done", func(s *impl.TlmState) *[]impl.TlmJob { return &s.Done }},
		{"Told", func(s *impl.TlmState) *[]impl.TlmJob { return &s.Told }},
	}
}

func TestP80EachThingIsInJustOnePlaceOnce(t *testing.T) {
	c, s := midway()
	for _, from := range allPlaces() {
		for k, j := range *from.of(&s) {
			none := copyStand(s)
			*from.of(&none) = dropJob(*from.of(&none), k)
			mayNotStand(t, c, none, "something of "+from.name+" in no place")
			for _, to := range allPlaces() {
				two := copyStand(s)
				if j.Rsp = cameOf(c, j); to.name == "Wait" {
					j.Rsp = impl.RspRsp{}
				}
				*to.of(&two) = putJobBehind(*to.of(&two), j, to.name)
				mayNotStand(t, c, two, "something of "+from.name+" once more in "+to.name)
			}
		}
	}
}

// putJobBehind keeps the order of a list that has one, so that it is not this that is wrong.
func putJobBehind(list []impl.TlmJob, j impl.TlmJob, name string) []impl.TlmJob {
	if name == "Told" {
		return append(copyJobs(list), j)
	}
	return putJob(list, j)
}

// As many are in all places as were asked, but one of them is twice there, or was not asked, and another one nowhere.
func TestP80OneThingInThePlaceOfAnother(t *testing.T) {
	c, s := midway()
	others := slices.Concat(s.Wait, s.Done, s.Told, []impl.TlmJob{{Who: 0, N: 9}, {Who: 0, N: 11}, {Who: 1, N: 10}})
	for _, place := range allPlaces() {
		for k, j := range *place.of(&s) {
			for _, other := range others {
				if other.Who == j.Who && other.N == j.N {
					continue
				}
				if other.Rsp = cameOf(c, other); place.name == "Wait" {
					other.Rsp = impl.RspRsp{}
				}
				x := copyStand(s)
				*place.of(&x) = putJobBehind(dropJob(*place.of(&x), k), other, place.name)
				mayNotStand(t, c, x, "another thing in "+place.name)
			}
		}
	}
}

// To be moved from one place to another keeps it as it may be, if what came of it is as it is there.
func TestP80AThingMayBeInEachPlace(t *testing.T) {
	c, s := midway()
	for _, from := range allPlaces() {
		for k, j := range *from.of(&s) {
			for _, to := range allPlaces() {
				x := copyStand(s)
				*from.of(&x) = dropJob(*from.of(&x), k)
				if j.Rsp = cameOf(c, j); to.name == "Wait" {
					j.Rsp = impl.RspRsp{}
				}
				*to.of(&x) = putJobBehind(*to.of(&x), j, to.name)
				if !impl.TlmOk(c, x) {
					t.Fatalf("with %v moved from %s to %s it may not stand so", j, from.name, to.name)
				}
			}
		}
	}
}

func TestP80WhatWasNotAskedIsInNoPlace(t *testing.T) {
	c, s := midway()
	for _, place := range allPlaces() {
		for _, j := range []impl.TlmJob{{Who: 0, N: 9}, {Who: 0, N: 11}, {Who: 0, N: 12}, {Who: 1, N: -1}, {Who: 2, N: 7}, {Who: -1}, {Who: 3}, {Who: math.MinInt}, {Who: math.MaxInt}, {Who: 1, N: math.MinInt}, {Who: 1, N: math.MaxInt}, {Who: 2, N: 1<<32 | 1}} {
			if place.name != "Wait" {
				j.Rsp = impl.RspRsp{Code: impl.RspOkay}
			}
			for id := range 2 {
				x := copyStand(s)
				if place.name != "Wait" {
					j.Rsp.Id = id
				}
				*place.of(&x) = putJobBehind(*place.of(&x), j, place.name)
				mayNotStand(t, c, x, "something not asked in "+place.name)
			}
		}
	}
}

func TestP80WhatWaitsAndWhatIsDoneIsInOrder(t *testing.T) {
	c, s := midway()
	for _, place := range allPlaces() {
		for k := 1; k < len(*place.of(&s)); k++ {
			for ahead := range k {
				x := copyStand(s)
				list := *place.of(&x)
				list[k], list[ahead] = list[ahead], list[k]
				if place.name == "Told" {
					if !impl.TlmOk(c, x) {
						t.Fatalf("with %v told in this order it may not stand so", x.Told)
					}
					continue
				}
				mayNotStand(t, c, x, place.name+" not in order")
			}
		}
	}
}

func TestP80WhatWaitsHasNothingComeOfIt(t *testing.T) {
	c, s := midway()
	for k := range s.Wait {
		for _, rsp := range []impl.RspRsp{cameOf(c, s.Wait[k]), {Code: 1}, {Id: 1}, {Id: -1}, {Data: []int{0}}, {Code: math.MinInt}, {Code: math.MaxInt}} {
			x := copyStand(s)
			x.Wait[k].Rsp = rsp
			mayNotStand(t, c, x, "something come of what waits")
		}
		x := copyStand(s)
		x.Wait[k].Rsp.Data = make([]int, 0, 3)
		if !impl.TlmOk(c, x) {
			t.Fatal("the empty list is not taken for nothing")
		}
	}
}

func TestP80WhatIsDoneOrWasToldHasWhatMayComeOfIt(t *testing.T) {
	c, s := midway()
	for _, place := range allPlaces()[1:] {
		for k, j := range *place.of(&s) {
			for _, rsp := range wrongRspsOf(c, j) {
				x := copyStand(s)
				(*place.of(&x))[k].Rsp = rsp
				mayNotStand(t, c, x, "what may not come of it in "+place.name)
			}
			for _, rsp := range okRsps() {
				x := copyStand(s)
				rsp.Id = j.Rsp.Id
				(*place.of(&x))[k].Rsp = rsp
				if !impl.TlmOk(c, x) {
					t.Fatalf("with %v come of %v in %s it may not stand so", rsp, j, place.name)
				}
			}
		}
	}
}

// wrongRspsOf is what may not come of a job: nothing, of the other name and of none, with a wrong Code, a word too much, and one that is none.
func wrongRspsOf(c impl.BusCfg, j impl.TlmJob) []impl.RspRsp {
	id := c.Progs[j.Who][j.N].Id
	all := []impl.RspRsp{{}, {Id: id}, {Id: 1 - id, Code: 1}, {Id: 1 - id, Code: 2, Data: []int{4}}, {Id: id, Code: 1, Data: make([]int, 5)}}
	for _, name := range noNames {
		all = append(all, impl.RspRsp{Id: name, Code: 1})
	}
	for _, code := range noCodes {
		all = append(all, impl.RspRsp{Id: id, Code: code})
	}
	for _, word := range noWords {
		all = append(all, impl.RspRsp{Id: id, Code: 1, Data: []int{0, word}})
	}
	return all
}

func TestP80HowMuchEachHasAsked(t *testing.T) {
	c, s := midway()
	for who := range 3 {
		for _, asked := range append([]int{len(c.Progs[who]) + 1}, noPlaces...) {
			if asked == s.Asked[who] {
				continue
			}
			x := copyStand(s)
			x.Asked[who] = asked
			mayNotStand(t, c, x, "too much or too little asked")
		}
	}
	for _, asked := range [][]int{nil, {}, s.Asked[:2], append(slices.Clone(s.Asked), 0), make([]int, 0, 3)} {
		x := copyStand(s)
		x.Asked = asked
		mayNotStand(t, c, x, "a number of what was asked more or less")
		x = startAsSaid()
		x.Asked = make([]int, len(asked))
		mayNotStand(t, c, x, "a number of what was asked more or less, of nothing asked")
	}
}

// What nobody asks was not asked, even where it is in a place, and counted.
func TestP80MoreWasAskedThanIsAsked(t *testing.T) {
	for _, c := range okBuses() {
		end, _ := runAsSaid(c, startAsSaid(), wander(c, 0))
		for who, prog := range c.Progs {
			for _, place := range allPlaces() {
				s := copyStand(end)
				s.Asked[who]++
				j := impl.TlmJob{Who: who, N: len(prog)}
				if place.name != "Wait" {
					j.Rsp.Code = impl.RspOkay
				}
				*place.of(&s) = append(*place.of(&s), j)
				mayNotStand(t, c, s, "more asked than is")
			}
		}
	}
}

// Of numbers that wrap round, added up, nothing may seem to be missing.
func TestP80NumbersThatWrapRound(t *testing.T) {
	c, _ := midway()
	for _, asked := range [][]int{{math.MinInt, math.MinInt, 0}, {math.MaxInt, math.MaxInt, 2}, {1, -1, 0}, {0, 2, -2}, {-1, -1, 2}} {
		s := startAsSaid()
		s.Asked = asked
		mayNotStand(t, c, s, "numbers that come to none")
	}
}

func TestP80AStoreThatIsNotOk(t *testing.T) {
	c, s := midway()
	for _, wrong := range wrongStates() {
		x := copyStand(s)
		x.Atm = wrong
		mayNotStand(t, c, x, "a store that is not ok")
		x = startAsSaid()
		x.Atm = wrong
		mayNotStand(t, c, x, "a store that is not ok at the beginning")
	}
}

func TestP80ABusThatIsNotOk(t *testing.T) {
	for _, c := range wrongBuses() {
		mayNotStand(t, c, startAsSaid(), "a bus that is not ok")
		mayNotStand(t, c, impl.TlmState{}, "a bus that is not ok, and nothing")
	}
	right := greatBuses()[0]
	end := standsAlong(right, wander(right, 0))
	for _, c := range wrongBuses() {
		mayNotStand(t, c, end[len(end)/2].state, "a bus that is not ok midway")
	}
	mayNotStand(t, right, impl.TlmState{}, "nothing")
}

// Of no list does it matter whether it is empty or nil.
func TestP80TheEmptyListAndTheNilList(t *testing.T) {
	c := impl.BusCfg{Map: []impl.MapRange{}, Lat: []int{0, 0, 0, 0}, Progs: [][]impl.ReqReq{{}, nil, {{Kind: impl.ReqRead, Many: 1, Data: []int{}, Lanes: []int{}}}}}
	s := impl.TlmNew()
	s.Wait, s.Done, s.Told = []impl.TlmJob{}, []impl.TlmJob{}, make([]impl.TlmJob, 0, 4)
	if !impl.BusOk(c) || !impl.TlmOk(c, s) {
		t.Fatal("with empty lists it may not stand so")
	}
	got, n := impl.TlmRun(c, s, []impl.TlmEvent{{Kind: 1, Who: 2}, {Kind: 2, Who: 2}, {Kind: 3, Who: 2}})
	want := impl.TlmState{Atm: s.Atm, Asked: []int{0, 0, 1}, Told: []impl.TlmJob{{Who: 2, Rsp: impl.RspRsp{Code: impl.RspNone}}}}
	if n != 3 || !sameStand(got, want) {
		t.Fatalf("it stands as %v behind %d", got, n)
	}
}
