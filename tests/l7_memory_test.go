package tests

import (
	"math"
	"slices"
	"testing"

	"loop.example/crossyard/impl"
)

func TestCycEventsLeavesItsArgumentsAndSharesNothing(t *testing.T) {
	some := append(insBy(0, 2), nothingStands(), allStands(), impl.CycIn{}, inOf(3, 3, 3), inOf(4, 4, 3))
	for _, at := range cycMemory() {
		c, s := roomyBus(at.bus), roomyCyc(at.state)
		for _, in := range some {
			want := impl.CycEvents(at.bus, at.state, in)
			given := roomyIn(in)
			keepApart(t, "CycEvents", []any{c, s, given}, func() []any {
				got := impl.CycEvents(c, s, given)
				if !slices.Equal(got, want) {
					t.Fatalf("CycEvents of %v looks behind an end", in)
				}
				return []any{got}
			})
		}
	}
}

func TestCycTraceLeavesItsArgumentsAndSharesNothing(t *testing.T) {
	for _, at := range cycMemory() {
		c, s := roomyBus(at.bus), roomyCyc(at.state)
		for _, many := range []int{0, 1, 5, 40, 300, 301} {
			ins := roomyIns(insBy(3, many))
			want := impl.CycTrace(at.bus, at.state, insBy(3, many))
			keepApart(t, "CycTrace", []any{c, s, ins}, func() []any {
				got := impl.CycTrace(c, s, ins)
				if !slices.Equal(got, want) {
					t.Fatalf("CycTrace of %d cycles looks behind an end", many)
				}
				return []any{got}
			})
		}
	}
}

func TestCycDoneAndBusApartLeaveWhatTheyAreGiven(t *testing.T) {
	all := cycMemory()
	for _, c := range traceBuses() {
		all = append(all, cycStand{c, toldStand(c, 1)})
	}
	for _, at := range all {
		c, s := roomyBus(at.bus), roomyCyc(at.state)
		keepApart(t, "CycDone and BusApart", []any{c, s}, func() []any {
			if impl.CycDone(c, s) != impl.CycDone(at.bus, at.state) {
				t.Fatal("CycDone looks behind an end")
			}
			for _, who := range append(noWho, allWho...) {
				if impl.BusApart(c, who) != impl.BusApart(at.bus, who) {
					t.Fatal("BusApart looks behind an end")
				}
			}
			return nil
		})
	}
}

func TestAtmOrderLeavesItsArgumentsAndSharesNothing(t *testing.T) {
	for k, bus := range append(traceBuses(), wrongBuses()[:9]...) {
		c := roomyBus(bus)
		var all []impl.TlmEvent
		if impl.BusOk(bus) {
			all = mixed(eventsOf(bus), k)
		}
		for _, size := range []int{0, 1, len(all) / 2, len(all), 108, 109} {
			list := slices.Concat(all, all, slices.Repeat([]impl.TlmEvent{event(2, 0, 0)}, 109))[:size]
			events := roomyList(list, event(2, 1, 0), event(2, 0, 0), event(1, 0, 0))
			wantAtm, want := impl.AtmOrder(bus, list)
			keepApart(t, "AtmOrder", []any{c, events}, func() []any {
				atm, got := impl.AtmOrder(c, events)
				if !sameState(atm, wantAtm) || !sameJobs(got, want) {
					t.Fatalf("AtmOrder of %v looks behind an end", events)
				}
				return []any{atm, got}
			})
		}
	}
}

func TestBusAloneLeavesItsArgumentAndSharesNothing(t *testing.T) {
	for _, bus := range append(traceBuses(), wrongBuses()...) {
		c := roomyBus(bus)
		for _, who := range []int{math.MinInt, -1, 0, 1, 2, 3, math.MaxInt} {
			want := impl.BusAlone(bus, who)
			keepApart(t, "BusAlone", []any{c}, func() []any {
				got := impl.BusAlone(c, who)
				if !sameBus(got, want) {
					t.Fatalf("BusAlone of %d looks behind an end", who)
				}
				return []any{got}
			})
		}
	}
}

func TestToldOfLeavesItsArgumentAndSharesNothing(t *testing.T) {
	lists := [][]impl.TlmJob{nil, {}, crossed().Told, anyJobs(1), anyJobs(2), anyJobs(20), anyJobs(77)}
	for _, c := range traceBuses() {
		lists = append(lists, toldStand(c, 2).Told)
	}
	for _, list := range lists {
		given := roomyJobs(list)
		for _, who := range []int{math.MinInt, -1, 0, 1, 2, 3, 9, math.MaxInt} {
			keepApart(t, "ToldOf", []any{given}, func() []any {
				got := impl.ToldOf(given, who)
				if !sameJobs(got, toldTo(list, who)) {
					t.Fatalf("ToldOf of %d looks behind an end", who)
				}
				return []any{got}
			})
		}
	}
}

// spoilBus writes into all lists of a bus.
func spoilBus(c impl.BusCfg) {
	for k := range c.Map {
		c.Map[k] = impl.MapRange{From: -7, To: -7, Slave: -7}
	}
	spoil(c.Lat)
	for _, prog := range c.Progs {
		for k, r := range prog {
			spoil(r.Data)
			spoil(r.Lanes)
			prog[k] = impl.ReqReq{Id: -7}
		}
	}
	clear(c.Progs)
}

func spoilEvents(events []impl.TlmEvent) {
	for k := range events {
		events[k] = event(-7, -7, -7)
	}
}

// What was written into an answer must neither come back in the next one, nor into what it came from.
func TestWhatHappensInCyclesHandsOutNothingThatWasSpoilt(t *testing.T) {
	ins := insBy(2, 30)
	for _, c := range traceBuses() {
		was, s := copyBus(c), strewnCyc(c, 6)
		stood, told := copyCyc(s), toldStand(c, 6).Told
		events := dosOf(c)
		done := slices.Clone(events)
		wantTrace := traceAsSaid(c, s, ins)
		wantAtm, wantAll := orderAsSaid(c, events)
		for range 3 {
			one, trace := impl.CycEvents(c, s, nothingStands()), impl.CycTrace(c, s, ins)
			atm, all := impl.AtmOrder(c, events)
			if !slices.Equal(one, happensAsSaid(c, s, nothingStands())) || !slices.Equal(trace, wantTrace) || !sameState(atm, wantAtm) || !sameJobs(all, wantAll) {
				t.Fatalf("%v, %v, %v and %v", one, trace, atm, all)
			}
			spoilEvents(one)
			spoilEvents(trace)
			spoilState(atm)
			spoilJobs(all)
			for who := range 3 {
				x, own := impl.BusAlone(c, who), impl.ToldOf(told, who)
				if !sameBus(x, aloneAsSaid(was, who)) || !sameJobs(own, toldTo(toldStand(c, 6).Told, who)) {
					t.Fatalf("%d alone is %v, and was told %v", who, x, own)
				}
				spoilBus(x)
				spoilJobs(own)
			}
			if !sameBus(c, was) || !sameCyc(s, stood) || !slices.Equal(events, done) {
				t.Fatal("to write into an answer turns an argument")
			}
		}
	}
}

func spoilState(s impl.AtmState) {
	spoil(s.Mem.Words)
	spoil(s.Holds)
}
