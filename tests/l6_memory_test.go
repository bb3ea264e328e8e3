package tests

import (
	"testing"

	"loop.example/crossyard/impl"
)

func roomyIn(in impl.CycIn) impl.CycIn {
	return impl.CycIn{Ready: roomyList(in.Ready, true, false), Stall: roomyList(in.Stall, true, false), Send: roomyList(in.Send, true)}
}

func roomyIns(ins []impl.CycIn) []impl.CycIn {
	var all []impl.CycIn
	for _, in := range ins {
		all = append(all, roomyIn(in))
	}
	return roomyList(all, impl.CycIn{}, nothingStands())
}

// roomyCyc has, behind the ends of its lists, what would turn all, if it was seen.
func roomyCyc(s impl.CycState) impl.CycState {
	x := impl.CycState{Atm: roomyState(s.Atm), Told: roomyJobs(s.Told)}
	for _, p := range s.Ports {
		x.Ports = append(x.Ports, impl.CycPort{Next: p.Next, Queue: roomy(p.Queue), Out: roomyList(p.Out, impl.CycJob{Who: 9}, impl.CycJob{}), Last: p.Last})
	}
	for _, v := range s.Slaves {
		x.Slaves = append(x.Slaves, impl.CycSlave{Pipe: roomyList(v.Pipe, impl.CycJob{Who: -9}, impl.CycJob{}), Done: roomyJobs(v.Done), Last: v.Last})
	}
	x.Ports = roomyList(x.Ports, impl.CycPort{Queue: []int{0}}, impl.CycPort{})
	x.Slaves = roomyList(x.Slaves, impl.CycSlave{Pipe: []impl.CycJob{{}}}, impl.CycSlave{})
	return x
}

// cycMemory are buses at their beginning, midway, at their end, strewn, and where they may not stand so.
func cycMemory() []cycStand {
	var all []cycStand
	for k, c := range cycBuses() {
		all = append(all, cycStand{c, restAsSaid()}, cycStand{c, strewnCyc(c, k)}, cycStand{c, cyclesAsSaid(c, restAsSaid(), insBy(0, 10))}, cycStand{c, cyclesAsSaid(c, restAsSaid(), insBy(0, 300))})
	}
	twice := crossed()
	twice.Told = append(twice.Told, twice.Told[0])
	return append(all, cycStand{crossing(), crossed()}, cycStand{crossing(), twice}, cycStand{bus: crossing()}, cycStand{state: crossed()}, cycStand{wrongBuses()[3], crossed()})
}

func TestCycStepLeavesItsArgumentsAndSharesNothing(t *testing.T) {
	some := append(append(insBy(0, 2), onesAt()[:3]...), nothingStands(), allStands(), impl.CycIn{}, inOf(3, 3, 3))
	for _, at := range cycMemory() {
		c, s := roomyBus(at.bus), roomyCyc(at.state)
		for _, in := range some {
			want := impl.CycStep(at.bus, at.state, in)
			given := roomyIn(in)
			keepApart(t, "CycStep", []any{c, s, given}, func() []any {
				got := impl.CycStep(c, s, given)
				if !sameCyc(got, want) {
					t.Fatalf("CycStep of %v looks behind an end", in)
				}
				return []any{got}
			})
		}
	}
}

func TestCycRunLeavesItsArgumentsAndSharesNothing(t *testing.T) {
	for _, at := range cycMemory() {
		c, s := roomyBus(at.bus), roomyCyc(at.state)
		for _, many := range []int{0, 1, 5, 40} {
			ins := roomyIns(insBy(3, many))
			want := impl.CycRun(at.bus, at.state, insBy(3, many))
			keepApart(t, "CycRun", []any{c, s, ins}, func() []any {
				got := impl.CycRun(c, s, ins)
				if !sameCyc(got, want) {
					t.Fatalf("CycRun of %d cycles looks behind an end", many)
				}
				return []any{got}
			})
		}
	}
}

func TestCycFlowLeavesItsArgumentsAndSharesNothing(t *testing.T) {
	for _, at := range cycMemory() {
		c, s := roomyBus(at.bus), roomyCyc(at.state)
		for _, many := range []int{-1, 0, 1, 7, 60, 301} {
			want := impl.CycFlow(at.bus, at.state, many)
			keepApart(t, "CycFlow", []any{c, s}, func() []any {
				got := impl.CycFlow(c, s, many)
				if !sameCyc(got, want) {
					t.Fatalf("CycFlow of %d cycles looks behind an end", many)
				}
				return []any{got}
			})
		}
	}
}

func TestCycAbsLeavesItsArgumentAndSharesNothing(t *testing.T) {
	n := chance(2)
	all := cycMemory()
	for range 50 {
		all = append(all, cycStand{crossing(), shaken(shaken(crossed(), &n), &n)})
	}
	for _, at := range all {
		s := roomyCyc(at.state)
		want := impl.CycAbs(at.state)
		keepApart(t, "CycAbs", []any{s}, func() []any {
			got := impl.CycAbs(s)
			if !sameStand(got, want) {
				t.Fatal("CycAbs looks behind an end")
			}
			return []any{got}
		})
	}
}

func TestCycOkAndInOkLeaveWhatTheyAreGiven(t *testing.T) {
	ins := append(append(insBy(0, 3), wrongIns()...), nothingStands())
	for k, at := range cycMemory() {
		c, s, in := roomyBus(at.bus), roomyCyc(at.state), roomyIn(ins[k%len(ins)])
		keepApart(t, "CycOk and InOk", []any{c, s, in}, func() []any {
			if impl.CycOk(c, s) != impl.CycOk(at.bus, at.state) || impl.InOk(in) != impl.InOk(ins[k%len(ins)]) {
				t.Fatal("CycOk, or InOk, looks behind an end")
			}
			return nil
		})
	}
}

// spoilCyc writes into all lists of a bus.
func spoilCyc(s impl.CycState) {
	spoil(s.Atm.Mem.Words)
	spoil(s.Atm.Holds)
	spoilJobs(s.Told)
	for k := range s.Ports {
		p := &s.Ports[k]
		spoil(p.Queue)
		for n := range p.Out {
			p.Out[n] = impl.CycJob{Who: -7, N: -7, Left: -7}
		}
		p.Next, p.Last = -7, -7
	}
	for k := range s.Slaves {
		v := &s.Slaves[k]
		for n := range v.Pipe {
			v.Pipe[n] = impl.CycJob{Who: -7, N: -7, Left: -7}
		}
		spoilJobs(v.Done)
		v.Last = -7
	}
}

func spoilJobs(list []impl.TlmJob) {
	for k := range list {
		spoil(list[k].Rsp.Data)
		list[k].Who, list[k].N = -7, -7
	}
}

func TestCycNewAndInAllAreNewMemory(t *testing.T) {
	keepApart(t, "CycNew", nil, func() []any { return []any{impl.CycNew()} })
	keepApart(t, "InAll", nil, func() []any { return []any{impl.InAll()} })
	spoilCyc(impl.CycNew())
	if s := impl.CycNew(); !sameCyc(s, restAsSaid()) {
		t.Fatalf("CycNew hands out what was written into an answer: %v", s)
	}
	in := impl.InAll()
	in.Ready[0], in.Stall[3], in.Send[2] = false, true, false
	if in = impl.InAll(); !in.Ready[0] || in.Stall[3] || !in.Send[2] {
		t.Fatalf("InAll hands out what was written into an answer: %v", in)
	}
}

// What was written into an answer must neither come back in the next one, nor into what it came from.
func TestCyclesHandOutNothingThatWasSpoilt(t *testing.T) {
	for _, at := range cycMemory() {
		was := copyCyc(at.state)
		for _, in := range []impl.CycIn{nothingStands(), allStands(), {}} {
			calls := []func() impl.CycState{
				func() impl.CycState { return impl.CycStep(at.bus, at.state, in) },
				func() impl.CycState { return impl.CycRun(at.bus, at.state, []impl.CycIn{in, in}) },
				func() impl.CycState { return impl.CycRun(at.bus, at.state, nil) },
				func() impl.CycState { return impl.CycFlow(at.bus, at.state, 0) },
				func() impl.CycState { return impl.CycFlow(at.bus, at.state, 3) },
			}
			for k, call := range calls {
				want := copyCyc(call())
				for range 2 {
					got := call()
					if !sameCyc(got, want) || !sameCyc(at.state, was) {
						t.Fatalf("the %d. call is %v, not %v", k, got, want)
					}
					spoilCyc(got)
				}
			}
		}
		want := copyStand(impl.CycAbs(at.state))
		spoilStand(impl.CycAbs(at.state))
		if got := impl.CycAbs(at.state); !sameStand(got, want) || !sameCyc(at.state, was) {
			t.Fatalf("CycAbs is %v, not %v", got, want)
		}
	}
}
