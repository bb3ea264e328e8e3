package tests

import (
	"math"
	"testing"

	"loop.example/crossyard/impl"
)

func TestCycAbsByHand(t *testing.T) {
	c, s := crossing(), crossed()
	done := func(who int, n int) impl.TlmJob {
		return impl.TlmJob{Who: who, N: n, Rsp: cameOf(c, impl.TlmJob{Who: who, N: n})}
	}
	want := impl.TlmState{
		Atm:   okStates()[2],
		Asked: []int{7, 5, 4},
		Wait:  []impl.TlmJob{{Who: 0, N: 3}, {Who: 0, N: 4}, {Who: 0, N: 5}, {Who: 0, N: 6}, {Who: 1, N: 2}, {Who: 1, N: 3}, {Who: 1, N: 4}, {Who: 2, N: 2}, {Who: 2, N: 3}},
		Done:  []impl.TlmJob{done(0, 1), done(0, 2), done(1, 0), done(2, 0), done(2, 1)},
		Told:  []impl.TlmJob{done(1, 1), done(0, 0)},
	}
	if got := impl.CycAbs(s); !sameStand(got, want) || !impl.TlmOk(c, got) {
		t.Fatalf("CycAbs is %v, not %v", got, want)
	}
}

func TestCycAbsWhereverABusMayStand(t *testing.T) {
	eachCycStand(func(c impl.BusCfg, s impl.CycState) {
		got := impl.CycAbs(s)
		if !sameStand(got, absAsSaid(s)) || !impl.TlmOk(c, got) {
			t.Fatalf("CycAbs of %v is %v", s, got)
		}
	})
}

func TestCycAbsOfAny(t *testing.T) {
	n := chance(9)
	for range 3000 {
		s := shaken(shaken(shaken(crossed(), &n), &n), &n)
		if got := impl.CycAbs(s); !sameStand(got, absAsSaid(s)) {
			t.Fatalf("CycAbs of %v is %v", s, got)
		}
	}
}

// What may not stand so is told all the same: numbers that are none, one more and one less, what stands twice, and nothing.
func TestCycAbsOfWhatMayNotStandSo(t *testing.T) {
	if got := impl.CycAbs(impl.CycState{}); !sameStand(got, impl.TlmState{}) {
		t.Fatalf("CycAbs of nothing is %v", got)
	}
	rsp := func(code int, words ...int) impl.RspRsp { return impl.RspRsp{Id: -3, Code: code, Data: words} }
	s := impl.CycState{
		Atm:   impl.AtmState{Mem: impl.MemMem{Words: []int{-1, 70000}}, Holds: []int{99}},
		Ports: []impl.CycPort{{Next: -4, Queue: []int{9, 2, 9}, Out: []impl.CycJob{{N: 8}}}, {Next: math.MaxInt}, {}, {Next: 3}, {Next: math.MinInt, Queue: []int{math.MinInt}, Last: -1}},
		Slaves: []impl.CycSlave{
			{Pipe: []impl.CycJob{{Who: 7, N: 1, Left: -1}, {Who: math.MaxInt, N: math.MaxInt}, {Who: 0, N: 2}}, Done: []impl.TlmJob{{Who: 1, N: 5, Rsp: rsp(1)}, {Who: 1, N: 5, Rsp: rsp(2, -1)}}},
			{Pipe: []impl.CycJob{{Who: math.MinInt, N: 4}}, Done: []impl.TlmJob{{Who: -1, N: math.MaxInt, Rsp: rsp(3)}, {Who: 1, N: 5, Rsp: rsp(4, 1, 2, 3, 4, 5)}, {Who: 1, N: 4, Rsp: rsp(5)}}, Last: 9},
		},
		Told: []impl.TlmJob{{Who: 3, N: 3, Rsp: rsp(9, 9)}, {Who: -3}, {Who: 3, N: 3}},
	}
	want := impl.TlmState{
		Atm:   impl.AtmState{Mem: impl.MemMem{Words: []int{-1, 70000}}, Holds: []int{99}},
		Asked: []int{-4, math.MaxInt, 0, 3, math.MinInt},
		Wait:  []impl.TlmJob{{Who: math.MinInt, N: 4}, {Who: 0, N: 2}, {Who: 0, N: 2}, {Who: 0, N: 9}, {Who: 0, N: 9}, {Who: 4, N: math.MinInt}, {Who: 7, N: 1}, {Who: math.MaxInt, N: math.MaxInt}},
		Done:  []impl.TlmJob{{Who: -1, N: math.MaxInt, Rsp: rsp(3)}, {Who: 1, N: 4, Rsp: rsp(5)}, {Who: 1, N: 5, Rsp: rsp(1)}, {Who: 1, N: 5, Rsp: rsp(2, -1)}, {Who: 1, N: 5, Rsp: rsp(4, 1, 2, 3, 4, 5)}},
		Told:  []impl.TlmJob{{Who: 3, N: 3, Rsp: rsp(9, 9)}, {Who: -3}, {Who: 3, N: 3}},
	}
	if got := impl.CycAbs(s); !sameStand(got, want) {
		t.Fatalf("CycAbs is %v, not %v", got, want)
	}
}

// What stands twice keeps the order of its places, however much there is of it.
func TestCycAbsOfMuchThatStandsTwice(t *testing.T) {
	s := crossed()
	for k := range 100 {
		v := &s.Slaves[k/25]
		v.Done = append(v.Done, impl.TlmJob{Who: k % 2, N: k % 3, Rsp: impl.RspRsp{Code: k, Data: []int{k}}})
		s.Ports[k%3].Queue = append(s.Ports[k%3].Queue, k%7)
	}
	if got := impl.CycAbs(s); !sameStand(got, absAsSaid(s)) {
		t.Fatalf("CycAbs of %v is %v", s, got)
	}
}
