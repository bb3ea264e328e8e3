package tests

import (
	"math"
	"slices"
	"testing"

	"loop.example/crossyard/impl"
)

func TestCycRunIsCyclesOneBehindTheOther(t *testing.T) {
	for _, c := range cycBuses() {
		for seed := range 6 {
			ins := insBy(seed, 40)
			stands := standsInCycles(c, ins)
			for many, want := range stands {
				if got := impl.CycRun(c, impl.CycNew(), ins[:many]); !sameCyc(got, want) {
					t.Fatalf("behind %d cycles it stands as %v, not %v", many, got, want)
				}
			}
			for cut, first := range stands {
				if got := impl.CycRun(c, first, ins[cut:]); !sameCyc(got, stands[40]) {
					t.Fatalf("cut at %d it stands as %v", cut, got)
				}
			}
		}
	}
}

func TestCycRunWhereverABusMayStand(t *testing.T) {
	for _, c := range append(cycBuses(), crossing()) {
		for seed := range 40 {
			s, ins := strewnCyc(c, seed), insBy(seed, 1+seed)
			if got := impl.CycRun(c, s, ins); !sameCyc(got, cyclesAsSaid(c, s, ins)) {
				t.Fatalf("from %v on it stands as %v", s, got)
			}
		}
	}
}

func TestCycRunOfNoCycles(t *testing.T) {
	eachCycStand(func(c impl.BusCfg, s impl.CycState) {
		for _, none := range [][]impl.CycIn{nil, {}, insBy(1, 2)[:0]} {
			if got := impl.CycRun(c, s, none); !sameCyc(got, s) {
				t.Fatalf("behind no cycles it stands as %v, not %v", got, s)
			}
		}
	})
}

func TestCycRunOfAsManyAsMayBe(t *testing.T) {
	for _, c := range append(cycBuses(), crossing()) {
		for _, many := range []int{1, 299, 300, 301, 302, 600} {
			ins := insBy(1, many)
			for _, s := range []impl.CycState{impl.CycNew(), strewnCyc(c, many)} {
				want := impl.CycState{}
				if many <= 300 {
					want = cyclesAsSaid(c, s, ins)
				}
				if got := impl.CycRun(c, s, ins); !sameCyc(got, want) {
					t.Fatalf("behind %d cycles it stands as %v, not %v", many, got, want)
				}
			}
		}
	}
}

func TestCycRunWithOneThatIsNotOk(t *testing.T) {
	for _, many := range []int{1, 2, 7, 300} {
		for _, place := range []int{0, many / 2, many - 1} {
			for _, wrong := range wrongIns() {
				ins := insBy(0, many)
				ins[place] = wrong
				for _, s := range []impl.CycState{impl.CycNew(), crossed()} {
					if got := impl.CycRun(crossing(), s, ins); !sameCyc(got, impl.CycState{}) {
						t.Fatalf("with %v at %d of %d cycles it stands as %v", wrong, place, many, got)
					}
				}
			}
		}
	}
}

// What is not ok is so also where all was told, and nothing more can happen.
func TestCycRunWithOneThatIsNotOkWhereAllWasTold(t *testing.T) {
	for _, c := range []impl.BusCfg{cycBuses()[0], cycBuses()[1]} {
		end := impl.CycFlow(c, impl.CycNew(), 100)
		if !allTold(c, end) {
			t.Fatalf("not all was told: %v", end)
		}
		for _, wrong := range wrongIns() {
			if got := impl.CycRun(c, end, []impl.CycIn{nothingStands(), wrong}); !sameCyc(got, impl.CycState{}) {
				t.Fatalf("with %v it stands as %v", wrong, got)
			}
		}
		if got := impl.CycRun(c, end, insBy(0, 30)); !sameCyc(got, end) {
			t.Fatalf("where all was told it goes on to %v", got)
		}
	}
}

func TestCycFlowIsToRunWhereNothingStandsStill(t *testing.T) {
	for _, c := range append(cycBuses(), crossing()) {
		for _, many := range []int{1, 2, 3, 9, 40, 299, 300} {
			ins := slices.Repeat([]impl.CycIn{nothingStands()}, many)
			for _, s := range []impl.CycState{impl.CycNew(), strewnCyc(c, many)} {
				want := cyclesAsSaid(c, s, ins)
				if got := impl.CycFlow(c, s, many); !sameCyc(got, want) || !sameCyc(impl.CycRun(c, s, ins), want) {
					t.Fatalf("behind %d cycles it stands as %v, not %v", many, got, want)
				}
			}
		}
	}
}

func TestCycFlowOfNoneOrLess(t *testing.T) {
	for _, c := range append(cycBuses(), crossing()) {
		for _, s := range []impl.CycState{impl.CycNew(), strewnCyc(c, 1), strewnCyc(c, 2)} {
			for _, many := range []int{0, -1, -2, -300, -301, -1 << 32, math.MinInt, math.MinInt + 1} {
				if got := impl.CycFlow(c, s, many); !sameCyc(got, s) {
					t.Fatalf("behind %d cycles it stands as %v, not %v", many, got, s)
				}
			}
		}
	}
}

func TestCycFlowOfMoreThanMayBe(t *testing.T) {
	for _, c := range append(cycBuses(), crossing()) {
		for _, many := range []int{301, 302, 1000, 1 << 32, math.MaxInt - 1, math.MaxInt} {
			if got := impl.CycFlow(c, impl.CycNew(), many); !sameCyc(got, impl.CycState{}) {
				t.Fatalf("behind %d cycles it stands as %v", many, got)
			}
		}
	}
}

// A bus that asks as much as may be comes to its end, however slow its stores are.
func TestCycFlowToTheEnd(t *testing.T) {
	for _, c := range cycBuses() {
		if got := impl.CycFlow(c, impl.CycNew(), 300); !allTold(c, got) || !impl.CycOk(c, got) {
			t.Fatalf("behind 300 cycles it stands as %v", got)
		}
	}
}

func TestCycOkTakesTheEmptyListForTheNilList(t *testing.T) {
	for _, c := range cycBuses() {
		for _, s := range []impl.CycState{impl.CycNew(), strewnCyc(c, 5), impl.CycFlow(c, impl.CycNew(), 300)} {
			x := emptied(s)
			if !impl.CycOk(c, x) || !sameStand(impl.CycAbs(x), impl.CycAbs(s)) || !sameCyc(impl.CycFlow(c, x, 5), impl.CycFlow(c, s, 5)) {
				t.Fatalf("with empty lists it may not stand as %v", x)
			}
		}
	}
}

// emptied has an empty list wherever there may be a nil list.
func emptied(s impl.CycState) impl.CycState {
	s = copyCyc(s)
	s.Told = append([]impl.TlmJob{}, s.Told...)
	for k := range s.Ports {
		p := &s.Ports[k]
		p.Queue, p.Out = append([]int{}, p.Queue...), append([]impl.CycJob{}, p.Out...)
	}
	for k := range s.Slaves {
		v := &s.Slaves[k]
		v.Pipe, v.Done = append([]impl.CycJob{}, v.Pipe...), append([]impl.TlmJob{}, v.Done...)
	}
	return s
}
