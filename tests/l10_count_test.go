package tests

import (
	"testing"

	"loop.example/crossyard/impl"
)

func TestConstantsOfWhatIsCounted(t *testing.T) {
	if impl.CntTop != 9999 {
		t.Fatalf("CntTop is %d", impl.CntTop)
	}
}

func TestCntNewIsNoughts(t *testing.T) {
	if n := impl.CntNew(); !sameCount(n, noughtsAsSaid()) || !impl.CntOk(n) || isNoCount(n) {
		t.Fatalf("CntNew is %v", n)
	}
}

func TestCntOkOfWhatMayBeCounted(t *testing.T) {
	for _, n := range okCounts() {
		if !impl.CntOk(n) || !countOkAsSaid(n) {
			t.Fatalf("%v is not ok", n)
		}
	}
	for seed := range 400 {
		if n := spread(seed*25, seed); !impl.CntOk(n) {
			t.Fatalf("%v is not ok", n)
		}
	}
}

func TestCntOkOfNothing(t *testing.T) {
	for _, n := range []impl.CntCount{{}, {Cycles: 1}, {Asked: []int{}, Told: []int{}, Waits: []int{}, Let: []int{}, Done: []int{}, Busy: []int{}}} {
		if impl.CntOk(n) {
			t.Errorf("%v is ok", n)
		}
	}
}

// Each number by itself, at 0, at Cycles, at CntTop and one past each; of Waits and Busy also between.
func TestCntOkOfEachNumber(t *testing.T) {
	for _, cycles := range []int{0, 1, 2, 77, 2498, 2499, 2500, 9998, 9999} {
		for _, l := range countedLists() {
			for k := range l.many {
				for _, x := range append([]int{-1, 0, 1, cycles - 1, cycles, cycles + 1, (cycles + 9999) / 2, 9998, 9999, 10000, 10001}, wildInts...) {
					for _, n := range []impl.CntCount{spread(cycles, k), topCount(cycles)} {
						(*l.of(&n))[k] = x
						want := x >= 0 && x <= 9999
						if l.cycles {
							want = x >= 0 && x <= cycles
						}
						if impl.CntOk(n) != want || countOkAsSaid(n) != want {
							t.Fatalf("with %d at %d of %s in %d cycles CntOk is not %v", x, k, l.name, cycles, want)
						}
					}
				}
			}
		}
	}
}

func TestCntOkOfCycles(t *testing.T) {
	for _, x := range append([]int{-1, 0, 1, 2498, 2499, 2500, 9998, 9999, 10000, 10001}, wildInts...) {
		n := noughtsAsSaid()
		n.Cycles = x
		if got := impl.CntOk(n); got != (x >= 0 && x <= 9999) {
			t.Errorf("with %d Cycles CntOk is %v", x, got)
		}
	}
	for cycles := range 12 {
		n := topCount(6)
		n.Cycles = cycles
		if got := impl.CntOk(n); got != (cycles >= 6) {
			t.Errorf("with 6 of Waits and Busy in %d Cycles CntOk is %v", cycles, got)
		}
	}
}

// What each has makes no difference to what another one may have: more may be told than asked, and done than let in.
func TestCntOkHoldsNoListAgainstAnother(t *testing.T) {
	for _, l := range countedLists() {
		n := noughtsAsSaid()
		n.Cycles = 5
		for k := range *l.of(&n) {
			(*l.of(&n))[k] = 5
			if !impl.CntOk(n) {
				t.Fatalf("with 5 at %d of %s it is not ok", k, l.name)
			}
		}
	}
}

func TestP93ACountWithANumberLessIsNone(t *testing.T) {
	for _, n := range okCounts() {
		for _, x := range countTurns() {
			turned := copyCount(n)
			x.turn(&turned)
			if impl.CntOk(turned) {
				t.Fatalf("with %s it is ok: %v", x.what, turned)
			}
		}
	}
}

// Of what cycles of buses come to, each list with a number less, each number below 0, and more of Busy than there were cycles.
func TestP93OfWhatCyclesComeTo(t *testing.T) {
	for _, c := range traceBuses() {
		for _, many := range []int{0, 1, 9, 120} {
			n := impl.CntRun(c, insBy(many, many))
			if !impl.CntOk(n) {
				t.Fatalf("CntRun is %v", n)
			}
			for _, x := range countTurns() {
				turned := copyCount(n)
				x.turn(&turned)
				if impl.CntOk(turned) {
					t.Fatalf("with %s it is ok: %v", x.what, turned)
				}
			}
			for at, busy := range n.Busy {
				for _, more := range []int{n.Cycles + 1 - busy, n.Cycles + 1, 9999} {
					turned := copyCount(n)
					turned.Busy[at] += more
					if impl.CntOk(turned) {
						t.Fatalf("with %d of Busy in %d cycles it is ok", turned.Busy[at], n.Cycles)
					}
				}
			}
		}
	}
}

// The number that is missing may stand behind the end of its list: it is not there all the same.
func TestP93WithTheNumberBehindTheEnd(t *testing.T) {
	for _, n := range okCounts() {
		for _, l := range countedLists() {
			turned := copyCount(n)
			list := l.of(&turned)
			*list = (*list)[: l.many-1 : l.many]
			if impl.CntOk(turned) {
				t.Fatalf("with a number of %s less it is ok", l.name)
			}
		}
	}
}
