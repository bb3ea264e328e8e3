package tests

import (
	"math"
	"slices"
	"testing"

	"loop.example/crossyard/impl"
)

// rings are all lists of who asks of up to so many.
func rings(most int) [][]bool {
	var all [][]bool
	for many := range most + 1 {
		for n := range 1 << many {
			asks := make([]bool, many)
			for k := range many {
				asks[k] = n>>k&1 == 1
			}
			all = append(all, asks)
		}
	}
	return all
}

// ofMany is a list of so many, of whom these ask.
func ofMany(many int, who ...int) []bool {
	asks := make([]bool, many)
	for _, k := range who {
		asks[k] = true
	}
	return asks
}

func TestP51EachComesInItsTurn(t *testing.T) {
	for _, asks := range rings(8) {
		for last := -3; last < len(asks)+4; last++ {
			if got, want := impl.ArbNext(last, asks), nextAsSaid(last, asks); got != want {
				t.Fatalf("of %v, behind %d, %d comes, not %d", asks, last, got, want)
			}
		}
	}
}

// Between who was last, and who comes, round about, nobody asks.
func TestP51NobodyWhoAsksIsPassedBy(t *testing.T) {
	for _, asks := range rings(7) {
		for last := range asks {
			next := impl.ArbNext(last, asks)
			if next < 0 {
				if slices.Contains(asks, true) {
					t.Fatalf("of %v, behind %d, nobody comes", asks, last)
				}
				continue
			}
			if next >= len(asks) || !asks[next] {
				t.Fatalf("of %v, behind %d, %d comes", asks, last, next)
			}
			for who := last + 1; who%len(asks) != next; who++ {
				if asks[who%len(asks)] {
					t.Fatalf("of %v, behind %d, %d comes ahead of %d", asks, last, next, who%len(asks))
				}
			}
		}
	}
}

func TestP51WhereNobodyAsksNobodyComes(t *testing.T) {
	for many := range 40 {
		for _, last := range append([]int{many - 1, many, many + 1}, wildInts...) {
			if got := impl.ArbNext(last, make([]bool, many)); got != -1 {
				t.Fatalf("of %d of whom nobody asks, behind %d, %d comes", many, last, got)
			}
		}
	}
}

// Of who ask, each time behind who came last, each comes once before anybody comes again.
func TestP51OfWhoAskEachComesOnce(t *testing.T) {
	for _, asks := range append(rings(7), slices.Repeat([]bool{true}, 50), slices.Repeat([]bool{true, false, false}, 30)) {
		for last := range asks {
			var want, got []int
			for k := range asks {
				if who := (last + 1 + k) % len(asks); asks[who] {
					want = append(want, who)
				}
			}
			at := last
			for range want {
				at = impl.ArbNext(at, asks)
				got = append(got, at)
			}
			if !slices.Equal(got, want) {
				t.Fatalf("of %v, behind %d, there come %v, not %v", asks, last, got, want)
			}
			if len(want) > 0 && impl.ArbNext(at, asks) != want[0] {
				t.Fatalf("of %v the first one does not come again", asks)
			}
		}
	}
}

func TestArbNextOfWhoAsksAlone(t *testing.T) {
	for many := 1; many < 20; many++ {
		for who := range many {
			for last := range many {
				if got := impl.ArbNext(last, ofMany(many, who)); got != who {
					t.Fatalf("of %d of whom %d asks alone, behind %d, %d comes", many, who, last, got)
				}
			}
		}
	}
}

func TestArbNextOfAListOfOne(t *testing.T) {
	if impl.ArbNext(0, []bool{true}) != 0 || impl.ArbNext(0, []bool{false}) != -1 {
		t.Errorf("of one there come %d and %d", impl.ArbNext(0, []bool{true}), impl.ArbNext(0, []bool{false}))
	}
}

// Behind the last one of a list comes the first who asks.
func TestArbNextOfTheLastOne(t *testing.T) {
	for _, x := range []struct {
		asks []bool
		want int
	}{
		{ofMany(4, 0, 1, 2, 3), 0},
		{ofMany(4, 1, 3), 1},
		{ofMany(4, 2), 2},
		{ofMany(4, 3), 3},
		{ofMany(4), -1},
	} {
		if got := impl.ArbNext(3, x.asks); got != x.want {
			t.Errorf("of %v, behind the last one, %d comes", x.asks, got)
		}
	}
}

// One who is none of them is nobody behind whom somebody could come.
func TestArbNextOfOneWhoIsNone(t *testing.T) {
	for _, asks := range append(rings(5), slices.Repeat([]bool{true}, 70)) {
		for _, last := range append([]int{-len(asks), -1, len(asks), len(asks) + 1, 2 * len(asks), math.MinInt, math.MaxInt}, wildInts...) {
			if last >= 0 && last < len(asks) {
				continue
			}
			if got := impl.ArbNext(last, asks); got != -1 {
				t.Fatalf("of %v, behind %d, %d comes", asks, last, got)
			}
		}
	}
}

func TestArbNextOfNobody(t *testing.T) {
	for _, asks := range [][]bool{nil, {}, ofMany(3, 0, 1, 2)[:0]} {
		for _, last := range append([]int{0}, wildInts...) {
			if got := impl.ArbNext(last, asks); got != -1 {
				t.Fatalf("of nobody, behind %d, %d comes", last, got)
			}
		}
	}
}

func TestArbNextOfMany(t *testing.T) {
	const many = 100000
	for _, who := range []int{0, 1, many / 2, many - 2, many - 1} {
		for _, last := range []int{0, 1, many/2 - 1, many / 2, many - 1} {
			if got := impl.ArbNext(last, ofMany(many, who)); got != who {
				t.Fatalf("behind %d %d comes, not %d", last, got, who)
			}
		}
	}
}

// whoMayGo are those whose first thing that waits may go to a store.
func whoMayGo(c impl.BusCfg, s impl.CycState, at int) []bool {
	asks := make([]bool, 3)
	for who := range asks {
		asks[who] = mayGoAsSaid(c, s, who, at)
	}
	return asks
}

// letInNext fails unless each store that has room lets in who comes next, and each that has none nobody; it answers how many were let in ahead of others who might go, too.
func letInNext(t *testing.T, c impl.BusCfg, s impl.CycState, in impl.CycIn) int {
	t.Helper()
	x, met := impl.CycStep(c, s, in), 0
	for at, v := range s.Slaves {
		j, let := letInAt(s, x, at)
		asks := whoMayGo(c, s, at)
		next := impl.ArbNext(v.Last, asks)
		if len(v.Pipe) == 2 {
			next = -1
		}
		if let != (next >= 0) || let && (j.Who != next || x.Slaves[at].Last != next) {
			t.Fatalf("store %d, behind %d, of %v lets in %v where %d comes next", at, v.Last, asks, j, next)
		}
		if let && len(slices.DeleteFunc(asks, func(asks bool) bool { return !asks })) > 1 {
			met++
		}
	}
	return met
}

func TestP60WhoIsLetInIsWhoComesNext(t *testing.T) {
	met := 0
	sends := []impl.CycIn{allStands(), comes("000", "1111", "111"), comes("000", "1111", "010")}
	eachCycStand(func(c impl.BusCfg, s impl.CycState) {
		for _, in := range sends {
			met += letInNext(t, c, s, in)
		}
	})
	if met < 300 {
		t.Fatalf("just %d times there were some who might go to a store", met)
	}
}

// Three ask of one store, behind each who was last, and each of them may go there, or may not.
func TestP60OfEachWhoMayGo(t *testing.T) {
	for last := range 3 {
		for _, asks := range rings(3) {
			if len(asks) != 3 {
				continue
			}
			c := busOf(doMaps()[0], []impl.ReqReq{readOf(16)}, []impl.ReqReq{readOf(17)}, []impl.ReqReq{readOf(18)})
			s := restAsSaid()
			s.Slaves[1].Last = last
			for who, is := range asks {
				if is {
					s.Ports[who].Next, s.Ports[who].Queue = 1, []int{0}
				}
			}
			letInNext(t, c, s, allStands())
			want := nextAsSaid(last, asks)
			j, let := letInAt(s, impl.CycStep(c, s, allStands()), 1)
			if let != (want >= 0) || let && j.Who != want {
				t.Fatalf("of %v, behind %d, the store lets in %v", asks, last, j)
			}
		}
	}
}

// Also along cycles, and wherever else a bus may stand: on buses that are apart, or crowded.
func TestP60AlongCycles(t *testing.T) {
	for _, j := range journeys() {
		for k := 0; k < len(j.stands); k += 7 {
			letInNext(t, j.bus, j.stands[k], allStands())
		}
	}
	for seed := range 300 {
		letInNext(t, crossing(), strewnCyc(crossing(), seed), allStands())
	}
}
