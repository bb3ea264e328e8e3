package tests

import (
	"slices"
	"testing"

	"loop.example/crossyard/impl"
)

// countsOf is CntRun of each beginning of cycles, as far as to some of them.
func countsOf(c impl.BusCfg, ins []impl.CycIn) []impl.CntCount {
	var all []impl.CntCount
	for many := range len(ins) + 1 {
		all = append(all, impl.CntRun(c, ins[:many]))
	}
	return all
}

// countedIs fails unless what was counted is what happens, up to where a bus stands behind so many cycles.
func countedIs(t *testing.T, n impl.CntCount, s impl.CycState, cycles int) {
	t.Helper()
	out, done := 0, 0
	for who, p := range s.Ports {
		out += len(p.Out)
		if n.Asked[who] != p.Next || n.Told[who] != len(toldTo(s.Told, who)) {
			t.Fatalf("%d asked %d, and was told %d, as is counted, where a bus stands as %v", who, n.Asked[who], n.Told[who], s)
		}
	}
	for _, v := range s.Slaves {
		done += len(v.Done)
	}
	if n.Cycles != cycles || sumOf(n.Let) != out+len(s.Told) || sumOf(n.Done) != len(s.Told)+done {
		t.Fatalf("in %d cycles that is %v, where a bus stands as %v", cycles, n, s)
	}
	for _, l := range countedLists() {
		if list := *l.of(&n); len(list) != l.many || slices.Max(list) > cycles || slices.Min(list) < 0 {
			t.Fatalf("in %d cycles of %s there is %v", cycles, l.name, list)
		}
	}
}

func TestP13WhatIsCountedIsWhatHappens(t *testing.T) {
	for _, j := range append(journeys(), flows()...) {
		for _, many := range []int{0, 1, 2, 3, 5, 9, 17, 36, len(j.ins)} {
			n := impl.CntRun(j.bus, j.ins[:many])
			countedIs(t, n, j.stands[many], many)
			if !impl.CntOk(n) {
				t.Fatalf("%v is not ok", n)
			}
		}
	}
}

// What is counted of each Kind is what happens of it.
func TestP13OfEachKind(t *testing.T) {
	for _, j := range journeys() {
		n := impl.CntRun(j.bus, j.ins)
		all := slices.Concat(j.events...)
		if sumOf(n.Asked) != len(ofKind(all, 1)) || sumOf(n.Done) != len(ofKind(all, 2)) || sumOf(n.Told) != len(ofKind(all, 3)) {
			t.Fatalf("%v is counted where this happens: %v", n, all)
		}
	}
}

func TestP13OfAsManyCyclesAsMayBe(t *testing.T) {
	for _, c := range traceBuses() {
		for seed := range 6 {
			ins := insBy(seed, 300)
			countedIs(t, impl.CntRun(c, ins), impl.CycRun(c, impl.CycNew(), ins), 300)
		}
	}
}

func TestP59CycleByCycleAllIsCounted(t *testing.T) {
	for _, j := range journeys() {
		n := impl.CntNew()
		for k, in := range j.ins {
			more := impl.CntAdd(n, j.bus, j.stands[k], in)
			if !noMore(n, more) || more.Cycles != k+1 {
				t.Fatalf("%v is counted, and behind a cycle more %v", n, more)
			}
			n = more
			if k < 20 || k%13 == 0 || k == len(j.ins)-1 {
				if got := impl.CntRun(j.bus, j.ins[:k+1]); !sameCount(got, n) {
					t.Fatalf("in %d cycles there is %v, cycle by cycle %v", k+1, got, n)
				}
			}
		}
	}
}

// In a cycle each number rises by one at most.
func TestP59WhatIsCountedOnlyGrows(t *testing.T) {
	k := 0
	eachCycStand(func(c impl.BusCfg, s impl.CycState) {
		k++
		n := spread(k%2499, k)
		more := impl.CntAdd(n, c, s, insBy(k, 1)[0])
		if !noMore(n, more) || more.Cycles != n.Cycles+1 {
			t.Fatalf("%v is counted, and behind a cycle more %v", n, more)
		}
		for _, l := range countedLists() {
			for at, x := range *l.of(&more) {
				if x > (*l.of(&n))[at]+1 {
					t.Fatalf("%v is counted, and behind a cycle more %v", n, more)
				}
			}
		}
	})
}

func TestP92WhatIsCountedRises(t *testing.T) {
	for _, c := range traceBuses() {
		for seed := range 3 {
			ins := insBy(seed, 60)
			counts := countsOf(c, ins)
			if !sameCount(counts[0], impl.CntNew()) {
				t.Fatalf("of no cycles there is %v", counts[0])
			}
			for many, n := range counts {
				if n.Cycles != many || !noMore(n, counts[60]) || many > 0 && !noMore(counts[many-1], n) {
					t.Fatalf("of %d cycles there is %v, of all %v", many, n, counts[60])
				}
			}
		}
	}
}

func TestP92OfNoCycles(t *testing.T) {
	for _, c := range append(traceBuses(), busOf(nil, nil, nil, nil)) {
		for _, none := range [][]impl.CycIn{nil, {}, {nothingStands()}, {{}}} {
			if got := impl.CntRun(c, none[:0]); !sameCount(got, noughtsAsSaid()) || !sameCount(got, impl.CntNew()) {
				t.Fatalf("of no cycles there is %v", got)
			}
		}
	}
}

// askedOfStore is how much is asked of a store.
func askedOfStore(c impl.BusCfg, at int) int {
	many := 0
	for who, prog := range c.Progs {
		for n := range prog {
			if storeOf(c, who, n) == at {
				many++
			}
		}
	}
	return many
}

func TestP94EachStoreLetsInWhatIsAskedOfIt(t *testing.T) {
	for _, j := range flows() {
		met := 0
		for _, many := range []int{40, 60, 80, 100, 150, 200, 250} {
			if !allTold(j.bus, j.stands[many]) {
				continue
			}
			met++
			n := impl.CntRun(j.bus, j.ins[:many])
			for at := range 4 {
				if want := askedOfStore(j.bus, at); n.Let[at] != want || n.Done[at] != want {
					t.Fatalf("%d is asked of store %d, and of that is let in %d, and done %d", want, at, n.Let[at], n.Done[at])
				}
			}
			for who, prog := range j.bus.Progs {
				if n.Asked[who] != len(prog) || n.Told[who] != len(prog) {
					t.Fatalf("%d asks %d, and of that is asked %d, and told %d", who, len(prog), n.Asked[who], n.Told[who])
				}
			}
		}
		if met == 0 {
			t.Fatalf("in 250 cycles not all was told: %v", j.end())
		}
	}
}

// As long as something of what is asked of a store was not told, less may be let in, and done, but never more; and what is done was let in.
func TestP94NoStoreLetsInMore(t *testing.T) {
	for _, j := range journeys() {
		n := impl.CntRun(j.bus, j.ins)
		for at := range 4 {
			if n.Let[at] > askedOfStore(j.bus, at) || n.Done[at] > n.Let[at] {
				t.Fatalf("of store %d is let in %d, and done %d", at, n.Let[at], n.Done[at])
			}
		}
	}
}

func TestCntRunIsAsTheDocumentSays(t *testing.T) {
	for _, c := range traceBuses() {
		for _, ins := range insOf() {
			if got, want := impl.CntRun(c, ins), countsAsSaid(c, ins); !sameCount(got, want) {
				t.Fatalf("in %d cycles there is %v, not %v", len(ins), got, want)
			}
		}
	}
}

func TestCntRunOfEachBeginningOfCycles(t *testing.T) {
	for _, c := range traceBuses() {
		ins := insBy(5, 40)
		n, s := noughtsAsSaid(), restAsSaid()
		for many, got := range countsOf(c, ins) {
			if !sameCount(got, n) {
				t.Fatalf("in %d cycles there is %v, not %v", many, got, n)
			}
			if many < 40 {
				n, s = countAsSaid(n, c, s, ins[many]), cycleAsSaid(c, s, ins[many])
			}
		}
	}
}

// Of one thing: it waits in one cycle, and its store has it to do in as many as it is slow, and one.
func TestCntRunOfOneThing(t *testing.T) {
	for slow := range 4 {
		for at, addr := range storeAddrs {
			for _, many := range []int{slow + 4, slow + 5, 60, 300} {
				c := alone(slow, readOf(addr))
				want := one(1, at, "Asked", "Told", "Waits", "Let", "Done", "Busy")
				want.Cycles, want.Busy[at] = many, slow+1
				if got := impl.CntRun(c, slices.Repeat([]impl.CycIn{impl.InAll()}, many)); !sameCount(got, want) {
					t.Fatalf("in %d cycles there is %v, not %v", many, got, want)
				}
			}
		}
	}
}

// What stands still for all cycles: nobody is told, or nobody asks, or no store goes on; the others go on as far as they may.
func TestCntRunWithWhatStandsStill(t *testing.T) {
	c := alone(0, readOf(1), readOf(2), readOf(3), readOf(4), readOf(5), readOf(6), readOf(7), readOf(8))
	for _, x := range []struct {
		in   impl.CycIn
		want impl.CntCount
	}{
		// Two are done, two to do, two wait, from the second, and third, cycle on.
		{comes("101", "0000", "111"), impl.CntCount{Cycles: 50, Asked: []int{0, 6, 0}, Told: []int{0, 0, 0}, Waits: []int{0, 49, 0}, Let: []int{4, 0, 0, 0}, Done: []int{2, 0, 0, 0}, Busy: []int{48, 0, 0, 0}}},
		{comes("111", "1000", "111"), impl.CntCount{Cycles: 50, Asked: []int{0, 4, 0}, Told: []int{0, 0, 0}, Waits: []int{0, 49, 0}, Let: []int{2, 0, 0, 0}, Done: []int{0, 0, 0, 0}, Busy: []int{48, 0, 0, 0}}},
		{comes("111", "0000", "101"), impl.CntCount{Cycles: 50, Asked: []int{0, 0, 0}, Told: []int{0, 0, 0}, Waits: []int{0, 0, 0}, Let: []int{0, 0, 0, 0}, Done: []int{0, 0, 0, 0}, Busy: []int{0, 0, 0, 0}}},
		{nothingStands(), impl.CntCount{Cycles: 50, Asked: []int{0, 8, 0}, Told: []int{0, 8, 0}, Waits: []int{0, 8, 0}, Let: []int{8, 0, 0, 0}, Done: []int{8, 0, 0, 0}, Busy: []int{8, 0, 0, 0}}},
	} {
		if got := impl.CntRun(c, slices.Repeat([]impl.CycIn{x.in}, 50)); !sameCount(got, x.want) {
			t.Errorf("with %v there is %v, not %v", x.in, got, x.want)
		}
	}
}

// All ask as much as may be of stores that are as slow as may be: each is counted by itself.
func TestCntRunOfABusThatIsCrowded(t *testing.T) {
	for _, c := range crowdedBuses() {
		ins := slices.Repeat([]impl.CycIn{nothingStands()}, 300)
		got := impl.CntRun(c, ins)
		if !sameCount(got, countsAsSaid(c, ins)) || sumOf(got.Told) != 36 || sumOf(got.Done) != 36 {
			t.Fatalf("in 300 cycles there is %v", got)
		}
		for at, busy := range got.Busy {
			if many := askedOfStore(c, at); busy != 4*many {
				t.Errorf("store %d, of which %d is asked, is busy in %d cycles", at, many, busy)
			}
		}
	}
}

func TestCntRunOfAsManyAsMayBe(t *testing.T) {
	for _, c := range traceBuses() {
		for _, many := range []int{1, 299, 300, 301, 302, 600} {
			ins := insBy(1, many)
			want := impl.CntCount{}
			if many <= 300 {
				want = countsAsSaid(c, ins)
			}
			if got := impl.CntRun(c, ins); !sameCount(got, want) {
				t.Fatalf("in %d cycles there is %v, not %v", many, got, want)
			}
		}
	}
}

func TestCntRunOfABusThatIsNotOk(t *testing.T) {
	for _, c := range wrongBuses() {
		for _, many := range []int{0, 1, 2, 300, 301} {
			if got := impl.CntRun(c, insBy(0, many)); !isNoCount(got) {
				t.Fatalf("of a bus that is not ok, in %d cycles, there is %v", many, got)
			}
		}
	}
}

// noneCounted fails unless nothing comes of cycles of which one is not ok.
func noneCounted(t *testing.T, c impl.BusCfg, many int, place int, wrong impl.CycIn) {
	t.Helper()
	ins := insBy(0, many)
	ins[place] = wrong
	if got := impl.CntRun(c, ins); !isNoCount(got) {
		t.Fatalf("with %v at %d of %d cycles there is %v", wrong, place, many, got)
	}
}

// What is not ok at any place of the cycles, also behind where all was told, and where nobody asks.
func TestCntRunWithOneThatIsNotOk(t *testing.T) {
	all := wrongIns()
	for _, c := range []impl.BusCfg{crossing(), cycBuses()[0], busOf(nil, nil, nil, nil)} {
		for _, many := range []int{1, 2, 7} {
			for place := range many {
				for _, wrong := range all {
					noneCounted(t, c, many, place, wrong)
				}
			}
		}
		for place := range 300 {
			noneCounted(t, c, 300, place, all[place%len(all)])
		}
	}
}

func TestCntRunTwiceIsTheSame(t *testing.T) {
	for _, j := range journeys() {
		if a, b := impl.CntRun(j.bus, j.ins), impl.CntRun(j.bus, j.ins); !sameCount(a, b) {
			t.Fatalf("there is %v, and then %v", a, b)
		}
	}
}
