package tests

import (
	"slices"
	"testing"

	"loop.example/crossyard/impl"
)

// roomyCount has numbers behind the ends of its lists that would turn all, if they were seen.
func roomyCount(n impl.CntCount) impl.CntCount {
	x := impl.CntCount{Cycles: n.Cycles}
	for _, l := range countedLists() {
		*l.of(&x) = roomy(*l.of(&n))
	}
	return x
}

func spoilCount(n impl.CntCount) {
	for _, l := range countedLists() {
		spoil(*l.of(&n))
	}
}

// memoryCounts are such as are ok, and such as are not.
func memoryCounts() []impl.CntCount {
	all := []impl.CntCount{noughtsAsSaid(), spread(40, 1), topCount(2498), topCount(2499), {}}
	for k, x := range countTurns() {
		if k%9 == 0 {
			n := spread(300, k)
			x.turn(&n)
			all = append(all, n)
		}
	}
	return all
}

func TestCntNewIsNewMemory(t *testing.T) {
	keepApart(t, "CntNew", nil, func() []any { return []any{impl.CntNew()} })
	spoilCount(impl.CntNew())
	if n := impl.CntNew(); !sameCount(n, noughtsAsSaid()) {
		t.Fatalf("CntNew hands out what was written into an answer: %v", n)
	}
}

func TestCntAddLeavesItsArgumentsAndSharesNothing(t *testing.T) {
	some := []impl.CycIn{nothingStands(), allStands(), insBy(0, 1)[0], {}, inOf(3, 3, 3)}
	counts := memoryCounts()
	for k, at := range cycMemory() {
		c, s := roomyBus(at.bus), roomyCyc(at.state)
		for i, in := range some {
			one := counts[(k+i)%5]
			if i == 1 {
				one = counts[k%len(counts)]
			}
			want := impl.CntAdd(one, at.bus, at.state, in)
			n, given := roomyCount(one), roomyIn(in)
			keepApart(t, "CntAdd", []any{n, c, s, given}, func() []any {
				got := impl.CntAdd(n, c, s, given)
				if !sameCount(got, want) {
					t.Fatalf("CntAdd of %v looks behind an end", in)
				}
				return []any{got}
			})
		}
	}
}

func TestCntRunLeavesItsArgumentsAndSharesNothing(t *testing.T) {
	for _, bus := range slices.Concat(cycBuses(), []impl.BusCfg{crossing(), {}}, wrongBuses()[:9]) {
		c := roomyBus(bus)
		for _, many := range []int{0, 1, 5, 40, 301} {
			ins := roomyIns(insBy(3, many))
			want := impl.CntRun(bus, insBy(3, many))
			keepApart(t, "CntRun", []any{c, ins}, func() []any {
				got := impl.CntRun(c, ins)
				if !sameCount(got, want) {
					t.Fatalf("CntRun of %d cycles looks behind an end", many)
				}
				return []any{got}
			})
		}
	}
}

func TestCntOkAndArbNextLeaveWhatTheyAreGiven(t *testing.T) {
	for _, one := range memoryCounts() {
		n := roomyCount(one)
		keepApart(t, "CntOk", []any{n}, func() []any {
			if impl.CntOk(n) != impl.CntOk(one) {
				t.Fatal("CntOk looks behind an end")
			}
			return nil
		})
	}
	for _, list := range rings(5) {
		asks := roomyList(list, true, true, false, true)
		keepApart(t, "ArbNext", []any{asks}, func() []any {
			for last := -1; last < len(list)+3; last++ {
				if impl.ArbNext(last, asks) != nextAsSaid(last, list) {
					t.Fatalf("ArbNext of %v looks behind an end", list)
				}
			}
			return nil
		})
	}
}

// What was written into an answer must neither come back in the next one, nor into what it came from.
func TestWhatIsCountedHandsOutNothingThatWasSpoilt(t *testing.T) {
	for k, c := range cycBuses() {
		bus, s, ins := copyBus(c), strewnCyc(c, k), insBy(k, 30)
		stood, n := copyCyc(s), spread(40, k)
		was := copyCount(n)
		wantAdd, wantRun := countAsSaid(n, c, s, ins[0]), countsAsSaid(c, ins)
		for range 3 {
			add, run := impl.CntAdd(n, c, s, ins[0]), impl.CntRun(c, ins)
			if !sameCount(add, wantAdd) || !sameCount(run, wantRun) {
				t.Fatalf("CntAdd is %v, and CntRun %v", add, run)
			}
			spoilCount(add)
			spoilCount(run)
			spoilCount(impl.CntRun(c, nil))
			if !sameCount(n, was) || !sameBus(c, bus) || !sameCyc(s, stood) || !slices.EqualFunc(ins, insBy(k, 30), sameIn) {
				t.Fatal("to write into an answer turns an argument")
			}
		}
	}
}

func sameIn(a impl.CycIn, b impl.CycIn) bool {
	return slices.Equal(a.Ready, b.Ready) && slices.Equal(a.Stall, b.Stall) && slices.Equal(a.Send, b.Send)
}
