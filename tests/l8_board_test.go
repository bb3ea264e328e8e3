package tests

import (
	"fmt"
	"slices"
	"testing"

	"loop.example/crossyard/impl"
)

// boarded fails unless DskBoard is what the document asks for, of what may stand so, and has as many lines.
func boarded(t *testing.T, c impl.BusCfg, s impl.CycState) []string {
	t.Helper()
	got := impl.DskBoard(c, s)
	if want := boardAsSaid(s); !slices.Equal(got, want) {
		t.Fatalf("DskBoard of %v is %q, not %q", s, got, want)
	}
	if len(got) != len(s.Told)+3+4 {
		t.Fatalf("of %d things that were told there are %d lines", len(s.Told), len(got))
	}
	return got
}

func noBoard(t *testing.T, c impl.BusCfg, s impl.CycState, what string) {
	t.Helper()
	if got := impl.DskBoard(c, s); len(got) != 0 {
		t.Fatalf("with %s DskBoard is %q", what, got)
	}
}

func TestP49ABoardAtTheBeginning(t *testing.T) {
	want := []string{
		"asks 0 0 waits 0 out 0", "asks 1 0 waits 0 out 0", "asks 2 0 waits 0 out 0",
		"store 0 does 0 done 0", "store 1 does 0 done 0", "store 2 does 0 done 0", "store 3 does 0 done 0",
	}
	for _, c := range traceBuses() {
		if got := boarded(t, c, impl.CycNew()); !slices.Equal(got, want) {
			t.Fatalf("at its beginning DskBoard is %q", got)
		}
	}
}

func TestP49ABoardByHand(t *testing.T) {
	s := crossed()
	s.Told[0].Rsp, s.Told[1].Rsp = impl.RspRsp{Code: impl.RspOkay, Data: []int{300, 0, 65535, 7}}, impl.RspRsp{Code: impl.RspDeny}
	want := []string{
		"told 1 1 okay 300 0 65535 7", "told 0 0 deny",
		"asks 0 7 waits 2 out 4", "asks 1 5 waits 1 out 3", "asks 2 4 waits 0 out 4",
		"store 0 does 2 done 2", "store 1 does 1 done 1", "store 2 does 2 done 1", "store 3 does 1 done 1",
	}
	if got := boarded(t, crossing(), s); !slices.Equal(got, want) {
		t.Fatalf("crossed DskBoard is %q", got)
	}
}

// Behind each of some cycles of buses on which all ask, or some, whatever comes from outside.
func TestP49ABoardBehindEachCycle(t *testing.T) {
	for k, c := range traceBuses() {
		s := impl.CycNew()
		for _, in := range append(insBy(k, 40), slices.Repeat([]impl.CycIn{nothingStands()}, 60)...) {
			s = impl.CycStep(c, s, in)
			boarded(t, c, s)
		}
	}
}

// Two digits of which thing it is, and of how much was asked, come along.
func TestP49ABoardWhereverABusMayStand(t *testing.T) {
	met := map[string]int{}
	for k, c := range traceBuses() {
		for seed := range 20 {
			for _, s := range []impl.CycState{strewnCyc(c, seed), toldStand(c, seed+k)} {
				for _, line := range boarded(t, c, s) {
					met[line]++
				}
			}
		}
	}
	for _, line := range []string{"asks 1 12 waits 0 out 0", "asks 2 11 waits 2 out 0", "store 3 does 2 done 2", "told 0 10 none", "told 2 11 held"} {
		if met[line] == 0 {
			t.Errorf("the line %q was not looked at", line)
		}
	}
}

func TestP49OfWhatMayNotStandSoThereIsNone(t *testing.T) {
	for _, x := range wrongTurns() {
		s := crossed()
		x.turn(&s)
		noBoard(t, crossing(), s, x.what)
	}
	for _, c := range wrongBuses() {
		noBoard(t, c, impl.CycNew(), "a bus that is not ok")
		noBoard(t, c, crossed(), "a bus that is not ok")
	}
	for _, atm := range wrongStates() {
		s := impl.CycNew()
		s.Atm = atm
		noBoard(t, crossing(), s, "a store that is not ok")
	}
	for _, c := range []impl.BusCfg{crossing(), flowBus(0, 0, 0, 0), {}} {
		noBoard(t, c, impl.CycState{}, "nothing that stands")
	}
	noBoard(t, flowBus(0, 0, 0, 0), crossed(), "things that nobody asks")
}

func TestP49HoweverItIsShaken(t *testing.T) {
	n := chance(49)
	both := map[bool]int{}
	for range 20000 {
		s := shaken(crossed(), &n)
		may := cycMayAsSaid(crossing(), s)
		both[may]++
		if may {
			boarded(t, crossing(), s)
		} else {
			noBoard(t, crossing(), s, fmt.Sprint(s))
		}
	}
	if both[true] < 100 || both[false] < 100 {
		t.Fatalf("all are much the same: %v", both)
	}
}

// The empty list and the nil list are the same.
func TestDskBoardOfEmptyLists(t *testing.T) {
	for _, c := range traceBuses() {
		for _, s := range []impl.CycState{impl.CycNew(), strewnCyc(c, 5), toldStand(c, 5)} {
			if got := impl.DskBoard(c, emptied(s)); !slices.Equal(got, impl.DskBoard(c, s)) {
				t.Fatalf("with empty lists DskBoard is %q", got)
			}
		}
	}
}
