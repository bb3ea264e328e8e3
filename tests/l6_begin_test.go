package tests

import (
	"slices"
	"testing"

	"loop.example/crossyard/impl"
)

func TestConstantsOfCycles(t *testing.T) {
	got := []int{impl.CycQueue, impl.CycPipe, impl.CycOut, impl.CycMost}
	if !slices.Equal(got, []int{2, 2, 4, 300}) {
		t.Fatalf("the constants of cycles are %v", got)
	}
}

func TestP41ABusBeginsAtRest(t *testing.T) {
	if s := impl.CycNew(); !sameCyc(s, restAsSaid()) {
		t.Fatalf("CycNew is %v", s)
	}
	if s := impl.CycAbs(impl.CycNew()); !sameStand(s, startAsSaid()) || !sameStand(s, impl.TlmNew()) {
		t.Fatalf("CycAbs of CycNew is %v", s)
	}
}

// Whatever is asked is still to ask, be it nothing, little, or as much as may be.
func TestP41EachBusMayBegin(t *testing.T) {
	list := doMaps()[0]
	buses := append(cycBuses(), busOf(nil, nil, nil, nil), busOf(list, walk(1, 12), nil, []impl.ReqReq{}))
	for _, most := range []int{0, 1, 11, 12} {
		buses = append(buses, busOf(list, walk(2, most), walk(3, most), walk(4, most)))
	}
	for _, c := range buses {
		s := impl.CycNew()
		if !impl.CycOk(c, s) {
			t.Fatalf("%v may not begin at rest", c)
		}
		for who, p := range s.Ports {
			if p.Next != 0 || len(p.Queue) != 0 || len(p.Out) != 0 {
				t.Fatalf("%d begins as %v", who, p)
			}
		}
		if got := impl.CycStep(c, s, nothingStands()); !sameCyc(got, cycleAsSaid(c, restAsSaid(), nothingStands())) {
			t.Fatalf("behind its first cycle it stands as %v", got)
		}
	}
}

// The first who is let in, and the first store that tells, are those behind the last ones: the first of all.
func TestP41TheFirstComeFirst(t *testing.T) {
	for _, p := range impl.CycNew().Ports {
		if p.Last != impl.SlvNone {
			t.Errorf("the store that told last is %d", p.Last)
		}
	}
	for _, v := range impl.CycNew().Slaves {
		if v.Last != impl.AtmMasters-1 {
			t.Errorf("who was let in last is %d", v.Last)
		}
	}
}

func TestP41ABusThatIsNotOkMayNotBegin(t *testing.T) {
	for _, c := range wrongBuses() {
		cycIsNothing(t, c, impl.CycNew(), "a bus that is not ok")
	}
}

func TestP98InAll(t *testing.T) {
	in := impl.InAll()
	if !impl.InOk(in) || !slices.Equal(in.Ready, []bool{true, true, true}) || !slices.Equal(in.Stall, make([]bool, 4)) || !slices.Equal(in.Send, []bool{true, true, true}) {
		t.Fatalf("InAll is %v", in)
	}
}

// Which words there are makes no difference, just how many.
func TestP98EachWordMayBe(t *testing.T) {
	for n := range 1 << 10 {
		in := nothingStands()
		for k := range 3 {
			in.Ready[k], in.Send[k] = n>>k&1 == 0, n>>(7+k)&1 == 0
		}
		for k := range 4 {
			in.Stall[k] = n>>(3+k)&1 == 0
		}
		if !impl.InOk(in) {
			t.Fatalf("%v is not ok", in)
		}
	}
}

// inOf is so many words in each of the three lists.
func inOf(ready int, stall int, send int) impl.CycIn {
	return impl.CycIn{Ready: make([]bool, ready), Stall: make([]bool, stall), Send: make([]bool, send)}
}

// wrongIns are what is not ok: with a word less and one more in each list, with none, with as many as of another list.
func wrongIns() []impl.CycIn {
	return []impl.CycIn{
		{}, inOf(0, 0, 0),
		inOf(2, 4, 3), inOf(4, 4, 3), inOf(0, 4, 3),
		inOf(3, 3, 3), inOf(3, 5, 3), inOf(3, 0, 3),
		inOf(3, 4, 2), inOf(3, 4, 4), inOf(3, 4, 0),
		inOf(4, 3, 3), inOf(3, 3, 4), inOf(4, 4, 4), inOf(2, 5, 3), inOf(2, 4, 4), inOf(10, 10, 10),
		{Stall: make([]bool, 4), Send: make([]bool, 3)},
		{Ready: make([]bool, 3), Send: make([]bool, 3)},
		{Ready: make([]bool, 3), Stall: make([]bool, 4)},
	}
}

func TestP98AWordForEach(t *testing.T) {
	for ready := range 6 {
		for stall := range 7 {
			for send := range 6 {
				if got := impl.InOk(inOf(ready, stall, send)); got != (ready == 3 && stall == 4 && send == 3) {
					t.Errorf("InOk of %d, %d and %d words is %v", ready, stall, send, got)
				}
			}
		}
	}
	for _, in := range wrongIns() {
		if impl.InOk(in) {
			t.Errorf("%v is ok", in)
		}
	}
}

// The words that are missing may stand behind the ends of the lists: they are not there all the same.
func TestP98AWordLess(t *testing.T) {
	for _, in := range append(insBy(1, 20), nothingStands(), allStands()) {
		ready, stall, send := copyIn(in), copyIn(in), copyIn(in)
		ready.Ready, stall.Stall, send.Send = ready.Ready[:2], stall.Stall[:3], send.Send[:2]
		if !impl.InOk(in) || impl.InOk(ready) || impl.InOk(stall) || impl.InOk(send) {
			t.Fatalf("of %v with a word less it is ok, or it is not", in)
		}
	}
}

func TestP98NothingComesOfWhatIsNotOk(t *testing.T) {
	eachKind := []cycStand{{cycBuses()[1], impl.CycNew()}, {crossing(), crossed()}}
	for _, at := range eachKind {
		for _, in := range wrongIns() {
			if got := impl.CycStep(at.bus, at.state, in); !sameCyc(got, impl.CycState{}) {
				t.Fatalf("CycStep of %v is %v", in, got)
			}
		}
	}
}
