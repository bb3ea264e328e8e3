package tests

import (
	"slices"
	"testing"

	"loop.example/crossyard/impl"
)

func TestP69AtTheBeginningNothingIsHeld(t *testing.T) {
	s := impl.AtmNew()
	if !impl.AtmOk(s) || !slices.Equal(s.Holds, []int{-1, -1, -1, -1, -1, -1}) || !slices.Equal(s.Mem.Words, make([]int, 64)) {
		t.Fatalf("AtmNew is %v", s)
	}
}

func TestP69StoresWithNothingHeld(t *testing.T) {
	for _, m := range okStores() {
		if !impl.AtmOk(impl.AtmState{Mem: m, Holds: impl.AtmNew().Holds}) {
			t.Errorf("%v, with nothing held, is not ok", m)
		}
	}
	for _, s := range okStates() {
		if !impl.AtmOk(s) {
			t.Errorf("%v is not ok", s)
		}
	}
}

func TestP69EachAddressMayBeHeldByEach(t *testing.T) {
	for place := range 6 {
		for addr := -1; addr <= impl.AdrMax; addr++ {
			s := impl.AtmNew()
			s.Holds[place] = addr
			if !impl.AtmOk(s) {
				t.Errorf("with %d held by %d it is not ok", addr, place)
			}
		}
		for _, addr := range noHolds {
			s := impl.AtmNew()
			s.Holds[place] = addr
			if impl.AtmOk(s) {
				t.Errorf("with %d held by %d it is ok", addr, place)
			}
		}
	}
}

func TestP69OneMoreOrLessThatHolds(t *testing.T) {
	for size := range 40 {
		for _, addr := range []int{-1, 0, 63} {
			s := impl.AtmNew()
			s.Holds = slices.Repeat([]int{addr}, size)
			if got := impl.AtmOk(s); got != (size == 6) {
				t.Errorf("with %d that hold %d it is ok: %v", size, addr, got)
			}
		}
	}
	for _, holds := range [][]int{nil, {}, make([]int, 0, 6), make([]int, 5, 6)} {
		if impl.AtmOk(impl.AtmState{Mem: impl.MemNew(), Holds: holds}) {
			t.Errorf("with %v held it is ok", holds)
		}
	}
}

func TestP69AStoreThatIsNotOk(t *testing.T) {
	for _, s := range wrongStates() {
		if impl.AtmOk(s) {
			t.Errorf("%v is ok", s)
		}
	}
}

// wrongStates are wrong in one part alone: a word more or less, one that is none, one more or less that holds, one that holds what may not be.
func wrongStates() []impl.AtmState {
	all := []impl.AtmState{{}, {Mem: impl.MemNew()}, {Holds: impl.AtmNew().Holds}}
	change := func(turn func(s *impl.AtmState)) {
		s := copyState(okStates()[2])
		turn(&s)
		all = append(all, s)
	}
	change(func(s *impl.AtmState) { s.Mem.Words = s.Mem.Words[:63] })
	change(func(s *impl.AtmState) { s.Mem.Words = append(s.Mem.Words, 0) })
	change(func(s *impl.AtmState) { s.Mem.Words = []int{} })
	change(func(s *impl.AtmState) { s.Holds = s.Holds[:5] })
	change(func(s *impl.AtmState) { s.Holds = append(s.Holds, -1) })
	change(func(s *impl.AtmState) { s.Holds = []int{} })
	for _, a := range []int{0, 14, 63} {
		for _, none := range noWords {
			change(func(s *impl.AtmState) { s.Mem.Words[a] = none })
		}
	}
	for place := range 6 {
		for _, none := range noHolds {
			change(func(s *impl.AtmState) { s.Holds[place] = none })
		}
	}
	return all
}

// nothingDone fails unless AtmDo is nothing and nothing, and AtmRun nothing and none.
func nothingDone(t *testing.T, list []impl.MapRange, s impl.AtmState, who int, r impl.ReqReq) {
	t.Helper()
	if got, rsp := impl.AtmDo(list, s, who, r); !sameState(got, impl.AtmState{}) || !sameRsp(rsp, impl.RspRsp{}) {
		t.Fatalf("AtmDo of %v by %d, in %v, %v, is %v and %v", r, who, list, s, got, rsp)
	}
	if got, all := impl.AtmRun(list, s, who, []impl.ReqReq{r}); !sameState(got, impl.AtmState{}) || len(all) != 0 {
		t.Fatalf("AtmRun of %v by %d, in %v, %v, is %v and %v", r, who, list, s, got, all)
	}
}

func TestP23NothingComesOfWhatIsNotOk(t *testing.T) {
	list, s := doMaps()[0], okStates()[2]
	for _, r := range someAsks() {
		for _, wrong := range wrongMaps() {
			nothingDone(t, wrong, s, 1, r)
		}
		for _, wrong := range wrongStates() {
			nothingDone(t, list, wrong, 1, r)
			nothingDone(t, nil, wrong, 1, r)
		}
		for _, who := range noWho {
			nothingDone(t, list, s, who, r)
			nothingDone(t, nil, s, who, r)
		}
	}
	for _, who := range allWho {
		for _, wrong := range wrongAsks() {
			nothingDone(t, list, s, who, wrong)
			nothingDone(t, nil, s, who, wrong)
		}
	}
}

func TestP23NothingComesOfWordsAndLanesThatAreNone(t *testing.T) {
	for _, r := range someAsks() {
		for k := range r.Data {
			for _, word := range noWords {
				wrong := copyAsk(r)
				wrong.Data[k] = word
				nothingDone(t, allOf, okStates()[1], 2, wrong)
			}
			for _, lanes := range noLanes {
				wrong := copyAsk(r)
				wrong.Lanes[k] = lanes
				nothingDone(t, allOf, okStates()[1], 2, wrong)
			}
		}
	}
}

func TestP23WildNumbers(t *testing.T) {
	s := okStates()[2]
	for _, list := range doMaps() {
		for _, addr := range wildInts {
			for _, many := range wildInts {
				for _, wrap := range []bool{false, true} {
					r := impl.ReqReq{Kind: impl.ReqRead, Addr: addr, Many: many, Wrap: wrap}
					if !goesOn(addr, many, wrap) {
						nothingDone(t, list, s, 0, r)
						continue
					}
					want, wantRsp := doneAtOnce(list, s, 0, r)
					if got, rsp := impl.AtmDo(list, s, 0, r); !sameState(got, want) || !sameRsp(rsp, wantRsp) {
						t.Fatalf("%v in %v tells %v, not %v", r, list, rsp, wantRsp)
					}
				}
			}
		}
	}
}
