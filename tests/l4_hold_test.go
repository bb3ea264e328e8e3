package tests

import (
	"slices"
	"testing"

	"loop.example/crossyard/impl"
)

// allOf is ranges with all addresses, that may be written.
var allOf = []impl.MapRange{{From: 0, To: 63, Slave: 1}}

// mustDo does what is asked, one behind the other, each by who asks it, and is how all stands behind it, and the Code of the last one.
func mustDo(t *testing.T, list []impl.MapRange, s impl.AtmState, steps ...step) (impl.AtmState, int) {
	t.Helper()
	code := 0
	for _, x := range steps {
		var rsp impl.RspRsp
		s, rsp = impl.AtmDo(list, s, x.who, x.ask)
		if rsp.Code == 0 {
			t.Fatalf("nothing comes of %v of %d", x.ask, x.who)
		}
		code = rsp.Code
	}
	return s, code
}

// step is what one asks.
type step struct {
	who int
	ask impl.ReqReq
}

func TestP2WhoWritesFrees(t *testing.T) {
	eachDo(func(list []impl.MapRange, s impl.AtmState, who int, r impl.ReqReq) {
		want := slices.Clone(s.Holds)
		if turns(list, s, who, r) {
			for place, held := range want {
				if slices.Contains(burstOf(r), held) {
					want[place] = -1
				}
			}
		}
		if r.Kind == impl.ReqHold && answers(list, r) {
			want[who*2+r.Id] = r.Addr
		}
		if got, _ := impl.AtmDo(list, s, who, r); !slices.Equal(got.Holds, want) {
			t.Fatalf("behind %v of %d in %v, with %v held, %v is, not %v", r, who, list, s.Holds, got.Holds, want)
		}
	})
}

func TestP2AWriteFreesWhatSeveralHoldAndItsOwn(t *testing.T) {
	s := impl.AtmNew()
	copy(s.Holds, []int{20, 21, 20, 22, 19, 20})
	for lanes := range 4 {
		for _, who := range allWho {
			got, _ := mustDo(t, allOf, s, step{who, writeOf(20, 500, lanes)})
			if !slices.Equal(got.Holds, []int{-1, 21, -1, 22, 19, -1}) {
				t.Errorf("a write of lanes %d of %d leaves %v held", lanes, who, got.Holds)
			}
		}
		for place := range 6 {
			got, code := mustDo(t, allOf, s, step{place / 2, tryOf(place%2, 20, 500, lanes)})
			want := []int{-1, 21, -1, 22, 19, -1}
			if s.Holds[place] != 20 {
				want = s.Holds
			}
			if !slices.Equal(got.Holds, want) || code == impl.RspHeld != (s.Holds[place] == 20) {
				t.Errorf("a try of lanes %d by %d leaves %v held, and tells %d", lanes, place, got.Holds, code)
			}
		}
	}
}

func TestP2ABurstFreesEachOfItsWords(t *testing.T) {
	for _, who := range allWho {
		for _, lanes := range []int{0, 3} {
			for held := range 64 {
				s := impl.AtmNew()
				s.Holds[3] = held
				write := impl.ReqReq{Kind: impl.ReqWrite, Addr: 30, Many: 4, Data: []int{1, 2, 3, 4}, Lanes: []int{lanes, lanes, lanes, lanes}}
				row, _ := mustDo(t, allOf, s, step{who, write})
				write.Wrap = true
				round, _ := mustDo(t, allOf, s, step{who, write})
				if row.Holds[3] == -1 != (held >= 30 && held <= 33) || round.Holds[3] == -1 != (held >= 28 && held <= 31) {
					t.Errorf("of %d, held, a burst from 30 on leaves %d, round about %d", held, row.Holds[3], round.Holds[3])
				}
			}
		}
	}
}

func TestP2ToHoldTwice(t *testing.T) {
	for _, who := range allWho {
		for id := range impl.ReqIds {
			other := 1 - id
			once, _ := mustDo(t, allOf, impl.AtmNew(), step{who, holdOf(id, 5)})
			want := []int{-1, -1, -1, -1, -1, -1}
			want[who*2+id] = 5
			if !slices.Equal(once.Holds, want) {
				t.Errorf("behind a hold by name %d of %d %v is held", id, who, once.Holds)
			}
			if again, code := mustDo(t, allOf, once, step{who, holdOf(id, 5)}); !sameState(again, once) || code != impl.RspHeld {
				t.Errorf("behind the same hold once more %v is held, and %d told", again.Holds, code)
			}
			want[who*2+other] = 5
			if both, _ := mustDo(t, allOf, once, step{who, holdOf(other, 5)}); !slices.Equal(both.Holds, want) {
				t.Errorf("behind a hold by both names of %d %v is held", who, both.Holds)
			}
			want[who*2+id], want[who*2+other] = 6, -1
			if moved, _ := mustDo(t, allOf, once, step{who, holdOf(id, 6)}); !slices.Equal(moved.Holds, want) {
				t.Errorf("behind a hold of another address by name %d of %d %v is held", id, who, moved.Holds)
			}
		}
	}
}

// What can but be read may be held; and where no store answers nothing is.
func TestP2WhatCanButBeReadMayBeHeld(t *testing.T) {
	for _, addr := range []int{0, 31, 63} {
		s := impl.AtmNew()
		s.Holds[0] = addr
		only := []impl.MapRange{{From: 0, To: 63, Only: true}}
		got, code := mustDo(t, only, s, step{1, holdOf(1, addr)})
		if !slices.Equal(got.Holds, []int{addr, -1, -1, addr, -1, -1}) || code != impl.RspHeld {
			t.Errorf("of what can but be read %v is held, and %d told", got.Holds, code)
		}
		if left, code := mustDo(t, only, got, step{1, writeOf(addr, 7, 3)}); !sameState(left, got) || code != impl.RspDeny {
			t.Errorf("a write to what can but be read leaves %v, and tells %d", left, code)
		}
		if left, code := mustDo(t, nil, s, step{1, holdOf(1, addr)}); !sameState(left, s) || code != impl.RspNone {
			t.Errorf("a hold where no store is leaves %v, and tells %d", left.Holds, code)
		}
		if left, code := mustDo(t, nil, s, step{1, writeOf(addr, 7, 3)}); !sameState(left, s) || code != impl.RspNone {
			t.Errorf("a write where no store is leaves %v, and tells %d", left.Holds, code)
		}
	}
}

func TestP24ToHoldAndToTryIsToSwap(t *testing.T) {
	for _, s := range okStates() {
		for _, addr := range edgeAddrs {
			for _, who := range allWho {
				for id := range impl.ReqIds {
					lanes := (addr + who + id) % 4
					got, code := mustDo(t, allOf, s, step{who, holdOf(id, addr)}, step{who, tryOf(id, addr, 52907, lanes)})
					want := slices.Clone(s.Mem.Words)
					want[addr] = putByBytes(want[addr], 52907, lanes)
					if code != impl.RspHeld || !slices.Equal(got.Mem.Words, want) || slices.Contains(got.Holds, addr) {
						t.Fatalf("what %d held at %d by name %d, and tried, tells %d, and leaves %v", who, addr, id, code, got)
					}
				}
			}
		}
	}
}

func TestP24AnotherOneWritesBetween(t *testing.T) {
	writes := asksOf(impl.ReqWrite)
	for _, addr := range edgeAddrs {
		for _, who := range allWho {
			for id := range impl.ReqIds {
				for _, other := range allWho {
					for _, write := range writes {
						behind, _ := mustDo(t, allOf, impl.AtmNew(), step{who, holdOf(id, addr)}, step{other, write})
						got, code := mustDo(t, allOf, behind, step{who, tryOf(id, addr, 9, 3)})
						there := slices.Contains(burstOf(write), addr)
						if there && (code != impl.RspOkay || !sameState(got, behind)) {
							t.Fatalf("behind %v of %d a try of %d at %d tells %d, and leaves %v", write, other, who, addr, code, got)
						}
						if !there && (code != impl.RspHeld || got.Mem.Words[addr] != 9) {
							t.Fatalf("behind %v of %d a try of %d at %d tells %d, and leaves %v", write, other, who, addr, code, got)
						}
					}
				}
			}
		}
	}
}

func TestP24OfTwoWhoHoldTheFirstWhoTriesWrites(t *testing.T) {
	for _, addr := range []int{0, 20, 63} {
		for first := range 6 {
			for second := range 6 {
				if first == second {
					continue
				}
				both, _ := mustDo(t, allOf, impl.AtmNew(), step{first / 2, holdOf(first%2, addr)}, step{second / 2, holdOf(second%2, addr)})
				once, code := mustDo(t, allOf, both, step{first / 2, tryOf(first%2, addr, 7, 3)})
				if code != impl.RspHeld || once.Mem.Words[addr] != 7 {
					t.Errorf("held by %d and %d, the try of the first one tells %d", first, second, code)
				}
				twice, code := mustDo(t, allOf, once, step{second / 2, tryOf(second%2, addr, 8, 3)})
				if code != impl.RspOkay || !sameState(twice, once) {
					t.Errorf("held by %d and %d, the late try of the second one tells %d", first, second, code)
				}
			}
		}
	}
}

// What writes nothing between takes nothing from who holds: who reads, who holds the same, a try that is not held, a write that is denied.
func TestP24WhatDoesNotWriteBetween(t *testing.T) {
	list := []impl.MapRange{{From: 0, To: 31}, {From: 32, To: 40, Slave: 1, Only: true}}
	between := []impl.ReqReq{readOf(20), holdOf(0, 20), holdOf(1, 20), tryOf(0, 20, 5, 3), tryOf(1, 20, 5, 3), writeOf(33, 5, 3), writeOf(60, 5, 3), {Kind: impl.ReqWrite, Addr: 31, Many: 2, Data: []int{1, 1}, Lanes: []int{3, 3}}}
	for _, who := range allWho {
		for id := range impl.ReqIds {
			for _, other := range allWho {
				for _, ask := range between {
					if other == who {
						continue
					}
					got, code := mustDo(t, list, impl.AtmNew(), step{who, holdOf(id, 20)}, step{other, ask}, step{who, tryOf(id, 20, 9, 3)})
					if code != impl.RspHeld || got.Mem.Words[20] != 9 {
						t.Errorf("behind %v of %d a try of %d tells %d", ask, other, who, code)
					}
				}
			}
		}
	}
}

func TestP24ByAnotherNameOrOfAnotherOneItIsNotHeld(t *testing.T) {
	for holder := range 6 {
		for other := range 6 {
			if holder == other {
				continue
			}
			held, _ := mustDo(t, allOf, impl.AtmNew(), step{holder / 2, holdOf(holder%2, 20)})
			if got, code := mustDo(t, allOf, held, step{other / 2, tryOf(other%2, 20, 9, 3)}); code != impl.RspOkay || !sameState(got, held) {
				t.Errorf("held by %d, a try by %d tells %d, and leaves %v", holder, other, code, got)
			}
		}
	}
}

func TestP75WhoHoldsAnotherAddressHoldsThatAlone(t *testing.T) {
	for _, first := range edgeAddrs {
		for _, second := range edgeAddrs {
			if first == second {
				continue
			}
			for _, who := range allWho {
				for id := range impl.ReqIds {
					both, _ := mustDo(t, allOf, impl.AtmNew(), step{who, holdOf(id, first)}, step{who, holdOf(id, second)})
					if got, code := mustDo(t, allOf, both, step{who, tryOf(id, first, 9, 3)}); code != impl.RspOkay || !sameState(got, both) {
						t.Fatalf("behind a hold of %d a try of %d tells %d", second, first, code)
					}
					if _, code := mustDo(t, allOf, both, step{who, tryOf(id, second, 9, 3)}); code != impl.RspHeld {
						t.Fatalf("behind holds of %d and %d a try of the last one tells %d", first, second, code)
					}
					names, _ := mustDo(t, allOf, impl.AtmNew(), step{who, holdOf(id, first)}, step{who, holdOf(1-id, second)})
					if _, code := mustDo(t, allOf, names, step{who, tryOf(id, first, 9, 3)}); code != impl.RspHeld {
						t.Fatalf("behind a hold of %d by the other name a try of %d tells %d", second, first, code)
					}
				}
			}
		}
	}
}

// apart says whether no address is in both.
func apart(a impl.ReqReq, b impl.ReqReq) bool {
	return !slices.ContainsFunc(burstOf(a), func(addr int) bool { return slices.Contains(burstOf(b), addr) })
}

// apartAsks are few enough to go through all pairs of them.
func apartAsks() []impl.ReqReq {
	return slices.DeleteFunc(doAsks(), func(r impl.ReqReq) bool {
		return !slices.Contains([]int{0, 1, 14, 15, 16, 33, 63}, r.Addr) || r.Id != r.Addr%2
	})
}

func TestP26WhatIsApartMayBeDoneInEitherOrder(t *testing.T) {
	asks := apartAsks()
	for _, list := range doMaps() {
		for _, s := range okStates()[1:4] {
			for k, a := range asks {
				for _, b := range asks {
					if !apart(a, b) {
						continue
					}
					one := k % 3
					two := (one + 1 + b.Addr%2) % 3
					first, aFirst := impl.AtmDo(list, s, one, a)
					first, bSecond := impl.AtmDo(list, first, two, b)
					second, bFirst := impl.AtmDo(list, s, two, b)
					second, aSecond := impl.AtmDo(list, second, one, a)
					if aFirst.Code == 0 || !sameState(first, second) || !sameRsp(aFirst, aSecond) || !sameRsp(bFirst, bSecond) {
						t.Fatalf("%v of %d and %v of %d: %v, %v, %v, and the other way round %v, %v, %v", a, one, b, two, first, aFirst, bSecond, second, aSecond, bFirst)
					}
				}
			}
		}
	}
}
