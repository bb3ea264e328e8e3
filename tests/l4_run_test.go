package tests

import (
	"slices"
	"testing"

	"loop.example/crossyard/impl"
)

// walk is so many of doAsks, told by a rule, so that each run of the tests has the same; every third one is of an address that was asked shortly ahead of it.
func walk(seed int, many int) []impl.ReqReq {
	asks := doAsks()
	holds := asksOf(impl.ReqHold, impl.ReqTry)
	var all []impl.ReqReq
	n := seed*7919 + 13
	for k := range many {
		n = (n*1103515245 + 12345) % (1 << 31)
		r := asks[n>>8%len(asks)]
		if k%3 != 0 {
			r = holds[n>>8%len(holds)]
			r.Addr = all[k-k%3].Addr
		}
		all = append(all, copyAsk(r))
	}
	return all
}

// doEach is AtmDo one behind the other.
func doEach(list []impl.MapRange, s impl.AtmState, who int, all []impl.ReqReq) (impl.AtmState, []impl.RspRsp) {
	var told []impl.RspRsp
	for _, r := range all {
		var rsp impl.RspRsp
		s, rsp = impl.AtmDo(list, s, who, r)
		told = append(told, rsp)
	}
	return s, told
}

func TestP25ByOneItIsAtmDo(t *testing.T) {
	eachDo(func(list []impl.MapRange, s impl.AtmState, who int, r impl.ReqReq) {
		want, rsp := impl.AtmDo(list, s, who, r)
		got, all := impl.AtmRun(list, s, who, []impl.ReqReq{r})
		if !sameState(got, want) || len(all) != 1 || !sameRsp(all[0], rsp) || rsp.Code == 0 {
			t.Fatalf("AtmRun of %v by %d is %v and %v; AtmDo %v and %v", r, who, got, all, want, rsp)
		}
	})
}

func TestP25OneBehindTheOther(t *testing.T) {
	for _, list := range doMaps() {
		for seed := range 60 {
			s := okStates()[seed%len(okStates())]
			all := walk(seed, seed%13)
			who := seed % 3
			got, told := impl.AtmRun(list, s, who, all)
			want, wantTold := doEach(list, s, who, all)
			if !impl.AtmOk(got) || !sameState(got, want) || !sameRsps(told, wantTold) {
				t.Fatalf("AtmRun of %v by %d is %v and %v, not %v and %v", all, who, got, told, want, wantTold)
			}
		}
	}
}

func TestP25OneListAndThenTheOther(t *testing.T) {
	for _, list := range doMaps() {
		for seed := range 40 {
			s := okStates()[seed%len(okStates())]
			all := walk(seed, impl.PrgMost)
			who := seed % 3
			want, wantTold := impl.AtmRun(list, s, who, all)
			if len(wantTold) != impl.PrgMost {
				t.Fatalf("of %d things %d are told", impl.PrgMost, len(wantTold))
			}
			for cut := range len(all) + 1 {
				first, told := impl.AtmRun(list, s, who, all[:cut])
				second, more := impl.AtmRun(list, first, who, all[cut:])
				if !sameState(second, want) || !sameRsps(slices.Concat(told, more), wantTold) {
					t.Fatalf("%v by %d, cut at %d, is %v and %v, %v, not %v and %v", all, who, cut, second, told, more, want, wantTold)
				}
			}
		}
	}
}

// What the walks ask must come to each Code, and write: else they would show nothing.
func TestP25WalksComeToAll(t *testing.T) {
	codes := map[int]int{}
	tries := map[int]int{}
	for seed := range 40 {
		all := walk(seed, impl.PrgMost)
		_, told := impl.AtmRun(doMaps()[0], okStates()[seed%len(okStates())], seed%3, all)
		for k, rsp := range told {
			codes[rsp.Code]++
			if all[k].Kind == impl.ReqTry {
				tries[rsp.Code]++
			}
		}
	}
	if len(codes) != 4 || len(tries) != 4 {
		t.Fatalf("of all walks these Codes come: %v, of tries %v", codes, tries)
	}
}

func TestP25OfNothing(t *testing.T) {
	for _, list := range doMaps() {
		for _, s := range okStates() {
			for _, who := range allWho {
				for _, all := range [][]impl.ReqReq{nil, {}, make([]impl.ReqReq, 0, 3)} {
					if got, told := impl.AtmRun(list, s, who, all); !sameState(got, s) || len(told) != 0 {
						t.Fatalf("AtmRun of nothing is %v and %v", got, told)
					}
				}
			}
		}
	}
}

func TestP25OfNothingWhereSomethingIsNotOk(t *testing.T) {
	none := func(list []impl.MapRange, s impl.AtmState, who int) {
		t.Helper()
		if got, told := impl.AtmRun(list, s, who, nil); !sameState(got, impl.AtmState{}) || len(told) != 0 {
			t.Errorf("AtmRun of nothing by %d, in %v, is %v and %v", who, list, got, told)
		}
	}
	for _, list := range wrongMaps() {
		none(list, impl.AtmNew(), 0)
	}
	for _, s := range wrongStates() {
		none(allOf, s, 0)
	}
	for _, who := range noWho {
		none(allOf, impl.AtmNew(), who)
	}
}

func TestP25AsManyAsMayBe(t *testing.T) {
	for size := range 40 {
		var all []impl.ReqReq
		for range size {
			all = append(all, readOf(3))
		}
		got, told := impl.AtmRun(allOf, impl.AtmNew(), 2, all)
		if size <= 12 && (!impl.AtmOk(got) || len(told) != size) {
			t.Errorf("of %d things %v is told", size, told)
		}
		if size > 12 && (!sameState(got, impl.AtmState{}) || len(told) != 0) {
			t.Errorf("of %d things %v is told", size, told)
		}
	}
}

// One that is not ok, wherever it stands, leaves nothing of what is done ahead of it.
func TestP25OneThatIsNotOk(t *testing.T) {
	wrongs, s := wrongAsks(), okStates()[2]
	for _, size := range []int{1, 2, 7, 12} {
		right := walk(size, size)
		for place := range size {
			for _, wrong := range wrongs {
				all := slices.Clone(right)
				all[place] = wrong
				if got, told := impl.AtmRun(allOf, s, 1, all); !sameState(got, impl.AtmState{}) || len(told) != 0 {
					t.Fatalf("with %v at %d of %d AtmRun is %v and %v", wrong, place, size, got, told)
				}
			}
		}
	}
}

func TestP25RangesStateAndWhoThatAreNotOk(t *testing.T) {
	all := walk(3, impl.PrgMost)
	none := func(list []impl.MapRange, s impl.AtmState, who int) {
		t.Helper()
		if got, told := impl.AtmRun(list, s, who, all); !sameState(got, impl.AtmState{}) || len(told) != 0 {
			t.Errorf("AtmRun by %d, in %v, is %v and %v", who, list, got, told)
		}
	}
	for _, list := range wrongMaps() {
		none(list, impl.AtmNew(), 0)
	}
	for _, s := range wrongStates() {
		none(allOf, s, 0)
	}
	for _, who := range noWho {
		none(allOf, impl.AtmNew(), who)
	}
}
