package tests

import (
	"slices"
	"testing"

	"loop.example/crossyard/impl"
)

// share says whether to write into one list, spare room included, turns another one.
func share(a []int, b []int) bool {
	a, b = a[:cap(a)], b[:cap(b)]
	wasA, wasB := slices.Clone(a), slices.Clone(b)
	for k := range a {
		a[k] = ^a[k]
	}
	met := !slices.Equal(b, wasB)
	copy(a, wasA)
	return met
}

// someShare says whether any two of some lists share memory.
func someShare(lists [][]int) bool {
	for k, a := range lists {
		for _, b := range lists[:k] {
			if share(a, b) {
				return true
			}
		}
	}
	return false
}

// listsOf are all lists of words of a state, what came of some, and what is asked.
func listsOf(s impl.AtmState, told []impl.RspRsp, asks []impl.ReqReq) [][]int {
	all := [][]int{s.Mem.Words, s.Holds}
	for _, rsp := range told[:cap(told)] {
		all = append(all, rsp.Data)
	}
	for _, r := range asks {
		all = append(all, r.Data, r.Lanes)
	}
	return all
}

// roomyState, roomyAsk and roomy are the same with numbers behind the ends of their lists.
func roomyState(s impl.AtmState) impl.AtmState {
	return impl.AtmState{Mem: impl.MemMem{Words: roomy(s.Mem.Words)}, Holds: roomy(s.Holds)}
}

func roomyAsk(r impl.ReqReq) impl.ReqReq {
	r.Data, r.Lanes = roomy(r.Data), roomy(r.Lanes)
	return r
}

func roomy(list []int) []int {
	return append(slices.Clone(list), -5, 70000, 1)[:len(list)]
}

// whole is a copy of lists, each with what is behind its end.
func whole(lists [][]int) [][]int {
	var all [][]int
	for _, list := range lists {
		all = append(all, slices.Clone(list[:cap(list)]))
	}
	return all
}

func sameLists(a [][]int, b [][]int) bool {
	return slices.EqualFunc(a, b, func(x []int, y []int) bool { return slices.Equal(x, y) })
}

func TestAtmDoLeavesItsArgumentsAndSharesNothing(t *testing.T) {
	codes := map[int]int{}
	for _, list := range append(doMaps(), wrongMaps()[0]) {
		ranges := with(list, impl.MapRange{From: 1, To: 2, Slave: 1})
		wasRanges := slices.Clone(ranges)
		for k, s := range append(okStates(), wrongStates()[3:9]...) {
			for _, r := range append(someAsks(), wrongAsks()[:6]...) {
				given, ask := roomyState(s), roomyAsk(r)
				args := listsOf(given, nil, []impl.ReqReq{ask})
				was := whole(args)
				one, rsp := impl.AtmDo(ranges[:len(list)], given, k%3, ask)
				two, again := impl.AtmDo(ranges[:len(list)], given, k%3, ask)
				codes[rsp.Code]++
				if !sameLists(whole(args), was) || !slices.Equal(ranges, wasRanges) {
					t.Fatalf("AtmDo of %v turned its arguments", r)
				}
				if !sameState(one, two) || !sameRsp(rsp, again) {
					t.Fatalf("AtmDo of %v is %v and %v, and then %v and %v", r, one, rsp, two, again)
				}
				answers := slices.Concat(listsOf(one, []impl.RspRsp{rsp}, nil), listsOf(two, []impl.RspRsp{again}, nil))
				if someShare(slices.Concat(args, answers)) {
					t.Fatalf("AtmDo of %v: two lists share memory", r)
				}
			}
		}
	}
	if len(codes) != 5 {
		t.Fatalf("not each Code, and nothing, was looked at: %v", codes)
	}
}

// What was written into an answer must not come back in the next one.
func TestAtmDoHandsOutNothingThatWasSpoilt(t *testing.T) {
	for _, list := range doMaps() {
		for _, r := range someAsks() {
			want, wantRsp := doneAtOnce(list, okStates()[1], 1, r)
			for range 2 {
				got, rsp := impl.AtmDo(list, okStates()[1], 1, r)
				if !sameState(got, want) || !sameRsp(rsp, wantRsp) {
					t.Fatalf("AtmDo of %v is %v and %v, not %v and %v", r, got, rsp, want, wantRsp)
				}
				spoil(got.Mem.Words)
				spoil(got.Holds)
				spoil(rsp.Data)
			}
		}
	}
}

func TestAtmRunLeavesItsArgumentsAndSharesNothing(t *testing.T) {
	for _, list := range append(doMaps(), wrongMaps()[0]) {
		ranges := with(list, impl.MapRange{From: 1, To: 2, Slave: 1})
		wasRanges := slices.Clone(ranges)
		for seed := range 28 {
			given := roomyState(okStates()[seed%len(okStates())])
			var asks []impl.ReqReq
			for _, r := range append(walk(seed, seed%14), impl.ReqReq{Id: -9}, readOf(1)) {
				asks = append(asks, roomyAsk(r))
			}
			wasAsks := slices.Clone(asks)
			args := listsOf(given, nil, asks)
			was := whole(args)
			one, told := impl.AtmRun(ranges[:len(list)], given, seed%3, asks[:len(asks)-2])
			two, again := impl.AtmRun(ranges[:len(list)], given, seed%3, asks[:len(asks)-2])
			if !sameLists(whole(args), was) || !slices.Equal(ranges, wasRanges) || !slices.EqualFunc(asks, wasAsks, sameAsk) {
				t.Fatalf("AtmRun of %v turned its arguments", asks)
			}
			if !sameState(one, two) || !sameRsps(told, again) {
				t.Fatalf("AtmRun of %v is %v and %v, and then %v and %v", asks, one, told, two, again)
			}
			if someShare(slices.Concat(args, listsOf(one, told, nil), listsOf(two, again, nil))) {
				t.Fatalf("AtmRun of %v: two lists share memory", asks)
			}
			if shareRsps(told, again) {
				t.Fatalf("AtmRun of %v: what came of all shares memory with what came of all once more", asks)
			}
		}
	}
}

// shareRsps says whether to write into one list of what came, spare room included, turns another one.
func shareRsps(a []impl.RspRsp, b []impl.RspRsp) bool {
	a, b = a[:cap(a)], b[:cap(b)]
	was := slices.Clone(b)
	for k := range a {
		a[k] = impl.RspRsp{Id: -77, Code: -77}
	}
	return !sameRsps(b, was)
}

func TestAtmNewIsNewMemory(t *testing.T) {
	one, two := impl.AtmNew(), impl.AtmNew()
	if someShare(slices.Concat(listsOf(one, nil, nil), listsOf(two, nil, nil))) {
		t.Fatal("two answers of AtmNew share memory")
	}
	spoil(one.Mem.Words)
	spoil(one.Holds)
	if three := impl.AtmNew(); !sameState(three, two) || !impl.AtmOk(three) {
		t.Fatalf("AtmNew hands out what was written into an answer: %v", three)
	}
}

func TestAtmOkLeavesWhatItIsGiven(t *testing.T) {
	for _, s := range append(okStates(), wrongStates()...) {
		given := roomyState(s)
		lists := listsOf(given, nil, nil)
		was := whole(lists)
		if impl.AtmOk(given) != impl.AtmOk(s) || !sameLists(whole(lists), was) {
			t.Fatalf("AtmOk looks behind an end, or writes: %v", s)
		}
	}
}
