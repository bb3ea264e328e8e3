package tests

import (
	"slices"
	"testing"

	"loop.example/crossyard/impl"
)

func TestConstantsOfWhatIsAsked(t *testing.T) {
	if !slices.Equal(allKinds, []int{1, 2, 3, 4}) || !slices.Equal(allCodes, []int{1, 2, 3, 4}) || impl.ReqIds != 2 {
		t.Fatal("a constant is not that of the table")
	}
}

func TestP20AllThatMayBeAsked(t *testing.T) {
	for _, r := range okAsks() {
		if !impl.ReqOk(r) {
			t.Errorf("%v is not ok", r)
		}
	}
}

func TestP20WhatIsAskedByHand(t *testing.T) {
	cases := []struct {
		r    impl.ReqReq
		want bool
	}{
		{impl.ReqReq{Id: 0, Kind: impl.ReqRead, Addr: 0, Many: 1}, true},
		{impl.ReqReq{Id: 1, Kind: impl.ReqRead, Addr: 63, Many: 4, Wrap: true}, true},
		{impl.ReqReq{Id: 1, Kind: impl.ReqRead, Addr: 61, Many: 4}, false},
		{impl.ReqReq{Id: 0, Kind: impl.ReqRead, Addr: 0, Many: 3}, false},
		{impl.ReqReq{Id: 0, Kind: impl.ReqRead, Addr: 0, Many: 1, Data: []int{}, Lanes: []int{}}, true},
		{impl.ReqReq{Id: 0, Kind: impl.ReqRead, Addr: 0, Many: 1, Data: []int{0}, Lanes: []int{0}}, false},
		{impl.ReqReq{Id: 0, Kind: impl.ReqWrite, Addr: 0, Many: 1, Data: []int{65535}, Lanes: []int{3}}, true},
		{impl.ReqReq{Id: 0, Kind: impl.ReqWrite, Addr: 0, Many: 1, Data: []int{0}, Lanes: []int{0}}, true},
		{impl.ReqReq{Id: 0, Kind: impl.ReqWrite, Addr: 60, Many: 4, Data: []int{0, 1, 2, 65535}, Lanes: []int{0, 1, 2, 3}}, true},
		{impl.ReqReq{Id: 0, Kind: impl.ReqWrite, Addr: 60, Many: 2, Data: []int{0, 1, 2, 65535}, Lanes: []int{0, 1, 2, 3}}, false},
		{impl.ReqReq{Id: 0, Kind: impl.ReqWrite, Addr: 0, Many: 1}, false},
		{impl.ReqReq{Id: 0, Kind: impl.ReqWrite, Addr: 0, Many: 0}, false},
		{impl.ReqReq{Id: 0, Kind: impl.ReqHold, Addr: 63, Many: 1}, true},
		{impl.ReqReq{Id: 0, Kind: impl.ReqHold, Addr: 63, Many: 1, Wrap: true}, true},
		{impl.ReqReq{Id: 0, Kind: impl.ReqHold, Addr: 62, Many: 2}, false},
		{impl.ReqReq{Id: 0, Kind: impl.ReqTry, Addr: 63, Many: 1, Data: []int{7}, Lanes: []int{2}}, true},
		{impl.ReqReq{Id: 0, Kind: impl.ReqTry, Addr: 63, Many: 1, Wrap: true, Data: []int{7}, Lanes: []int{2}}, true},
		{impl.ReqReq{Id: 0, Kind: impl.ReqTry, Addr: 62, Many: 2, Data: []int{7, 7}, Lanes: []int{2, 2}}, false},
		{impl.ReqReq{}, false},
	}
	for _, c := range cases {
		if got := impl.ReqOk(c.r); got != c.want {
			t.Errorf("ReqOk(%v) is %v", c.r, got)
		}
	}
}

func TestP20AnotherNameIsOkToo(t *testing.T) {
	for _, r := range okAsks() {
		for id := range impl.ReqIds {
			r.Id = id
			if !impl.ReqOk(r) {
				t.Errorf("%v is not ok", r)
			}
		}
		for _, id := range noNames {
			r.Id = id
			if impl.ReqOk(r) {
				t.Errorf("%v is ok", r)
			}
		}
	}
}

// Of each number of words and lanes, beside each Kind and Many, just what the Kind needs is ok.
func TestP20JustTheWordsThatAreNeeded(t *testing.T) {
	for kind := -1; kind <= 6; kind++ {
		for many := -1; many <= 9; many++ {
			for words := range 10 {
				for lanes := range 10 {
					r := impl.ReqReq{Kind: kind, Addr: 8, Many: many, Data: make([]int, words), Lanes: make([]int, lanes)}
					want := words == 0 && lanes == 0
					if hasWords(kind) {
						want = words == many && lanes == many
					}
					want = want && slices.Contains(allKinds, kind) && slices.Contains(burstSizes, many) && (many == 1 || !isOne(kind))
					if got := impl.ReqOk(r); got != want {
						t.Fatalf("ReqOk(%v) is %v", r, got)
					}
				}
			}
		}
	}
}

func TestP20ANumberThatIsNoWordOrNoLanes(t *testing.T) {
	for _, r := range okAsks() {
		for k := range r.Data {
			for _, word := range noWords {
				x := copyAsk(r)
				x.Data[k] = word
				if impl.ReqOk(x) {
					t.Fatalf("%v is ok", x)
				}
			}
			for _, lanes := range noLanes {
				x := copyAsk(r)
				x.Lanes[k] = lanes
				if impl.ReqOk(x) {
					t.Fatalf("%v is ok", x)
				}
			}
		}
	}
}

func TestP20EachWordAndAllLanesAreOk(t *testing.T) {
	for _, r := range someAsks() {
		for k := range r.Data {
			for _, word := range someWords {
				for lanes := 0; lanes <= impl.WrdAll; lanes++ {
					x := copyAsk(r)
					x.Data[k], x.Lanes[k] = word, lanes
					if !impl.ReqOk(x) {
						t.Fatalf("%v is not ok", x)
					}
				}
			}
		}
	}
}

func TestP20AnAddressAndWordsThatAreNotOk(t *testing.T) {
	for _, kind := range allKinds {
		for _, addr := range wildInts {
			for _, many := range wildInts {
				for _, wrap := range []bool{false, true} {
					r := impl.ReqReq{Kind: kind, Addr: addr, Many: many, Wrap: wrap}
					if hasWords(kind) {
						r.Data, r.Lanes = make([]int, max(0, min(many, 9))), make([]int, max(0, min(many, 9)))
					}
					want := goesOn(addr, many, wrap) && (many == 1 || !isOne(kind))
					if got := impl.ReqOk(r); got != want {
						t.Fatalf("ReqOk(%v) is %v", r, got)
					}
				}
			}
		}
	}
}

func TestP20NoSuchKind(t *testing.T) {
	for _, r := range someAsks() {
		for _, kind := range noKinds {
			r.Kind = kind
			if impl.ReqOk(r) {
				t.Errorf("%v is ok", r)
			}
		}
	}
}

func TestP20WhatMayNotBeAsked(t *testing.T) {
	for _, r := range wrongAsks() {
		if impl.ReqOk(r) {
			t.Errorf("%v is ok", r)
		}
	}
}

func TestP20TheEmptyListIsTheNilList(t *testing.T) {
	for _, r := range okAsks() {
		if hasWords(r.Kind) {
			continue
		}
		for _, data := range [][]int{nil, {}, make([]int, 0, 4)} {
			for _, lanes := range [][]int{nil, {}, make([]int, 0, 4)} {
				r.Data, r.Lanes = data, lanes
				if !impl.ReqOk(r) {
					t.Fatalf("%v is not ok", r)
				}
			}
		}
	}
}
