package tests

import (
	"slices"
	"testing"

	"loop.example/crossyard/impl"
)

// spokenRsps are all okRsps, and such with words at edges, also such whose digits, one behind the other, are the same.
func spokenRsps() []impl.RspRsp {
	all := okRsps()
	for _, code := range allCodes {
		for _, data := range [][]int{{1, 1}, {11}, {11, 1}, {1, 11}, {111}, {1, 1, 1}, {0}, {0, 0}, {10}, {1, 0}, {0, 1}, {65535, 1}, {6553, 51}, {9}, {99}, {12, 3, 4, 5}, {1, 23, 4, 5}, {1, 2, 34, 5}, {1, 2, 3, 45}} {
			all = append(all, impl.RspRsp{Code: code, Data: data}, impl.RspRsp{Id: 1, Code: code, Data: data})
		}
		for _, word := range someWords {
			all = append(all, impl.RspRsp{Code: code, Data: []int{word}}, impl.RspRsp{Code: code, Data: []int{3, 4, 5, word}})
		}
	}
	return all
}

func TestRspTextByHand(t *testing.T) {
	for text, r := range map[string]impl.RspRsp{
		"okay":                     {Code: impl.RspOkay},
		"held":                     {Id: 1, Code: impl.RspHeld},
		"deny":                     {Code: impl.RspDeny},
		"none":                     {Id: 1, Code: impl.RspNone, Data: []int{}},
		"okay 0":                   {Code: impl.RspOkay, Data: []int{0}},
		"held 5":                   {Code: impl.RspHeld, Data: []int{5}},
		"deny 1 10":                {Code: impl.RspDeny, Data: []int{1, 10}},
		"none 300 0 7":             {Code: impl.RspNone, Data: []int{300, 0, 7}},
		"okay 65535 0 65534 10000": {Id: 1, Code: impl.RspOkay, Data: []int{65535, 0, 65534, 10000}},
	} {
		if got := impl.RspText(r); got != text {
			t.Errorf("RspText(%v) is %q, not %q", r, got, text)
		}
	}
}

func TestP48WhatDiffersButForNamesHasTextsThatDiffer(t *testing.T) {
	all := spokenRsps()
	for _, a := range all {
		if got := impl.RspText(a); got != cameAsSaid(a) || got == "" {
			t.Fatalf("RspText(%v) is %q, not %q", a, got, cameAsSaid(a))
		}
	}
	for _, a := range all {
		for _, b := range all {
			same := a.Code == b.Code && slices.Equal(a.Data, b.Data)
			if (impl.RspText(a) == impl.RspText(b)) != same {
				t.Fatalf("%v has the text %q, and %v the text %q", a, impl.RspText(a), b, impl.RspText(b))
			}
		}
	}
}

func TestP48EmptyJustOfWhatIsNotOk(t *testing.T) {
	for _, r := range spokenRsps() {
		x := []impl.RspRsp{}
		for _, n := range noNames {
			x = append(x, impl.RspRsp{Id: n, Code: r.Code, Data: r.Data})
		}
		for _, n := range noCodes {
			x = append(x, impl.RspRsp{Id: r.Id, Code: n, Data: r.Data})
		}
		for k := range r.Data {
			for _, n := range noWords {
				data := slices.Clone(r.Data)
				data[k] = n
				x = append(x, impl.RspRsp{Id: r.Id, Code: r.Code, Data: data})
			}
		}
		for many := 5; many < 9; many++ {
			data := append(slices.Clone(r.Data), make([]int, many-len(r.Data))...)
			x = append(x, impl.RspRsp{Id: r.Id, Code: r.Code, Data: data})
		}
		for _, wrong := range x {
			if got := impl.RspText(wrong); got != "" || impl.RspOk(wrong) {
				t.Fatalf("RspText(%v) is %q", wrong, got)
			}
		}
	}
	if got := impl.RspText(impl.RspRsp{}); got != "" {
		t.Fatalf("of nothing RspText is %q", got)
	}
	for id := -2; id < 5; id++ {
		for code := -2; code < 8; code++ {
			for _, data := range [][]int{nil, {}, {0}, {65536}, {-1, 2}, make([]int, 4), make([]int, 5)} {
				r := impl.RspRsp{Id: id, Code: code, Data: data}
				if got := impl.RspText(r); (got != "") != impl.RspOk(r) {
					t.Fatalf("RspText(%v) is %q", r, got)
				}
			}
		}
	}
}
