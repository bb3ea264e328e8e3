package tests

import (
	"slices"
	"testing"

	"loop.example/crossyard/impl"
)

func TestReqTextAndRspTextLeaveWhatTheyAreGiven(t *testing.T) {
	for _, r := range slices.Concat(someAsks(), wrongAsks(), []impl.ReqReq{longestAsk()}) {
		given := roomyAsk(r)
		keepApart(t, "ReqText", []any{given}, func() []any {
			if got := impl.ReqText(given); got != impl.ReqText(r) {
				t.Fatalf("ReqText of %v looks behind an end: %q", r, got)
			}
			return nil
		})
	}
	for _, r := range append(spokenRsps(), impl.RspRsp{}, impl.RspRsp{Code: 5, Data: []int{1}}, impl.RspRsp{Code: 1, Data: make([]int, 5)}) {
		given := r
		given.Data = roomy(r.Data)
		keepApart(t, "RspText", []any{given}, func() []any {
			if got := impl.RspText(given); got != impl.RspText(r) {
				t.Fatalf("RspText of %v looks behind an end: %q", r, got)
			}
			return nil
		})
	}
}

func TestReqParseIsNewMemory(t *testing.T) {
	texts := append(noTexts(), textAsSaid(longestAsk()))
	for _, r := range okAsks() {
		texts = append(texts, textAsSaid(r))
	}
	for _, text := range texts {
		want, may := parseAsSaid(text)
		keepApart(t, "ReqParse", nil, func() []any {
			got, ok := impl.ReqParse(text)
			if ok != may || !sameAsk(got, want) {
				t.Fatalf("ReqParse(%q) is %v and %v", text, got, ok)
			}
			return []any{got}
		})
		for range 2 {
			got, _ := impl.ReqParse(text)
			if !sameAsk(got, want) {
				t.Fatalf("ReqParse(%q) hands out what was written into an answer: %v", text, got)
			}
			spoil(got.Data)
			if !slices.Equal(got.Lanes, want.Lanes) {
				t.Fatalf("of ReqParse(%q) Data and Lanes share memory", text)
			}
			spoil(got.Lanes)
		}
	}
}

// spoilLines writes over all lines of a list, spare room included.
func spoilLines(list []string) {
	list = list[:cap(list)]
	for k := range list {
		list[k] = "spoilt"
	}
}

func TestDskBoardLeavesItsArgumentsAndSharesNothing(t *testing.T) {
	for _, at := range cycMemory() {
		c, s := roomyBus(at.bus), roomyCyc(at.state)
		want := impl.DskBoard(at.bus, at.state)
		keepApart(t, "DskBoard", []any{c, s}, func() []any {
			got := impl.DskBoard(c, s)
			if !slices.Equal(got, want) {
				t.Fatalf("DskBoard looks behind an end: %q", got)
			}
			return []any{got}
		})
		for range 2 {
			got := impl.DskBoard(at.bus, at.state)
			if !slices.Equal(got, want) {
				t.Fatalf("DskBoard hands out what was written into an answer: %q", got)
			}
			spoilLines(got)
		}
	}
}

func TestDskFlowLeavesItsArgumentsAndSharesNothing(t *testing.T) {
	mixed := []string{"x", "0 read 0 1 1", "1 write 0 1 1 7 3", "", "2 hold 1 1 1", "0 read 0 1 1 "}
	all := append(flowLines(), mixed, slices.Repeat(mixed, 10), slices.Repeat(mixed, 11), slices.Repeat([]string{"1 read 0 1 1"}, 14), []string{"x"})
	for _, lines := range all {
		for _, slow := range [][]int{flowSlow(), nil, {}, {0, 0, 0}, {0, 0, 0, 4}, {3, 3, 3, 3}} {
			for _, n := range []int{-1, 0, 1, 20, 300, 301} {
				given, late := roomyList(lines, "0 read 0 1 1", "x"), roomy(slow)
				want := impl.DskFlow(slow, lines, n)
				keepApart(t, "DskFlow", []any{given, late}, func() []any {
					got := impl.DskFlow(late, given, n)
					if !slices.Equal(got, want) {
						t.Fatalf("DskFlow of %q looks behind an end: %q", lines, got)
					}
					return []any{got}
				})
				first := slices.Clone(want)
				for range 2 {
					got := impl.DskFlow(slow, lines, n)
					if !slices.Equal(got, first) {
						t.Fatalf("DskFlow hands out what was written into an answer: %q", got)
					}
					spoilLines(got)
				}
			}
		}
	}
}
