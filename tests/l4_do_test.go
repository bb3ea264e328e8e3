package tests

import (
	"slices"
	"testing"

	"loop.example/crossyard/impl"
)

func TestConstantsOfOneThingAtOnce(t *testing.T) {
	if impl.AtmMasters != 3 || impl.PrgMost != 12 {
		t.Fatal("a constant is not that of the table")
	}
}

func TestP1WhatReadsAndHoldsLeavesTheStore(t *testing.T) {
	eachDo(func(list []impl.MapRange, s impl.AtmState, who int, r impl.ReqReq) {
		if hasWords(r.Kind) {
			return
		}
		got, rsp := impl.AtmDo(list, s, who, r)
		if !slices.Equal(got.Mem.Words, s.Mem.Words) {
			t.Fatalf("%v of %d turned the store", r, who)
		}
		var want []int
		if answers(list, r) {
			want = wordsAt(s, r)
		}
		if !slices.Equal(rsp.Data, want) {
			t.Fatalf("%v of %d in %v is told %v, not %v", r, who, list, rsp.Data, want)
		}
	})
}

func TestP1WhatWritesTurnsJustItsAddresses(t *testing.T) {
	eachDo(func(list []impl.MapRange, s impl.AtmState, who int, r impl.ReqReq) {
		if !hasWords(r.Kind) {
			return
		}
		want := slices.Clone(s.Mem.Words)
		if turns(list, s, who, r) {
			for k, a := range burstOf(r) {
				want[a] = putByBytes(want[a], r.Data[k], r.Lanes[k])
			}
		}
		got, rsp := impl.AtmDo(list, s, who, r)
		if !slices.Equal(got.Mem.Words, want) {
			t.Fatalf("%v of %d in %v, with %v held, left %v, not %v", r, who, list, s.Holds, got.Mem.Words, want)
		}
		if len(rsp.Data) != 0 {
			t.Fatalf("%v of %d is told the words %v", r, who, rsp.Data)
		}
	})
}

func TestP1EachAskIsDoneAsTheDocumentSays(t *testing.T) {
	s := impl.AtmState{Mem: impl.MemMem{Words: risingWords()}, Holds: []int{3, 9, 20, 33, 34, 63}}
	for _, list := range append(okMaps(), doMaps()...) {
		for _, r := range okAsks() {
			for _, who := range allWho {
				want, wantRsp := doneAtOnce(list, s, who, r)
				got, rsp := impl.AtmDo(list, s, who, r)
				if !sameState(got, want) || !sameRsp(rsp, wantRsp) {
					t.Fatalf("%v of %d in %v: %v and %v, not %v and %v", r, who, list, got, rsp, want, wantRsp)
				}
			}
		}
	}
}

func TestP1WordsByHand(t *testing.T) {
	list := []impl.MapRange{{From: 0, To: 7, Slave: 1}, {From: 8, To: 15, Slave: 1, Only: true}}
	s := impl.AtmNew()
	for a := range 16 {
		s.Mem.Words[a] = 0x1100 + a
	}
	write := impl.ReqReq{Id: 1, Kind: impl.ReqWrite, Addr: 6, Many: 4, Wrap: true, Data: []int{0xaaa0, 0xaaa1, 0xaaa2, 0xaaa3}, Lanes: []int{0, 1, 2, 3}}
	got, rsp := impl.AtmDo(list, s, 1, write)
	want := slices.Clone(s.Mem.Words)
	want[6], want[7], want[4], want[5] = 0x1106, 0x11a1, 0xaa04, 0xaaa3
	if !slices.Equal(got.Mem.Words, want) || !sameRsp(rsp, impl.RspRsp{Id: 1, Code: impl.RspOkay}) {
		t.Fatalf("%v leaves %x, and tells %v", write, got.Mem.Words, rsp)
	}
	read := impl.ReqReq{Kind: impl.ReqRead, Addr: 5, Many: 4}
	if _, rsp := impl.AtmDo(list, got, 0, read); rsp.Code != impl.RspNone || len(rsp.Data) != 0 {
		t.Fatalf("%v over two ranges tells %v", read, rsp)
	}
	read.Addr = 4
	if _, rsp := impl.AtmDo(list, got, 0, read); rsp.Code != impl.RspOkay || !slices.Equal(rsp.Data, []int{0xaa04, 0xaaa3, 0x1106, 0x11a1}) {
		t.Fatalf("%v tells %x", read, rsp)
	}
}

func TestP23HowItGoesIsTold(t *testing.T) {
	eachDo(func(list []impl.MapRange, s impl.AtmState, who int, r impl.ReqReq) {
		want := impl.RspOkay
		switch {
		case !answers(list, r):
			want = impl.RspNone
		case hasWords(r.Kind) && onlyRead(list, r):
			want = impl.RspDeny
		case r.Kind == impl.ReqHold, r.Kind == impl.ReqTry && s.Holds[who*2+r.Id] == r.Addr:
			want = impl.RspHeld
		}
		_, rsp := impl.AtmDo(list, s, who, r)
		if rsp.Code != want || rsp.Id != r.Id {
			t.Fatalf("%v of %d in %v, with %v held, tells Code %d of name %d, not %d", r, who, list, s.Holds, rsp.Code, rsp.Id, want)
		}
		if !impl.RspOk(rsp) {
			t.Fatalf("%v of %d tells what may not come of something: %v", r, who, rsp)
		}
	})
}

// What can but be read is denied, and what no store answers is of none, whether it is held or not; and it stays held.
func TestP23ATryThatMayNotBe(t *testing.T) {
	for _, addr := range []int{0, 14, 63} {
		for _, who := range allWho {
			for id := range impl.ReqIds {
				for _, held := range []bool{true, false} {
					s := impl.AtmNew()
					if held {
						s.Holds[who*2+id] = addr
					}
					try := tryOf(id, addr, 9, 3)
					got, rsp := impl.AtmDo([]impl.MapRange{{From: 0, To: 63, Only: true}}, s, who, try)
					if rsp.Code != impl.RspDeny || !sameState(got, s) {
						t.Errorf("held %v, %v of %d tells %v, and leaves %v", held, try, who, rsp, got)
					}
					got, rsp = impl.AtmDo(nil, s, who, try)
					if rsp.Code != impl.RspNone || !sameState(got, s) {
						t.Errorf("held %v, where no store answers %v of %d tells %v, and leaves %v", held, try, who, rsp, got)
					}
				}
			}
		}
	}
}

func TestP67WhoReadsBehindAWriteReadsWhatWasWritten(t *testing.T) {
	for _, list := range doMaps() {
		for _, s := range okStates() {
			for k, r := range asksOf(impl.ReqWrite) {
				if !mayWrite(list, r) {
					continue
				}
				var want []int
				for j, old := range wordsAt(s, r) {
					want = append(want, putByBytes(old, r.Data[j], r.Lanes[j]))
				}
				behind, _ := impl.AtmDo(list, s, k%3, r)
				for _, who := range allWho {
					for id := range impl.ReqIds {
						read := asRead(r)
						read.Id = id
						if _, rsp := impl.AtmDo(list, behind, who, read); !slices.Equal(rsp.Data, want) || rsp.Code != impl.RspOkay {
							t.Fatalf("behind %v %v of %d tells %v, not %v", r, read, who, rsp, want)
						}
					}
				}
			}
		}
	}
}

func TestP68ToWriteTwiceIsToWriteOnce(t *testing.T) {
	eachDo(func(list []impl.MapRange, s impl.AtmState, who int, r impl.ReqReq) {
		if isOne(r.Kind) {
			return
		}
		once, first := impl.AtmDo(list, s, who, r)
		twice, second := impl.AtmDo(list, once, who, r)
		if !sameState(once, twice) || !sameRsp(first, second) {
			t.Fatalf("%v of %d once: %v and %v, twice: %v and %v", r, who, once, first, twice, second)
		}
		if r.Kind == impl.ReqRead && !sameState(once, s) {
			t.Fatalf("%v of %d left %v", r, who, once)
		}
	})
}

// byWords is a burst as its words, each asked by itself.
func byWords(r impl.ReqReq) []impl.ReqReq {
	var all []impl.ReqReq
	for k, a := range burstOf(r) {
		one := impl.ReqReq{Id: r.Id, Kind: r.Kind, Addr: a, Many: 1, Wrap: r.Wrap}
		if hasWords(r.Kind) {
			one.Data, one.Lanes = []int{r.Data[k]}, []int{r.Lanes[k]}
		}
		all = append(all, one)
	}
	return all
}

func TestP73ABurstIsItsWords(t *testing.T) {
	eachDo(func(list []impl.MapRange, s impl.AtmState, who int, r impl.ReqReq) {
		if isOne(r.Kind) || !answers(list, r) || r.Kind == impl.ReqWrite && !mayWrite(list, r) {
			return
		}
		whole, rsp := impl.AtmDo(list, s, who, r)
		parts, words := s, []int{}
		for _, one := range byWords(r) {
			var told impl.RspRsp
			parts, told = impl.AtmDo(list, parts, who, one)
			words = append(words, told.Data...)
			if told.Code != rsp.Code {
				t.Fatalf("%v tells %v, and %v of it %v", r, rsp, one, told)
			}
		}
		if !sameState(whole, parts) || !slices.Equal(rsp.Data, words) {
			t.Fatalf("%v of %d leaves %v, and tells %v; its words leave %v, and tell %v", r, who, whole, rsp, parts, words)
		}
	})
}

func TestP74WhoReadsOrWritesMakesNoDifference(t *testing.T) {
	for _, list := range doMaps() {
		for _, s := range okStates() {
			for _, r := range asksOf(impl.ReqRead, impl.ReqWrite) {
				want, wantRsp := impl.AtmDo(list, s, 0, r)
				if wantRsp.Code == 0 {
					t.Fatalf("nothing comes of %v", r)
				}
				for _, who := range allWho {
					for id := range impl.ReqIds {
						other := copyAsk(r)
						other.Id, wantRsp.Id = id, id
						if got, rsp := impl.AtmDo(list, s, who, other); !sameState(got, want) || !sameRsp(rsp, wantRsp) {
							t.Fatalf("%v of %d leaves %v, and tells %v; of 0 by name %d %v and %v", other, who, got, rsp, r.Id, want, wantRsp)
						}
					}
				}
			}
		}
	}
}

func TestP76RoundAboutWordsComeRoundAbout(t *testing.T) {
	for _, list := range doMaps() {
		for _, s := range okStates() {
			for _, many := range burstSizes {
				for addr := range 64 {
					begin := addr - addr%many
					row := impl.ReqReq{Kind: impl.ReqRead, Addr: begin, Many: many}
					round := impl.ReqReq{Kind: impl.ReqRead, Addr: addr, Many: many, Wrap: true}
					_, from := impl.AtmDo(list, s, 1, row)
					_, rsp := impl.AtmDo(list, s, 1, round)
					want := slices.Clone(from.Data)
					if len(want) > 0 {
						want = append(want[addr-begin:], from.Data[:addr-begin]...)
					}
					if len(want) > 0 != answers(list, round) || rsp.Code != from.Code || !slices.Equal(rsp.Data, want) {
						t.Fatalf("%v tells %v, and %v tells %v", row, from, round, rsp)
					}
				}
			}
		}
	}
}
