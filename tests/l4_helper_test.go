package tests

import (
	"math"
	"slices"

	"loop.example/crossyard/impl"
)

// allWho are all who ask, and noWho numbers next to these, and far from them.
var (
	allWho = []int{0, 1, 2}
	noWho  = []int{math.MinInt, -1 << 32, -2, -1, 3, 4, 1 << 32, math.MaxInt}
)

// noHolds are numbers next to what may be held, and far from it.
var noHolds = []int{math.MinInt, -1 << 32, -65, -64, -3, -2, 64, 65, 127, 1 << 32, math.MaxInt}

// edgeAddrs are both ends of all addresses, and those next to the ends of ranges of doMaps.
var edgeAddrs = []int{0, 1, 2, 3, 13, 14, 15, 16, 17, 31, 32, 33, 46, 47, 48, 60, 61, 62, 63}

// doMaps are ranges with addresses that may be written, that can but be read, and that are in none; each of the ends of all addresses is of each of these in one of them.
func doMaps() [][]impl.MapRange {
	return [][]impl.MapRange{
		{{From: 0, To: 15, Slave: 0}, {From: 16, To: 31, Slave: 1, Only: true}, {From: 32, To: 47, Slave: 2}},
		{{From: 48, To: 63, Slave: 0}, {From: 2, To: 15, Slave: 0, Only: true}, {From: 16, To: 17, Slave: 0}, {From: 0, To: 1, Slave: 2, Only: true}},
		{{From: 0, To: 63, Slave: 1}},
		{{From: 0, To: 63, Slave: 2, Only: true}},
		{},
	}
}

// okHolds is what may be held: nothing, by all the same, by each another one, at both ends, by one alone.
func okHolds() [][]int {
	return [][]int{
		{-1, -1, -1, -1, -1, -1},
		{14, 14, 14, 14, 14, 14},
		{0, 1, 14, 15, 62, 63},
		{63, -1, 0, 33, -1, 14},
		{-1, 15, 15, -1, 16, 0},
		{-1, -1, -1, -1, -1, 14},
		{14, -1, -1, -1, -1, -1},
	}
}

// okStates are a store of words that all differ, with each of okHolds, and one of the greatest words.
func okStates() []impl.AtmState {
	var all []impl.AtmState
	for _, holds := range okHolds() {
		all = append(all, impl.AtmState{Mem: impl.MemMem{Words: risingWords()}, Holds: holds})
	}
	full := okStores()[1]
	return append(all, impl.AtmState{Mem: full, Holds: []int{0, 14, 16, 33, 48, 63}})
}

func risingWords() []int {
	words := make([]int, 64)
	for a := range words {
		words[a] = 4660 + a*771
	}
	return words
}

// doAsks is what is asked at the edges: of each Kind, name and number of words, round about and not.
func doAsks() []impl.ReqReq {
	return slices.DeleteFunc(okAsks(), func(r impl.ReqReq) bool { return !slices.Contains(edgeAddrs, r.Addr) })
}

func asksOf(kinds ...int) []impl.ReqReq {
	return slices.DeleteFunc(doAsks(), func(r impl.ReqReq) bool { return !slices.Contains(kinds, r.Kind) })
}

func readOf(addr int) impl.ReqReq {
	return impl.ReqReq{Kind: impl.ReqRead, Addr: addr, Many: 1}
}

func writeOf(addr int, word int, lanes int) impl.ReqReq {
	return impl.ReqReq{Kind: impl.ReqWrite, Addr: addr, Many: 1, Data: []int{word}, Lanes: []int{lanes}}
}

func holdOf(id int, addr int) impl.ReqReq {
	return impl.ReqReq{Id: id, Kind: impl.ReqHold, Addr: addr, Many: 1}
}

func tryOf(id int, addr int, word int, lanes int) impl.ReqReq {
	return impl.ReqReq{Id: id, Kind: impl.ReqTry, Addr: addr, Many: 1, Data: []int{word}, Lanes: []int{lanes}}
}

// burstOf is the addresses of what is asked, said without the program.
func burstOf(r impl.ReqReq) []int {
	var all []int
	for k := range r.Many {
		if r.Wrap {
			all = append(all, r.Addr/r.Many*r.Many+(r.Addr+k)%r.Many)
		} else {
			all = append(all, r.Addr+k)
		}
	}
	return all
}

// answers says whether a store answers what is asked, and onlyRead whether its range can but be read.
func answers(list []impl.MapRange, r impl.ReqReq) bool {
	return storeOfAll(list, burstOf(r)) != 3
}

func onlyRead(list []impl.MapRange, r impl.ReqReq) bool {
	for _, in := range list {
		if inRange(in, r.Addr) {
			return in.Only
		}
	}
	return false
}

// mayWrite says whether a store answers, and may be written.
func mayWrite(list []impl.MapRange, r impl.ReqReq) bool {
	return answers(list, r) && !onlyRead(list, r)
}

// turns says whether what is asked writes.
func turns(list []impl.MapRange, s impl.AtmState, who int, r impl.ReqReq) bool {
	return mayWrite(list, r) && (r.Kind == impl.ReqWrite || r.Kind == impl.ReqTry && s.Holds[who*2+r.Id] == r.Addr)
}

// wordsAt is the words of a store at the addresses of what is asked.
func wordsAt(s impl.AtmState, r impl.ReqReq) []int {
	var all []int
	for _, a := range burstOf(r) {
		all = append(all, s.Mem.Words[a])
	}
	return all
}

// doneAtOnce is what the document asks of AtmDo, of what is all ok, said without the program.
func doneAtOnce(list []impl.MapRange, s impl.AtmState, who int, r impl.ReqReq) (impl.AtmState, impl.RspRsp) {
	s = copyState(s)
	rsp := impl.RspRsp{Id: r.Id, Code: impl.RspOkay}
	writes := turns(list, s, who, r)
	switch {
	case !answers(list, r):
		rsp.Code = impl.RspNone
	case hasWords(r.Kind) && onlyRead(list, r):
		rsp.Code = impl.RspDeny
	case r.Kind == impl.ReqRead:
		rsp.Data = wordsAt(s, r)
	case r.Kind == impl.ReqHold:
		rsp.Code, rsp.Data = impl.RspHeld, wordsAt(s, r)
		s.Holds[who*2+r.Id] = r.Addr
	case r.Kind == impl.ReqTry && writes:
		rsp.Code = impl.RspHeld
	}
	if writes {
		writeAll(s, r)
	}
	return s, rsp
}

func writeAll(s impl.AtmState, r impl.ReqReq) {
	for k, a := range burstOf(r) {
		s.Mem.Words[a] = putByBytes(s.Mem.Words[a], r.Data[k], r.Lanes[k])
		for place, held := range s.Holds {
			if held == a {
				s.Holds[place] = -1
			}
		}
	}
}

func copyState(s impl.AtmState) impl.AtmState {
	return impl.AtmState{Mem: impl.MemMem{Words: slices.Clone(s.Mem.Words)}, Holds: slices.Clone(s.Holds)}
}

// sameState, sameRsp and sameRsps take the empty list and the nil list for the same.
func sameState(a impl.AtmState, b impl.AtmState) bool {
	return slices.Equal(a.Mem.Words, b.Mem.Words) && slices.Equal(a.Holds, b.Holds)
}

func sameRsp(a impl.RspRsp, b impl.RspRsp) bool {
	return a.Id == b.Id && a.Code == b.Code && slices.Equal(a.Data, b.Data)
}

func sameRsps(a []impl.RspRsp, b []impl.RspRsp) bool {
	return slices.EqualFunc(a, b, sameRsp)
}

// eachDo goes through all of doMaps, okStates, who asks, and doAsks.
func eachDo(look func(list []impl.MapRange, s impl.AtmState, who int, r impl.ReqReq)) {
	asks := doAsks()
	for _, list := range doMaps() {
		for _, s := range okStates() {
			for _, who := range allWho {
				for _, r := range asks {
					look(list, s, who, r)
				}
			}
		}
	}
}
