package tests

import (
	"math"
	"slices"

	"loop.example/crossyard/impl"
)

// allKinds are all Kinds of what is asked, and allCodes all Codes of what comes of it.
var (
	allKinds = []int{impl.ReqRead, impl.ReqWrite, impl.ReqHold, impl.ReqTry}
	allCodes = []int{impl.RspOkay, impl.RspHeld, impl.RspDeny, impl.RspNone}
)

// noNames, noKinds and noCodes are numbers next to those that there are, and far from them.
var (
	noNames = []int{math.MinInt, -1 << 32, -2, -1, 2, 3, 1 << 32, math.MaxInt}
	noKinds = []int{math.MinInt, -4, -1, 0, 5, 6, 1<<32 | 1, math.MaxInt}
	noCodes = noKinds
)

// hasWords says whether a Kind has words, and their lanes; isOne whether it is of one word.
func hasWords(kind int) bool { return kind == 2 || kind == 4 }
func isOne(kind int) bool    { return kind == 3 || kind == 4 }

// askFor is something that is asked with just the words that its Kind has: with lanes of all sorts, no two words next to each other the same.
func askFor(id int, kind int, addr int, many int, wrap bool) impl.ReqReq {
	r := impl.ReqReq{Id: id, Kind: kind, Addr: addr, Many: many, Wrap: wrap}
	if hasWords(kind) {
		for k := range many {
			r.Data = append(r.Data, (addr*1040+k*21845)%65536)
			r.Lanes = append(r.Lanes, (addr+k)%4)
		}
	}
	return r
}

// okAsks is all that may be asked, of each Kind, name, address and number of words, round about and not.
func okAsks() []impl.ReqReq {
	var all []impl.ReqReq
	for _, kind := range allKinds {
		for _, many := range burstSizes {
			for _, wrap := range []bool{false, true} {
				for addr := 0; addr <= 63; addr++ {
					if isOne(kind) && many != 1 || !goesOn(addr, many, wrap) {
						continue
					}
					all = append(all, askFor(0, kind, addr, many, wrap), askFor(1, kind, addr, many, wrap))
				}
			}
		}
	}
	return all
}

// someAsks are one of each Kind and number of words, of each name, round about and not.
func someAsks() []impl.ReqReq {
	return slices.DeleteFunc(okAsks(), func(r impl.ReqReq) bool { return r.Addr != 14 })
}

// copyAsk is the same with lists of its own.
func copyAsk(r impl.ReqReq) impl.ReqReq {
	r.Data, r.Lanes = slices.Clone(r.Data), slices.Clone(r.Lanes)
	return r
}

// sameAsk takes the empty list and the nil list for the same.
func sameAsk(a impl.ReqReq, b impl.ReqReq) bool {
	return a.Id == b.Id && a.Kind == b.Kind && a.Addr == b.Addr && a.Many == b.Many && a.Wrap == b.Wrap && slices.Equal(a.Data, b.Data) && slices.Equal(a.Lanes, b.Lanes)
}

// asRead is what reads the same burst.
func asRead(r impl.ReqReq) impl.ReqReq {
	return impl.ReqReq{Id: r.Id, Kind: impl.ReqRead, Addr: r.Addr, Many: r.Many, Wrap: r.Wrap}
}

// wrongAsks is what may not be asked: nothing, and what is wrong in one part alone.
func wrongAsks() []impl.ReqReq {
	all := []impl.ReqReq{{}}
	for _, r := range someAsks() {
		for _, id := range noNames {
			x := copyAsk(r)
			x.Id = id
			all = append(all, x)
		}
		for _, kind := range noKinds {
			x := copyAsk(r)
			x.Kind = kind
			all = append(all, x)
		}
		for _, addr := range []int{math.MinInt, -1, 64, math.MaxInt} {
			x := copyAsk(r)
			x.Addr = addr
			all = append(all, x)
		}
		more, longer := copyAsk(r), copyAsk(r)
		more.Data = append(more.Data, 1)
		longer.Lanes = append(longer.Lanes, 1)
		all = append(all, more, longer)
	}
	return all
}

// wrongMaps are ranges that are not ok; in most of them some range has addresses still, so that a store could be told.
func wrongMaps() [][]impl.MapRange {
	return [][]impl.MapRange{
		{{From: 0, To: 64}},
		{{From: -1, To: 63}},
		{{From: 0, To: 63, Slave: 3}},
		{{From: 0, To: 63, Slave: -1}},
		{{From: 0, To: 63}, {From: 63, To: 63}},
		{{From: 0, To: 32}, {From: 32, To: 63, Slave: 1}},
		{{From: 0, To: 31}, {From: 33, To: 32, Slave: 1}},
		{{From: 0, To: 31}, {From: 32, To: 40}, {From: 41, To: 41}, {From: 42, To: 50}, {From: 51, To: 63}},
		{{From: math.MinInt, To: math.MaxInt}},
		{{From: math.MaxInt, To: math.MinInt}},
		{{From: 0, To: 63, Slave: math.MaxInt}},
		{{From: 0, To: 63, Slave: math.MinInt}},
	}
}

// storeOfAll is what the document asks of ReqSlave, of what is all ok, range by range and address by address.
func storeOfAll(list []impl.MapRange, burst []int) int {
	for _, in := range list {
		if !slices.ContainsFunc(burst, func(a int) bool { return !inRange(in, a) }) {
			return in.Slave
		}
	}
	return 3
}
