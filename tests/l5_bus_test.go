package tests

import (
	"math"
	"slices"
	"testing"

	"loop.example/crossyard/impl"
)

// noSlow are numbers next to how slow a store may be, and far from it.
var noSlow = []int{math.MinInt, -1 << 32, -2, -1, 4, 5, 1 << 32, math.MaxInt}

func TestConstantsOfWhatHappens(t *testing.T) {
	if impl.SlvSlow != 3 || impl.TlmAsk != 1 || impl.TlmDo != 2 || impl.TlmTell != 3 || impl.TlmMost != 200 {
		t.Fatal("a constant is not that of the table")
	}
}

func TestP27ABusWithLessAskedIsABus(t *testing.T) {
	for _, c := range okBuses() {
		if !impl.BusOk(c) {
			t.Fatalf("%v is not ok", c)
		}
		for range 12 {
			for who, prog := range c.Progs {
				c = copyBus(c)
				c.Progs[who] = c.Progs[who][:max(0, len(prog)-1)]
				if !impl.BusOk(c) {
					t.Fatalf("with less asked by %d %v is not ok", who, c)
				}
			}
		}
	}
}

func TestP27HowSlowAStoreMayBe(t *testing.T) {
	for _, c := range okBuses() {
		for place := range 4 {
			for slow := range 4 {
				x := copyBus(c)
				x.Lat[place] = slow
				if !impl.BusOk(x) {
					t.Errorf("with store %d of %d it is not ok", place, slow)
				}
			}
			for _, slow := range noSlow {
				x := copyBus(c)
				x.Lat[place] = slow
				if impl.BusOk(x) {
					t.Errorf("with store %d of %d it is ok", place, slow)
				}
			}
		}
		for size := range 12 {
			x := copyBus(c)
			x.Lat = make([]int, size)
			if impl.BusOk(x) != (size == 4) {
				t.Errorf("with %d numbers of how slow stores are it is ok: %v", size, size != 4)
			}
		}
	}
}

func TestP27HowManyAskAndHowMuch(t *testing.T) {
	for many := range 8 {
		for size := range 16 {
			c := busOf(doMaps()[0])
			for range many {
				c.Progs = append(c.Progs, slices.Repeat([]impl.ReqReq{readOf(3)}, size))
			}
			if got := impl.BusOk(c); got != (many == 3 && size <= 12) {
				t.Errorf("where %d ask %d things each it is ok: %v", many, size, got)
			}
		}
	}
	for who := range 3 {
		for _, size := range []int{0, 12, 13, 40} {
			c := busOf(doMaps()[0], nil, nil, nil)
			c.Progs[who] = slices.Repeat([]impl.ReqReq{readOf(3)}, size)
			if got := impl.BusOk(c); got != (size <= 12) {
				t.Errorf("where %d asks %d things it is ok: %v", who, size, got)
			}
		}
	}
}

func TestP27EachAskAndEachRangeMayBeOfABus(t *testing.T) {
	for _, list := range append(okMaps(), doMaps()...) {
		if !impl.BusOk(busOf(list, []impl.ReqReq{readOf(1)}, nil, nil)) {
			t.Errorf("a bus of %v is not ok", list)
		}
	}
	for _, r := range okAsks() {
		if !impl.BusOk(busOf(nil, nil, []impl.ReqReq{r}, nil)) {
			t.Errorf("a bus on which %v is asked is not ok", r)
		}
	}
}

func TestP27WhatIsWrongInOnePartIsNoBus(t *testing.T) {
	for _, c := range wrongBuses() {
		if impl.BusOk(c) {
			t.Errorf("%v is ok", c)
		}
	}
}

// Each of what may not be asked is wrong at the beginning, in the middle and at the end of what each asks.
func TestP27OneThingThatIsNotOk(t *testing.T) {
	right := greatBuses()[1]
	for _, wrong := range wrongAsks() {
		for who := range 3 {
			for _, n := range []int{0, 5, 11} {
				c := copyBus(right)
				c.Progs[who][n] = wrong
				if impl.BusOk(c) {
					t.Fatalf("with %v as the %d. thing that %d asks it is ok", wrong, n, who)
				}
			}
		}
	}
}

// wrongBuses are wrong in one part alone. Each of them has what the first of greatBuses asks, as far as it is right.
func wrongBuses() []impl.BusCfg {
	all := []impl.BusCfg{{}, {Map: doMaps()[0]}}
	right := greatBuses()[0]
	change := func(turn func(c *impl.BusCfg)) {
		c := copyBus(right)
		turn(&c)
		all = append(all, c)
	}
	for _, list := range wrongMaps() {
		change(func(c *impl.BusCfg) { c.Map = list })
	}
	change(func(c *impl.BusCfg) { c.Lat = nil })
	change(func(c *impl.BusCfg) { c.Lat = []int{} })
	change(func(c *impl.BusCfg) { c.Lat = c.Lat[:3] })
	change(func(c *impl.BusCfg) { c.Lat = append(c.Lat, 0) })
	for place := range 4 {
		for _, slow := range noSlow {
			change(func(c *impl.BusCfg) { c.Lat[place] = slow })
		}
	}
	change(func(c *impl.BusCfg) { c.Progs = nil })
	change(func(c *impl.BusCfg) { c.Progs = c.Progs[:2] })
	change(func(c *impl.BusCfg) { c.Progs = append(c.Progs, nil) })
	change(func(c *impl.BusCfg) { c.Progs = append(c.Progs, c.Progs[0]) })
	for who := range 3 {
		change(func(c *impl.BusCfg) { c.Progs[who] = append(c.Progs[who], readOf(1)) })
		for _, n := range []int{0, 6, 11} {
			change(func(c *impl.BusCfg) { c.Progs[who][n] = impl.ReqReq{} })
			change(func(c *impl.BusCfg) { c.Progs[who][n].Id = 2 })
			change(func(c *impl.BusCfg) { c.Progs[who][n].Kind = 5 })
			change(func(c *impl.BusCfg) { c.Progs[who][n].Addr = 64 })
		}
	}
	return all
}
