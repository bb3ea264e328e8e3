package tests

import (
	"math"
	"slices"
	"testing"

	"loop.example/crossyard/impl"
)

func TestConstantsOfAddresses(t *testing.T) {
	if impl.AdrMax != 63 || impl.MapMost != 4 || impl.SlvMany != 3 || impl.SlvNone != 3 {
		t.Fatal("a constant is not that of the table")
	}
}

func TestP14OkRanges(t *testing.T) {
	for _, list := range okMaps() {
		if !impl.MapOk(list) {
			t.Errorf("MapOk(%v) is false", list)
		}
	}
}

func TestP14EachBeginningIsOk(t *testing.T) {
	for _, list := range okMaps() {
		for k := range list {
			if !impl.MapOk(list[:k]) {
				t.Errorf("the first %d of %v are not ok", k, list)
			}
		}
	}
}

func TestP14OneTwiceIsNotOk(t *testing.T) {
	for _, list := range okMaps() {
		for k, r := range list {
			if impl.MapOk(with(list, r)) {
				t.Errorf("%v with place %d twice is ok", list, k)
			}
			if impl.MapOk(slices.Insert(slices.Clone(list), 0, r)) {
				t.Errorf("%v with place %d once more ahead of all is ok", list, k)
			}
		}
	}
}

// One address in common is found wherever both ranges stand, and touching is never taken for it: what is ok has no address in two.
func TestP14NoAddressIsInTwo(t *testing.T) {
	edges := []int{0, 1, 2, 15, 16, 17, 31, 62, 63}
	var all []impl.MapRange
	for _, from := range edges {
		for _, to := range edges {
			if from <= to {
				all = append(all, impl.MapRange{From: from, To: to, Slave: 1})
			}
		}
	}
	far := impl.MapRange{From: 40, To: 41, Slave: 2}
	for _, a := range all {
		for _, b := range all {
			for _, list := range [][]impl.MapRange{{a, b}, {a, far, b}} {
				want := true
				for x := 0; x <= impl.AdrMax; x++ {
					want = want && rangesOf(list, x) <= 1
				}
				if got := impl.MapOk(list); got != want {
					t.Errorf("MapOk(%v) is %v", list, got)
				}
			}
		}
	}
}

func TestP14TouchingAndOneInCommon(t *testing.T) {
	list := []impl.MapRange{{From: 0, To: 15}, {From: 20, To: 31, Slave: 2}}
	cases := []struct {
		more impl.MapRange
		want bool
	}{
		{impl.MapRange{From: 16, To: 19}, true},
		{impl.MapRange{From: 15, To: 16}, false},
		{impl.MapRange{From: 15, To: 15}, false},
		{impl.MapRange{From: 0, To: 0}, false},
		{impl.MapRange{From: 19, To: 20}, false},
		{impl.MapRange{From: 31, To: 32}, false},
		{impl.MapRange{From: 32, To: 63}, true},
		{impl.MapRange{From: 22, To: 25}, false},
		{impl.MapRange{From: 0, To: 63}, false},
	}
	for _, c := range cases {
		if impl.MapOk(with(list, c.more)) != c.want {
			t.Errorf("with %v MapOk is not %v", c.more, c.want)
		}
	}
}

func TestP14OneRangeMoreThanMapMost(t *testing.T) {
	var list []impl.MapRange
	for k := range 8 {
		list = append(list, impl.MapRange{From: 4 * k, To: 4*k + 3, Slave: k % impl.SlvMany})
		if got, want := impl.MapOk(list), len(list) <= impl.MapMost; got != want {
			t.Errorf("MapOk of %d ranges is %v", len(list), got)
		}
	}
}

func TestP14EachSingleRange(t *testing.T) {
	for from := -3; from <= impl.AdrMax+3; from++ {
		for to := -3; to <= impl.AdrMax+3; to++ {
			for slave := -2; slave <= impl.SlvMany+2; slave++ {
				for _, only := range []bool{false, true} {
					r := impl.MapRange{From: from, To: to, Slave: slave, Only: only}
					want := 0 <= from && from <= to && to <= 63 && 0 <= slave && slave <= 2
					if impl.MapOk([]impl.MapRange{r}) != want {
						t.Fatalf("MapOk of %v is not %v", r, want)
					}
				}
			}
		}
	}
}

// A range that is none spoils a list from each of its places, not from its first alone.
func TestP14WrongRangeAtEachPlace(t *testing.T) {
	wrong := []impl.MapRange{
		{From: 61, To: 60},
		{From: 63, To: 62, Slave: 2},
		{From: -1, To: -1},
		{From: 64, To: 64},
		{From: 60, To: 64},
		{From: 60, To: 60, Slave: -1},
		{From: 60, To: 60, Slave: impl.SlvNone},
		{From: math.MinInt, To: math.MinInt},
		{From: math.MaxInt, To: math.MaxInt},
		{From: math.MaxInt, To: math.MinInt},
		{From: 60, To: math.MaxInt},
		{From: 60, To: 60, Slave: math.MinInt},
		{From: 60, To: 60, Slave: math.MaxInt},
	}
	good := []impl.MapRange{{From: 0, To: 3}, {From: 8, To: 9, Slave: 1}, {From: 20, To: 20, Slave: 2}}
	for _, r := range wrong {
		for place := 0; place <= len(good); place++ {
			list := slices.Insert(slices.Clone(good), place, r)
			if impl.MapOk(list) {
				t.Errorf("MapOk(%v) is true", list)
			}
		}
	}
}

func TestP15EachAddressOfEachRange(t *testing.T) {
	for _, list := range okMaps() {
		for a := -2; a <= impl.AdrMax+2; a++ {
			want := impl.SlvNone
			for _, r := range list {
				if inRange(r, a) {
					want = r.Slave
				}
			}
			if got := impl.MapFind(list, a); got != want {
				t.Errorf("MapFind(%v, %d) is %d, not %d", list, a, got, want)
			}
		}
	}
}

func TestP15Edges(t *testing.T) {
	list := []impl.MapRange{{From: 0, To: 15}, {From: 20, To: 31, Slave: 2}, {From: 63, To: 63, Slave: 1, Only: true}}
	cases := [][2]int{{0, 0}, {15, 0}, {16, impl.SlvNone}, {19, impl.SlvNone}, {20, 2}, {31, 2}, {32, impl.SlvNone}, {62, impl.SlvNone}, {63, 1}, {64, impl.SlvNone}, {-1, impl.SlvNone}, {math.MinInt, impl.SlvNone}, {math.MaxInt, impl.SlvNone}}
	for _, c := range cases {
		if got := impl.MapFind(list, c[0]); got != c[1] {
			t.Errorf("MapFind of %d is %d, not %d", c[0], got, c[1])
		}
	}
}

func TestP15NoRanges(t *testing.T) {
	for _, a := range wildInts {
		if impl.MapFind(nil, a) != impl.SlvNone || impl.MapFind([]impl.MapRange{}, a) != impl.SlvNone {
			t.Errorf("%d is of a store where there is no range", a)
		}
	}
}

// MapFind answers of any ranges, ok or not: the first one in which the address is tells its store.
func TestP15RangesThatAreNotOk(t *testing.T) {
	both := []impl.MapRange{{From: 4, To: 9, Slave: 2}, {From: 0, To: 20, Slave: 1}}
	backwards := []impl.MapRange{{From: 9, To: 4, Slave: 2}, {From: 6, To: 6, Slave: 1}}
	five := []impl.MapRange{{From: 0, To: 0}, {From: 1, To: 1}, {From: 2, To: 2}, {From: 3, To: 3}, {From: 4, To: 4, Slave: 1}}
	noStore := []impl.MapRange{{From: 0, To: 3, Slave: 7}, {From: 4, To: 7, Slave: -1}}
	wide := []impl.MapRange{{From: math.MinInt, To: math.MaxInt, Slave: 1}}
	cases := []struct {
		list []impl.MapRange
		addr int
		want int
	}{
		{both, 3, 1}, {both, 4, 2}, {both, 9, 2}, {both, 10, 1}, {both, 21, impl.SlvNone},
		{backwards, 6, 1}, {backwards, 4, impl.SlvNone}, {backwards, 9, impl.SlvNone},
		{five, 4, 1}, {five, 5, impl.SlvNone},
		{noStore, 0, 7}, {noStore, 4, -1}, {noStore, 8, impl.SlvNone},
		{wide, 0, 1}, {wide, 63, 1},
	}
	for _, c := range cases {
		if got := impl.MapFind(c.list, c.addr); got != c.want {
			t.Errorf("MapFind(%v, %d) is %d, not %d", c.list, c.addr, got, c.want)
		}
	}
}

func TestP70WhereARangeIsLeftOut(t *testing.T) {
	for _, list := range okMaps() {
		for k, left := range list {
			rest := without(list, k)
			for a := 0; a <= impl.AdrMax; a++ {
				want := impl.MapFind(list, a)
				if inRange(left, a) {
					if want != left.Slave {
						t.Errorf("MapFind(%v, %d) is %d ahead of it", list, a, want)
					}
					want = impl.SlvNone
				}
				if got := impl.MapFind(rest, a); got != want {
					t.Errorf("%v without place %d: %d is of %d, not %d", list, k, a, got, want)
				}
			}
		}
	}
}

// MapOk and MapFind are given a list with ranges behind its end, which they must neither write nor read.
func TestRangesAreLeftAsTheyAre(t *testing.T) {
	for _, list := range okMaps() {
		room := with(list, impl.MapRange{From: 0, To: 63, Slave: 1})
		room = with(room, impl.MapRange{From: 9, To: -9, Slave: 99, Only: true})
		was := slices.Clone(room)
		given := room[:len(list)]
		if !impl.MapOk(given) {
			t.Errorf("MapOk(%v) looks behind its end", given)
		}
		for _, a := range wildInts {
			if got, want := impl.MapFind(given, a), impl.MapFind(list, a); got != want {
				t.Errorf("MapFind(%v, %d) looks behind its end", given, a)
			}
		}
		if !slices.Equal(room, was) {
			t.Errorf("%v was turned to %v", was, room)
		}
	}
}

func TestRangesThatAreNotOkAreLeftAsTheyAre(t *testing.T) {
	room := []impl.MapRange{{From: 40, To: 50, Slave: 2}, {From: 9, To: 1, Slave: -5}, {From: 0, To: 45, Slave: 1, Only: true}, {}, {From: 7, To: 7, Slave: 9}, {From: 1, To: 2}}
	was := slices.Clone(room)
	for n := range room {
		impl.MapOk(room[:n])
		impl.MapFind(room[:n], 42)
	}
	if !slices.Equal(room, was) {
		t.Errorf("%v was turned to %v", was, room)
	}
}
