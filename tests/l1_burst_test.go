package tests

import (
	"math"
	"slices"
	"testing"

	"loop.example/crossyard/impl"
)

// goesOn is what the document asks of AdrOk, said word by word.
func goesOn(addr int, many int, wrap bool) bool {
	if addr < 0 || addr > 63 || !slices.Contains(burstSizes, many) {
		return false
	}
	return wrap || addr+many-1 <= 63
}

func TestAdrOkNearAndFar(t *testing.T) {
	for addr := -70; addr <= 140; addr++ {
		for many := -70; many <= 140; many++ {
			for _, wrap := range []bool{false, true} {
				if got := impl.AdrOk(addr, many, wrap); got != goesOn(addr, many, wrap) {
					t.Fatalf("AdrOk(%d, %d, %v) is %v", addr, many, wrap, got)
				}
			}
		}
	}
	for _, addr := range wildInts {
		for _, many := range wildInts {
			for _, wrap := range []bool{false, true} {
				if got := impl.AdrOk(addr, many, wrap); got != goesOn(addr, many, wrap) {
					t.Fatalf("AdrOk(%d, %d, %v) is %v", addr, many, wrap, got)
				}
			}
		}
	}
}

func TestAdrOkAtTheLastAddress(t *testing.T) {
	cases := []struct {
		addr, many int
		wrap, want bool
	}{
		{0, 1, false, true}, {0, 2, false, true}, {0, 4, false, true}, {0, 4, true, true},
		{63, 1, false, true}, {63, 2, false, false}, {63, 4, false, false},
		{62, 2, false, true}, {60, 4, false, true}, {61, 4, false, false}, {62, 4, false, false},
		{63, 1, true, true}, {63, 2, true, true}, {63, 4, true, true}, {61, 4, true, true},
		{64, 1, false, false}, {64, 1, true, false}, {-1, 1, false, false}, {-1, 2, false, false}, {-1, 4, true, false},
		{0, 0, false, false}, {0, 0, true, false}, {0, 3, true, false}, {0, 3, false, false}, {0, 5, false, false}, {0, 8, true, false}, {0, -1, false, false},
		{math.MaxInt, 4, false, false}, {math.MinInt, 1, true, false}, {0, math.MaxInt, false, false}, {63, math.MaxInt, false, false}, {0, math.MinInt, true, false},
	}
	for _, c := range cases {
		if got := impl.AdrOk(c.addr, c.many, c.wrap); got != c.want {
			t.Errorf("AdrOk(%d, %d, %v) is %v", c.addr, c.many, c.wrap, got)
		}
	}
}

func TestP16BurstsByHand(t *testing.T) {
	cases := []struct {
		addr, many int
		wrap       bool
		want       []int
	}{
		{0, 1, false, []int{0}}, {0, 1, true, []int{0}}, {63, 1, false, []int{63}}, {63, 1, true, []int{63}},
		{0, 2, true, []int{0, 1}}, {1, 2, true, []int{1, 0}}, {1, 2, false, []int{1, 2}},
		{62, 2, false, []int{62, 63}}, {62, 2, true, []int{62, 63}}, {63, 2, true, []int{63, 62}},
		{0, 4, false, []int{0, 1, 2, 3}}, {60, 4, false, []int{60, 61, 62, 63}}, {6, 4, false, []int{6, 7, 8, 9}},
		{4, 4, true, []int{4, 5, 6, 7}}, {5, 4, true, []int{5, 6, 7, 4}}, {6, 4, true, []int{6, 7, 4, 5}}, {7, 4, true, []int{7, 4, 5, 6}},
		{60, 4, true, []int{60, 61, 62, 63}}, {61, 4, true, []int{61, 62, 63, 60}}, {62, 4, true, []int{62, 63, 60, 61}}, {63, 4, true, []int{63, 60, 61, 62}},
	}
	for _, c := range cases {
		if got := impl.AdrBurst(c.addr, c.many, c.wrap); !slices.Equal(got, c.want) {
			t.Errorf("AdrBurst(%d, %d, %v) is %v, not %v", c.addr, c.many, c.wrap, got, c.want)
		}
	}
}

func TestP16EachAddressOnce(t *testing.T) {
	for addr := 0; addr <= impl.AdrMax; addr++ {
		for _, many := range burstSizes {
			for _, wrap := range []bool{false, true} {
				if !impl.AdrOk(addr, many, wrap) {
					continue
				}
				got := impl.AdrBurst(addr, many, wrap)
				if len(got) != many || got[0] != addr {
					t.Fatalf("AdrBurst(%d, %d, %v) is %v", addr, many, wrap, got)
				}
				if len(slices.Compact(sorted(got))) != many {
					t.Fatalf("AdrBurst(%d, %d, %v) has one twice: %v", addr, many, wrap, got)
				}
			}
		}
	}
}

func TestP16OneBehindTheOtherRises(t *testing.T) {
	for _, many := range burstSizes {
		for addr := 0; addr+many-1 <= impl.AdrMax; addr++ {
			got := impl.AdrBurst(addr, many, false)
			if len(got) != many {
				t.Fatalf("AdrBurst(%d, %d, false) is %v", addr, many, got)
			}
			for k, a := range got {
				if a != addr+k {
					t.Fatalf("AdrBurst(%d, %d, false) is %v", addr, many, got)
				}
			}
		}
	}
}

// Behind the last address of a block comes its first; else each is one more than the one ahead of it.
func TestP16RoundAboutIsOneBlock(t *testing.T) {
	for _, many := range burstSizes {
		for first := 0; first <= impl.AdrMax; first += many {
			for place := range many {
				got := impl.AdrBurst(first+place, many, true)
				if len(got) != many {
					t.Fatalf("AdrBurst(%d, %d, true) is %v", first+place, many, got)
				}
				want := first + place
				for _, a := range got {
					if a != want {
						t.Fatalf("AdrBurst(%d, %d, true) is %v", first+place, many, got)
					}
					if want++; want == first+many {
						want = first
					}
				}
			}
		}
	}
}

func TestP16WrongBurstsHaveNoAddress(t *testing.T) {
	for _, addr := range wildInts {
		for _, many := range wildInts {
			for _, wrap := range []bool{false, true} {
				want := 0
				if goesOn(addr, many, wrap) {
					want = many
				}
				if got := impl.AdrBurst(addr, many, wrap); len(got) != want {
					t.Fatalf("AdrBurst(%d, %d, %v) is %v", addr, many, wrap, got)
				}
			}
		}
	}
}

func TestP17OkInRowIsOkRoundAbout(t *testing.T) {
	for addr := 0; addr <= impl.AdrMax; addr++ {
		for _, many := range burstSizes {
			if !impl.AdrOk(addr, many, true) {
				t.Errorf("AdrOk(%d, %d, true) is false", addr, many)
			}
			if impl.AdrOk(addr, many, false) != (addr <= 64-many) {
				t.Errorf("AdrOk(%d, %d, false) is %v", addr, many, addr > 64-many)
			}
		}
	}
}

func TestP17EachAddressByItselfIsOk(t *testing.T) {
	for addr := 0; addr <= impl.AdrMax; addr++ {
		for _, many := range burstSizes {
			for _, wrap := range []bool{false, true} {
				for _, a := range impl.AdrBurst(addr, many, wrap) {
					if !impl.AdrOk(a, 1, false) || !impl.AdrOk(a, 1, true) {
						t.Errorf("%d of AdrBurst(%d, %d, %v) is not ok", a, addr, many, wrap)
					}
				}
			}
		}
	}
}

func TestP71OneBlockHasTheSameAddresses(t *testing.T) {
	for _, many := range burstSizes {
		for a := 0; a <= impl.AdrMax; a++ {
			for b := 0; b <= impl.AdrMax; b++ {
				one, other := sorted(impl.AdrBurst(a, many, true)), sorted(impl.AdrBurst(b, many, true))
				if slices.Equal(one, other) != (a/many == b/many) {
					t.Fatalf("round about by %d: %d has %v, %d has %v", many, a, one, b, other)
				}
			}
		}
	}
}

func TestP71AtAMultipleBothAreOne(t *testing.T) {
	for _, many := range burstSizes {
		for addr := 0; addr <= impl.AdrMax; addr += many {
			row, round := impl.AdrBurst(addr, many, false), impl.AdrBurst(addr, many, true)
			if len(row) != many || !slices.Equal(row, round) {
				t.Errorf("at %d by %d: in a row %v, round about %v", addr, many, row, round)
			}
		}
	}
}

// spoil writes over all of a list, spare room included.
func spoil(list []int) {
	list = list[:cap(list)]
	for k := range list {
		list[k] = -77
	}
}

func TestEachBurstIsNewMemory(t *testing.T) {
	for _, wrap := range []bool{false, true} {
		for _, many := range burstSizes {
			for addr := 0; addr+many-1 <= impl.AdrMax; addr++ {
				first, second := impl.AdrBurst(addr, many, wrap), impl.AdrBurst(addr, many, wrap)
				was := slices.Clone(first)
				spoil(second)
				if !slices.Equal(first, was) {
					t.Fatalf("two answers of AdrBurst(%d, %d, %v) share memory", addr, many, wrap)
				}
				if third := impl.AdrBurst(addr, many, wrap); !slices.Equal(third, was) {
					t.Fatalf("AdrBurst(%d, %d, %v) was %v, and then %v", addr, many, wrap, was, third)
				}
			}
		}
	}
}

func TestNoAddressesAreNewMemoryToo(t *testing.T) {
	spoil(impl.AdrBurst(64, 1, false))
	spoil(impl.AdrBurst(0, 3, true))
	if got := impl.AdrBurst(64, 1, false); len(got) != 0 || slices.Contains(got[:cap(got)], -77) {
		t.Fatal("two answers without an address share memory")
	}
}
