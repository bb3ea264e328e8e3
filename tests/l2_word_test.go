package tests

import (
	"math"
	"testing"

	"loop.example/crossyard/impl"
)

// someWords are words whose bytes differ, words of which just one byte is not nought, and both ends.
var someWords = []int{0, 1, 2, 128, 254, 255, 256, 257, 511, 512, 4660, 13330, 32767, 32768, 43690, 52907, 65279, 65280, 65281, 65534, 65535}

// noWords are numbers next to words, and far from them; some have bits of a word in their lower half.
var noWords = []int{math.MinInt, math.MinInt + 1, -1 << 32, -65537, -65536, -65535, -256, -255, -1, 65536, 65537, 65791, 131071, 1 << 24, 1<<32 | 5, math.MaxInt - 1, math.MaxInt}

// noLanes are numbers next to lanes, and far from them; some have both bits of lanes.
var noLanes = []int{math.MinInt, math.MinInt + 3, -4, -3, -2, -1, 4, 5, 6, 7, 8, 255, 256, 1 << 32, math.MaxInt - 1, math.MaxInt}

// putByBytes is what the document asks of WrdPut, said byte by byte, without a bit.
func putByBytes(old int, new int, lanes int) int {
	lower, higher := old%256, old/256
	if lanes == 1 || lanes == 3 {
		lower = new % 256
	}
	if lanes == 2 || lanes == 3 {
		higher = new / 256
	}
	return higher*256 + lower
}

func TestP18WordsByHand(t *testing.T) {
	cases := []struct{ old, new, lanes, want int }{
		{0x1234, 0xabcd, 0, 0x1234}, {0x1234, 0xabcd, 1, 0x12cd}, {0x1234, 0xabcd, 2, 0xab34}, {0x1234, 0xabcd, 3, 0xabcd},
		{0, 0xffff, 0, 0}, {0, 0xffff, 1, 0x00ff}, {0, 0xffff, 2, 0xff00}, {0, 0xffff, 3, 0xffff},
		{0xffff, 0, 0, 0xffff}, {0xffff, 0, 1, 0xff00}, {0xffff, 0, 2, 0x00ff}, {0xffff, 0, 3, 0},
		{0x00ff, 0xff00, 1, 0}, {0x00ff, 0xff00, 2, 0xffff}, {0xff00, 0x00ff, 1, 0xffff}, {0xff00, 0x00ff, 2, 0},
		{0x0001, 0x0100, 1, 0}, {0x0001, 0x0100, 2, 0x0101}, {0x0080, 0x8000, 2, 0x8080}, {0x0100, 0x0001, 1, 0x0101},
		{0, 0, 0, 0}, {0, 0, 3, 0}, {0xffff, 0xffff, 0, 0xffff}, {0xffff, 0xffff, 3, 0xffff},
	}
	for _, c := range cases {
		if got := impl.WrdPut(c.old, c.new, c.lanes); got != c.want {
			t.Errorf("WrdPut(%#x, %#x, %d) is %#x, not %#x", c.old, c.new, c.lanes, got, c.want)
		}
	}
}

func TestP18JustTheLanesThatAreToldTurn(t *testing.T) {
	for _, old := range someWords {
		for _, new := range someWords {
			none, low, high, both := impl.WrdPut(old, new, 0), impl.WrdPut(old, new, 1), impl.WrdPut(old, new, 2), impl.WrdPut(old, new, impl.WrdAll)
			if none != old || both != new {
				t.Fatalf("%d, with no lane of %d, is %d, and with both %d", old, new, none, both)
			}
			if low%256 != new%256 || low/256 != old/256 {
				t.Fatalf("%d with the lower byte of %d is %d", old, new, low)
			}
			if high%256 != old%256 || high/256 != new/256 {
				t.Fatalf("%d with the higher byte of %d is %d", old, new, high)
			}
		}
	}
}

func TestP18PutOnceMoreItIsTheSame(t *testing.T) {
	for _, old := range someWords {
		for _, new := range someWords {
			for lanes := 0; lanes <= impl.WrdAll; lanes++ {
				once := impl.WrdPut(old, new, lanes)
				if twice := impl.WrdPut(once, new, lanes); once < 0 || twice != once {
					t.Fatalf("%d put into %d by %d is %d, and once more %d", new, old, lanes, once, twice)
				}
			}
		}
	}
}

// Each byte is put beside each other one, whichever of the two it is.
func TestP18EachByteBesideEachOther(t *testing.T) {
	for a := range 256 {
		for b := range 256 {
			for lanes := 0; lanes <= impl.WrdAll; lanes++ {
				for _, x := range [][2]int{{a*256 + b, b*256 + a}, {a, b * 256}, {a * 256, b}, {a*256 + a, b*256 + b}} {
					if got := impl.WrdPut(x[0], x[1], lanes); got != putByBytes(x[0], x[1], lanes) {
						t.Fatalf("WrdPut(%d, %d, %d) is %d", x[0], x[1], lanes, got)
					}
				}
			}
		}
	}
}

// A number that is no word is told of even where no lane takes it, or both lanes put another one over it.
func TestP18WhatIsNoWordIsNotPut(t *testing.T) {
	for lanes := 0; lanes <= impl.WrdAll; lanes++ {
		for _, none := range noWords {
			for _, word := range someWords {
				if got := impl.WrdPut(none, word, lanes); got != -1 {
					t.Errorf("WrdPut(%d, %d, %d) is %d", none, word, lanes, got)
				}
				if got := impl.WrdPut(word, none, lanes); got != -1 {
					t.Errorf("WrdPut(%d, %d, %d) is %d", word, none, lanes, got)
				}
			}
			if got := impl.WrdPut(none, none, lanes); got != -1 {
				t.Errorf("WrdPut(%d, %d, %d) is %d", none, none, lanes, got)
			}
		}
	}
}

func TestP18WhatAreNoLanesPutNothing(t *testing.T) {
	for _, lanes := range noLanes {
		for _, old := range someWords {
			for _, new := range someWords {
				if got := impl.WrdPut(old, new, lanes); got != -1 {
					t.Errorf("WrdPut(%d, %d, %d) is %d", old, new, lanes, got)
				}
			}
		}
		if got := impl.WrdPut(-1, impl.WrdMax+1, lanes); got != -1 {
			t.Errorf("WrdPut(-1, %d, %d) is %d", impl.WrdMax+1, lanes, got)
		}
	}
}
