package tests

import (
	"slices"
	"testing"

	"loop.example/crossyard/impl"
)

// someAddrs are the first, the last, and some addresses between.
var someAddrs = []int{0, 1, 31, 32, 62, 63}

// okStores are stores that are ok: all noughts, all of the greatest word, all that differ.
func okStores() []impl.MemMem {
	noughts, full, rising := make([]int, 64), make([]int, 64), make([]int, 64)
	for a := range 64 {
		full[a] = 65535
		rising[a] = a * 1040
	}
	return []impl.MemMem{{Words: noughts}, {Words: full}, {Words: rising}}
}

func TestP19ANewStoreIsNoughts(t *testing.T) {
	m := impl.MemNew()
	if len(m.Words) != 64 || !impl.MemOk(m) {
		t.Fatalf("MemNew has %d words, and is ok: %v", len(m.Words), impl.MemOk(m))
	}
	for a, word := range m.Words {
		if word != 0 {
			t.Errorf("at %d MemNew has %d", a, word)
		}
	}
}

func TestP19AWordForEachAddressIsOk(t *testing.T) {
	for _, m := range okStores() {
		if !impl.MemOk(m) {
			t.Errorf("%v is not ok", m.Words)
		}
	}
	for _, a := range someAddrs {
		for _, word := range someWords {
			m := impl.MemNew()
			m.Words[a] = word
			if !impl.MemOk(m) {
				t.Errorf("with %d at %d a store is not ok", word, a)
			}
		}
	}
}

func TestP19AWordMoreOrLessIsNotOk(t *testing.T) {
	for _, m := range okStores() {
		if impl.MemOk(impl.MemMem{Words: m.Words[:63]}) {
			t.Error("with a word less a store is ok")
		}
		if impl.MemOk(impl.MemMem{Words: m.Words[1:]}) {
			t.Error("without its first word a store is ok")
		}
		for _, word := range []int{0, impl.WrdMax, -1} {
			if impl.MemOk(impl.MemMem{Words: append(slices.Clone(m.Words), word)}) {
				t.Errorf("with %d behind it a store is ok", word)
			}
		}
	}
}

func TestP19NoOtherSizeIsOk(t *testing.T) {
	for size := range 200 {
		if got := impl.MemOk(impl.MemMem{Words: make([]int, size)}); got != (size == 64) {
			t.Errorf("of %d words a store is ok: %v", size, got)
		}
	}
	if impl.MemOk(impl.MemMem{}) || impl.MemOk(impl.MemMem{Words: []int{}}) {
		t.Error("a store without words is ok")
	}
	if impl.MemOk(impl.MemMem{Words: make([]int, 0, 64)}) || impl.MemOk(impl.MemMem{Words: make([]int, 63, 64)}) {
		t.Error("spare room makes a store ok")
	}
}

func TestP19AWordThatIsNoneIsNotOk(t *testing.T) {
	for _, m := range okStores() {
		for a := range m.Words {
			was := m.Words[a]
			for _, none := range noWords {
				m.Words[a] = none
				if impl.MemOk(m) {
					t.Errorf("with %d at %d a store is ok", none, a)
				}
			}
			m.Words[a] = was
		}
		if !impl.MemOk(m) {
			t.Error("with its words back a store is not ok")
		}
	}
}

func TestEachNewStoreIsNewMemory(t *testing.T) {
	first, second := impl.MemNew(), impl.MemNew()
	spoil(second.Words)
	if !impl.MemOk(first) || slices.Contains(first.Words[:cap(first.Words)], -77) {
		t.Fatal("two answers of MemNew share memory")
	}
	if third := impl.MemNew(); !impl.MemOk(third) || slices.Max(third.Words) != 0 {
		t.Fatal("MemNew hands out what was written into an answer")
	}
}

// A store is given with words behind its end, which must be neither written nor read.
func TestAStoreIsLeftAsItIs(t *testing.T) {
	for _, m := range okStores() {
		room := append(slices.Clone(m.Words), -1, impl.WrdMax+1, 7)
		was := slices.Clone(room)
		if !impl.MemOk(impl.MemMem{Words: room[:64]}) {
			t.Error("MemOk looks behind the end of a store")
		}
		for size := range room {
			impl.MemOk(impl.MemMem{Words: room[:size]})
			impl.MemOk(impl.MemMem{Words: room[size:]})
		}
		if !slices.Equal(room, was) {
			t.Errorf("%v was turned to %v", was, room)
		}
	}
}
