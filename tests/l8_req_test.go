package tests

import (
	"fmt"
	"math"
	"slices"
	"strings"
	"testing"

	"loop.example/crossyard/impl"
)

// parsed fails unless ReqParse is what the document asks for, and what it reads is ok, and has that line; it says whether it reads anything.
func parsed(t *testing.T, line string) bool {
	t.Helper()
	want, may := parseAsSaid(line)
	got, ok := impl.ReqParse(line)
	if ok != may || !sameAsk(got, want) {
		t.Fatalf("ReqParse(%q) is %v and %v, not %v and %v", line, got, ok, want, may)
	}
	if ok && (!impl.ReqOk(got) || impl.ReqText(got) != line) {
		t.Fatalf("ReqParse(%q) is %v, which has the line %q", line, got, impl.ReqText(got))
	}
	return ok
}

func TestP47WhatIsAskedHasALine(t *testing.T) {
	for _, r := range spokenAsks() {
		text := impl.ReqText(r)
		if text != textAsSaid(r) {
			t.Fatalf("ReqText(%v) is %q, not %q", r, text, textAsSaid(r))
		}
		got, ok := impl.ReqParse(text)
		if !ok || !sameAsk(got, r) {
			t.Fatalf("ReqParse(%q) is %v and %v, not %v", text, got, ok, r)
		}
	}
}

func TestP47LinesByHand(t *testing.T) {
	for _, x := range []struct {
		text string
		r    impl.ReqReq
	}{
		{"read 0 0 1", impl.ReqReq{Kind: 1, Many: 1}},
		{"read 1 63 1 round", impl.ReqReq{Id: 1, Kind: 1, Addr: 63, Many: 1, Wrap: true}},
		{"read 0 60 4", impl.ReqReq{Kind: 1, Addr: 60, Many: 4}},
		{"read 0 61 4 round", impl.ReqReq{Kind: 1, Addr: 61, Many: 4, Wrap: true}},
		{"read 0 62 2", impl.ReqReq{Kind: 1, Addr: 62, Many: 2}},
		{"hold 1 9 1", impl.ReqReq{Id: 1, Kind: 3, Addr: 9, Many: 1}},
		{"hold 0 10 1 round", impl.ReqReq{Kind: 3, Addr: 10, Many: 1, Wrap: true}},
		{"try 0 1 1 0 0", impl.ReqReq{Kind: 4, Addr: 1, Many: 1, Data: []int{0}, Lanes: []int{0}}},
		{"try 1 63 1 round 65535 3", impl.ReqReq{Id: 1, Kind: 4, Addr: 63, Many: 1, Wrap: true, Data: []int{65535}, Lanes: []int{3}}},
		{"write 0 7 1 5 1", impl.ReqReq{Kind: 2, Addr: 7, Many: 1, Data: []int{5}, Lanes: []int{1}}},
		{"write 1 4 2 round 7 3 8 0", impl.ReqReq{Id: 1, Kind: 2, Addr: 4, Many: 2, Wrap: true, Data: []int{7, 8}, Lanes: []int{3, 0}}},
		{"write 0 60 4 0 0 10 1 65534 2 65535 3", impl.ReqReq{Kind: 2, Addr: 60, Many: 4, Data: []int{0, 10, 65534, 65535}, Lanes: []int{0, 1, 2, 3}}},
		{"write 1 63 4 round 65535 3 10000 2 65534 1 12345 0", longestAsk()},
	} {
		if got := impl.ReqText(x.r); got != x.text {
			t.Errorf("ReqText(%v) is %q, not %q", x.r, got, x.text)
		}
		if got, ok := impl.ReqParse(x.text); !ok || !sameAsk(got, x.r) {
			t.Errorf("ReqParse(%q) is %v and %v", x.text, got, ok)
		}
	}
}

// Of each text one byte is left out, doubled, turned to another one, or put between two.
func TestP47WhatIsReadHasThatLine(t *testing.T) {
	bytes := []byte(" 0123456789+-.,_xRrdeoundtywi\t\n\r\x00\x7f\x80\xff")
	reads := map[bool]int{}
	asks := append(someAsks(), longestAsk(), impl.ReqReq{Kind: 1, Addr: 61, Many: 4, Wrap: true}, writeOf(60, 9, 1), holdOf(1, 6))
	for _, r := range asks {
		text := textAsSaid(r)
		reads[parsed(t, text)]++
		for k := range len(text) {
			reads[parsed(t, text[:k])]++
			reads[parsed(t, text[k:])]++
			reads[parsed(t, text[:k]+text[k+1:])]++
			reads[parsed(t, text[:k]+text[k:k+1]+text[k:])]++
			for _, b := range bytes {
				reads[parsed(t, text[:k]+string([]byte{b})+text[k:])]++
				reads[parsed(t, text[:k]+string([]byte{b})+text[k+1:])]++
			}
		}
	}
	if reads[true] < 1000 || reads[false] < 1000 {
		t.Fatalf("all are much the same: %v", reads)
	}
}

// Words of lines in any order, and in any number.
func TestP47WordsByChance(t *testing.T) {
	words := []string{"read", "write", "hold", "try", "round", "0", "1", "2", "3", "4", "5", "16", "60", "62", "63", "64", "300", "65535", "65536", "07", ""}
	n := chance(8)
	reads := map[bool]int{}
	for range 200000 {
		line := []string{kindWords[n.below(4)], words[5+n.below(2)], words[5+n.below(11)], words[6+n.below(4)]}
		if n.below(3) == 0 {
			line = append(line, "round")
		}
		for range n.below(3) * n.below(5) {
			line = append(line, words[5+n.below(13)], words[5+n.below(5)])
		}
		for range n.below(2) {
			line[n.below(len(line))] = words[n.below(len(words))]
		}
		reads[parsed(t, strings.Join(line, " "))]++
	}
	if reads[true] < 1000 || reads[false] < 1000 {
		t.Fatalf("all are much the same: %v", reads)
	}
}

func TestP47TextsOfNothing(t *testing.T) {
	for _, text := range noTexts() {
		if _, ok := parseAsSaid(text); ok {
			t.Fatalf("%q: the test is wrong", text)
		}
		if got, ok := impl.ReqParse(text); ok || !sameAsk(got, impl.ReqReq{}) {
			t.Errorf("ReqParse(%q) is %v and %v", text, got, ok)
		}
	}
}

// Each byte stands in the place of each word, beside each word, and alone.
func TestP47BytesThatAreNoWord(t *testing.T) {
	for b := range 256 {
		one := string([]byte{byte(b)})
		parsed(t, one)
		words := strings.Split("write 0 4 1 round 7 3", " ")
		for k := range words {
			for _, word := range []string{one, one + words[k], words[k] + one} {
				x := slices.Clone(words)
				x[k] = word
				parsed(t, strings.Join(x, " "))
			}
		}
	}
}

// No text of what is asked is near so long, so that each of these is none, also of just as many bytes.
func TestP47TextsOfEightyBytesAndMore(t *testing.T) {
	most := 0
	for _, r := range spokenAsks() {
		most = max(most, len(impl.ReqText(r)))
	}
	if most != len(impl.ReqText(longestAsk())) || most >= 80 {
		t.Fatalf("the longest text has %d bytes", most)
	}
	for _, size := range []int{79, 80, 81, 82, 100, 100000} {
		for _, text := range []string{textAsSaid(longestAsk()), "read 0 5 1", "try 0 5 1 7 3", ""} {
			room := size - len(text)
			parsed(t, text+strings.Repeat(" ", room))
			parsed(t, strings.Repeat(" ", room)+text)
			parsed(t, strings.Replace(text, " ", strings.Repeat(" ", room+1), 1))
			parsed(t, strings.Replace(text, " 5 ", " "+strings.Repeat("0", room)+"5 ", 1))
			parsed(t, text+strings.Repeat("0", room))
			parsed(t, text+strings.Repeat(" 1", room/2))
		}
		for _, word := range []string{"0", " ", "x", "\x00", "\xff", "-", "9", "1 ", "read ", "7 3 "} {
			parsed(t, strings.Repeat(word, size)[:size])
		}
	}
}

func TestP72WhatDiffersHasAnotherLine(t *testing.T) {
	asks := spokenAsks()
	of := map[string]impl.ReqReq{}
	for _, r := range asks {
		text := impl.ReqText(r)
		if text == "" {
			t.Fatalf("%v has no line", r)
		}
		if other, ok := of[text]; ok && !sameAsk(other, r) {
			t.Fatalf("%v and %v have the line %q", other, r, text)
		}
		of[text] = r
	}
	some := append(someAsks(), spokenAsks()[len(okAsks()):]...)
	for _, a := range some {
		for _, b := range some {
			if (impl.ReqText(a) == impl.ReqText(b)) != sameAsk(a, b) {
				t.Fatalf("%v has the line %q, and %v the line %q", a, impl.ReqText(a), b, impl.ReqText(b))
			}
		}
	}
}

// Of each thing one part alone is turned to something that is ok.
func TestP72WhereOnePartDiffers(t *testing.T) {
	for _, r := range append(someAsks(), longestAsk()) {
		turned := []impl.ReqReq{r, r, r}
		turned[0].Id, turned[1].Wrap, turned[2].Addr = 1-r.Id, !r.Wrap, r.Addr-2
		for k := range r.Data {
			word, lanes := copyAsk(r), copyAsk(r)
			word.Data[k] ^= 1
			lanes.Lanes[k] ^= 2
			turned = append(turned, word, lanes)
			if k > 0 && r.Data[k] != r.Data[0] {
				order := copyAsk(r)
				order.Data[0], order.Data[k] = order.Data[k], order.Data[0]
				turned = append(turned, order)
			}
		}
		for _, x := range turned {
			if impl.ReqOk(x) && impl.ReqText(x) == impl.ReqText(r) {
				t.Fatalf("%v and %v have the line %q", r, x, impl.ReqText(r))
			}
		}
	}
}

func TestP72TheEmptyListIsTheNilList(t *testing.T) {
	for _, r := range someAsks() {
		if hasWords(r.Kind) {
			continue
		}
		for _, list := range [][]int{nil, {}, make([]int, 0, 4)} {
			x := r
			x.Data, x.Lanes = list, list
			if impl.ReqText(x) != textAsSaid(r) {
				t.Fatalf("ReqText(%v) is %q", x, impl.ReqText(x))
			}
		}
	}
}

// oneWrongAsks are things with one part turned to any number, and lists longer and shorter.
func oneWrongAsks() []impl.ReqReq {
	numbers := slices.Concat(wildInts, noWords, noLanes, noNames, noKinds)
	var all []impl.ReqReq
	for _, r := range append(someAsks(), longestAsk(), readOf(0), writeOf(63, 0, 0)) {
		for _, n := range numbers {
			x := []impl.ReqReq{copyAsk(r), copyAsk(r), copyAsk(r), copyAsk(r)}
			x[0].Id, x[1].Kind, x[2].Addr, x[3].Many = n, n, n, n
			for k := range r.Data {
				word, lanes := copyAsk(r), copyAsk(r)
				word.Data[k], lanes.Lanes[k] = n, n
				x = append(x, word, lanes)
			}
			all = append(all, x...)
		}
		for size := range 7 {
			words, lanes, both := copyAsk(r), copyAsk(r), copyAsk(r)
			words.Data, lanes.Lanes = make([]int, size), make([]int, size)
			both.Data, both.Lanes = make([]int, size), make([]int, size)
			all = append(all, words, lanes, both)
		}
	}
	return all
}

func TestReqTextOfWhatMayNotBeAsked(t *testing.T) {
	for _, r := range wrongAsks() {
		if got := impl.ReqText(r); got != "" {
			t.Fatalf("ReqText(%v) is %q", r, got)
		}
	}
	none := 0
	for _, r := range oneWrongAsks() {
		want := ""
		if impl.ReqOk(r) {
			want = textAsSaid(r)
		} else {
			none++
		}
		if got := impl.ReqText(r); got != want {
			t.Fatalf("ReqText(%v) is %q, not %q", r, got, want)
		}
	}
	if none < 1000 {
		t.Fatalf("just %d are not ok", none)
	}
}

// What would be written of something that may not be asked, if it was written, is not read either.
func TestReqParseOfWhatMayNotBeAsked(t *testing.T) {
	for _, r := range append(oneWrongAsks(), wrongAsks()...) {
		if r.Kind < 1 || r.Kind > 4 || len(r.Lanes) != len(r.Data) {
			continue
		}
		if text := textAsSaid(r); parsed(t, text) != impl.ReqOk(r) {
			t.Fatalf("ReqParse(%q) reads %v", text, !impl.ReqOk(r))
		}
	}
	for _, n := range []int{math.MinInt, math.MaxInt} {
		for place := range 5 {
			words := []any{0, 5, 1, 7, 3}
			words[place] = n
			if text := fmt.Sprintf("write %v %v %v %v %v", words...); parsed(t, text) {
				t.Fatalf("ReqParse(%q) reads it", text)
			}
		}
	}
}
