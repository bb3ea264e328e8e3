package tests

import (
	"fmt"
	"math"
	"slices"
	"strings"
	"testing"

	"loop.example/crossyard/impl"
)

// flowed fails unless DskFlow is what the document asks for.
func flowed(t *testing.T, slow []int, lines []string, n int) []string {
	t.Helper()
	got := impl.DskFlow(slow, lines, n)
	if want := flowAsSaid(slow, lines, n); !slices.Equal(got, want) {
		t.Fatalf("DskFlow of %v, %q and %d is %q, not %q", slow, lines, n, got, want)
	}
	return got
}

// flowSlow is how slow the stores of the document's example are.
func flowSlow() []int { return []int{2, 0, 1, 0} }

// flowLines are lines of buses on which all ask, or some, much or little, and of nobody.
func flowLines() [][]string {
	all := [][]string{nil, {}, exampleLines()}
	for _, c := range traceBuses() {
		all = append(all, linesOf(c.Progs))
	}
	return all
}

func TestConstantsOfLines(t *testing.T) {
	if impl.DskMaxLines != 60 || impl.CycMost != 300 || impl.PrgMost != 12 || impl.SlvSlow != 3 {
		t.Fatal("a constant is not that of the table")
	}
}

func TestP50TheExampleOfTheDocument(t *testing.T) {
	want := []string{
		"told 0 1 okay 0",
		"told 2 0 deny",
		"told 0 0 okay",
		"told 2 1 none",
		"told 1 0 held 300",
		"asks 0 2 waits 0 out 0",
		"asks 1 2 waits 0 out 1",
		"asks 2 2 waits 0 out 0",
		"store 0 does 1 done 0",
		"store 1 does 0 done 0",
		"store 2 does 0 done 0",
		"store 3 does 0 done 0",
	}
	if got := impl.DskFlow([]int{2, 0, 1, 0}, exampleLines(), 9); !slices.Equal(got, want) {
		t.Errorf("behind 9 cycles it is %q", got)
	}
	want = slices.Insert(want, 5, "told 1 1 held")
	want[7], want[9] = "asks 1 2 waits 0 out 0", "store 0 does 0 done 0"
	for _, n := range []int{12, 13, 300} {
		if got := impl.DskFlow([]int{2, 0, 1, 0}, exampleLines(), n); !slices.Equal(got, want) {
			t.Errorf("behind %d cycles it is %q", n, got)
		}
	}
}

func TestP50OfNoLines(t *testing.T) {
	want := []string{
		"asks 0 0 waits 0 out 0", "asks 1 0 waits 0 out 0", "asks 2 0 waits 0 out 0",
		"store 0 does 0 done 0", "store 1 does 0 done 0", "store 2 does 0 done 0", "store 3 does 0 done 0",
	}
	for _, lines := range [][]string{nil, {}, make([]string, 0, 5)} {
		for _, n := range []int{0, 1, 5, 300} {
			if got := impl.DskFlow([]int{0, 3, 1, 2}, lines, n); !slices.Equal(got, want) {
				t.Errorf("behind %d cycles it is %q", n, got)
			}
		}
	}
}

// Of each bus there are as many lines as a board has, and just that board.
func TestP50LinesAreAskedOneByOne(t *testing.T) {
	told := 0
	for _, lines := range flowLines() {
		for k, slow := range [][]int{{0, 0, 0, 0}, {3, 3, 3, 3}, {2, 0, 1, 3}} {
			c := flowBus(slow...)
			c.Progs, _ = askedAsSaid(lines)
			for _, n := range []int{0, 1, 2, 3, 7, 20 + k, 60, 300} {
				got := flowed(t, slow, lines, n)
				s := impl.CycFlow(c, impl.CycNew(), n)
				if !slices.Equal(got, impl.DskBoard(c, s)) || len(got) != len(s.Told)+7 {
					t.Fatalf("of the bus %v DskFlow is %q", c, got)
				}
				told += len(s.Told)
			}
		}
	}
	if told < 1000 {
		t.Fatalf("just %d things were told", told)
	}
}

// Each of the three ranges, its ends, what goes over them, and where there is no store.
func TestP50TheBusOfTheDocument(t *testing.T) {
	for addr := range 64 {
		code, store := "okay", addr/16
		if store == 2 {
			code = "deny"
		}
		if store == 3 {
			code = "none"
		}
		got := flowed(t, []int{0, 0, 0, 0}, []string{fmt.Sprintf("0 write 0 %d 1 7 3", addr), fmt.Sprintf("1 read 0 %d 1", addr)}, 2)
		if want := fmt.Sprintf("store %d does 1 done 0", store); !slices.Contains(got, want) {
			t.Errorf("of address %d there is no line %q: %q", addr, want, got)
		}
		got = flowed(t, []int{0, 0, 0, 0}, []string{fmt.Sprintf("0 write 0 %d 1 7 3", addr)}, 20)
		if want := "told 0 0 " + code; got[0] != want {
			t.Errorf("of address %d %q is told", addr, got[0])
		}
		for _, many := range []int{2, 4} {
			flowed(t, []int{1, 1, 1, 1}, []string{fmt.Sprintf("2 read 1 %d %d", addr, many), fmt.Sprintf("0 read 1 %d %d round", addr, many)}, 20)
		}
	}
}

func TestP50HowSlowStoresMayBe(t *testing.T) {
	for at := range 4 {
		for slow := range 4 {
			lats := []int{0, 0, 0, 0}
			lats[at] = slow
			line := fmt.Sprintf("1 read 0 %d 1", at*16)
			if got := flowed(t, lats, []string{line}, 3+slow); len(got) != 7 {
				t.Errorf("of store %d, as slow as %d, something was told behind %d cycles: %q", at, slow, 3+slow, got)
			}
			if got := flowed(t, lats, []string{line}, 4+slow); len(got) != 8 {
				t.Errorf("of store %d, as slow as %d, nothing was told behind %d cycles: %q", at, slow, 4+slow, got)
			}
		}
	}
}

// isBus fails unless there is just the line that tells that it is no bus.
func isBus(t *testing.T, slow []int, lines []string, n int) {
	t.Helper()
	if got := flowed(t, slow, lines, n); !slices.Equal(got, []string{"bus"}) {
		t.Errorf("DskFlow of %v, %d lines and %d is %q", slow, len(lines), n, got)
	}
}

func TestP50NoBusIsJustThat(t *testing.T) {
	some := [][]string{nil, {}, exampleLines(), {"x"}, {"0 read 0 1 1", "", "x"}, slices.Repeat([]string{"y"}, 60)}
	for _, lines := range some {
		for at := range 4 {
			for _, n := range noSlow {
				slow := flowSlow()
				slow[at] = n
				isBus(t, slow, lines, 9)
			}
		}
		for size := range 12 {
			if size != 4 {
				isBus(t, make([]int, size), lines, 9)
			}
		}
		isBus(t, nil, lines, 9)
		isBus(t, make([]int, 0, 4), lines, 0)
		isBus(t, flowSlow()[:3], lines, 1)
		isBus(t, append(flowSlow(), 0), lines, 1)
		for _, n := range []int{math.MinInt, -1 << 32, -300, -2, -1, 301, 302, 600, 1 << 32, math.MaxInt - 1, math.MaxInt} {
			isBus(t, flowSlow(), lines, n)
			isBus(t, nil, lines, n)
			isBus(t, []int{4, 0, 0, 0}, lines, n)
		}
	}
}

func TestP50HowManyCyclesThereMayBe(t *testing.T) {
	for _, lines := range flowLines() {
		for n := -2; n <= 303; n += 1 + (n+2)%149 {
			got := flowed(t, flowSlow(), lines, n)
			if (n < 0 || n > 300) != slices.Equal(got, []string{"bus"}) {
				t.Fatalf("of %d cycles DskFlow is %q", n, got)
			}
		}
		for _, n := range []int{-1, 0, 1, 299, 300, 301} {
			flowed(t, flowSlow(), lines, n)
		}
	}
}

func TestP50HowManyLinesThereMayBe(t *testing.T) {
	sixty := slices.Repeat([]string{"0 read 0 1 1", "", "1 hold 1 2 1", "x", "2 write 0 3 1 1 1"}, 12)
	got := flowed(t, flowSlow(), sixty, 300)
	if len(sixty) != 60 || len(noneLines(got)) != 24 || len(toldLines(got)) != 36 || len(got) != 24+36+7 {
		t.Fatalf("of 60 lines DskFlow is %q", got)
	}
	for _, more := range []string{"0 read 0 1 1", "", "x", "2 read 1 5 1"} {
		for _, slow := range [][]int{flowSlow(), nil, {}, {4, 0, 0, 0}, {-1, 0, 0, 0}, {0, 0, 0}, {0, 0, 0, 0, 0}} {
			for _, n := range []int{math.MinInt, -1, 0, 9, 300, 301, math.MaxInt} {
				for _, lines := range [][]string{append(slices.Clone(sixty), more), slices.Repeat([]string{more}, 61), slices.Repeat([]string{more}, 1000)} {
					if got := flowed(t, slow, lines, n); !slices.Equal(got, []string{"long"}) {
						t.Fatalf("of %d lines DskFlow is %q", len(lines), got)
					}
				}
			}
		}
	}
	flowed(t, flowSlow(), slices.Repeat([]string{"x"}, 59), 1)
	flowed(t, flowSlow(), slices.Repeat([]string{"2 read 0 1 1"}, 59), 40)
}

// The first thing more than one may ask is none, and all behind it; lines that are none do not count.
func TestP50HowMuchOneMayAsk(t *testing.T) {
	for who := range 3 {
		line := fmt.Sprint(who, " read 0 1 1")
		for many := 10; many <= 15; many++ {
			lines := slices.Repeat([]string{line}, many)
			got := flowed(t, flowSlow(), lines, 300)
			if len(noneLines(got)) != max(0, many-12) || len(toldLines(got)) != min(many, 12) {
				t.Fatalf("where %d asks %d things DskFlow is %q", who, many, got)
			}
			lines = slices.Repeat([]string{line, "x", line + " ", "3 read 0 1 1"}, many)
			got = flowed(t, flowSlow(), lines[:min(60, len(lines))], 300)
			if len(toldLines(got)) != min(many, 12) {
				t.Fatalf("where %d asks %d things, with lines that are none between, DskFlow is %q", who, many, got)
			}
		}
	}
	lines := slices.Repeat([]string{"1 read 0 1 1"}, 13)
	lines = append(lines, "0 hold 0 2 1", "1 read 0 1 1", "x", "2 hold 1 3 1", "1 x", "1 write 0 1 1 1 1")
	if got := noneLines(flowed(t, flowSlow(), lines, 300)); !slices.Equal(got, []string{"line 13", "line 15", "line 16", "line 18", "line 19"}) {
		t.Fatalf("the lines %q are none", got)
	}
}

// noLines are those of noTexts behind who asks, and such on which who asks is wrong.
func noLines() []string {
	var all []string
	for k, text := range noTexts() {
		all = append(all, fmt.Sprint(k%3, " ", text), text)
	}
	for _, who := range []string{"", " ", "3", "4", "9", "10", "00", "01", "02", "12", "20", "000", "-0", "-1", "+0", "+1", "a", "x0", "0x", "0:", "0,", "\x00", "\x30\x00", "\xff", "\u0661", "\uff10", "1.", "1_", "256", "18446744073709551616", "9223372036854775807", "-9223372036854775808", "4294967296", "4294967297", strings.Repeat("0", 90), strings.Repeat("7", 300)} {
		all = append(all, who, who+" ", who+" read 0 1 1", who+" write 1 2 1 7 3")
	}
	for _, between := range []string{"", "  ", "   ", "\t", "\n", " \t", "\t ", "\x00", "\u00a0", " 0 ", " 1 ", "-"} {
		all = append(all, "0"+between+"read 0 1 1", "2"+between+"write 1 2 1 7 3")
	}
	for _, ahead := range []string{" ", "\t", "\n", "\x00", "\xef\xbb\xbf", "+", "-", "0", "0 "} {
		all = append(all, ahead+"0 read 0 1 1", ahead+"1 write 1 2 1 7 3")
	}
	return append(all, "0", "1", "2", "0 ", "1 ", "2  ", "0 0 read 0 1 1", "read 0 1 1", "read 0 0 1 1", "line 1", "told 0 0 okay", "asks 0 0 waits 0 out 0", "bus", "long")
}

// isNone fails unless a line is none by itself, and between lines that ask something, which it leaves as they are.
func isNone(t *testing.T, line string) {
	t.Helper()
	if got := flowed(t, flowSlow(), []string{line}, 6); !slices.Equal(noneLines(got), []string{"line 1"}) || len(got) != 8 {
		t.Fatalf("of %q DskFlow is %q", line, got)
	}
	around := []string{"0 write 0 1 1 300 3", line, line, "1 hold 0 1 1", line}
	got := flowed(t, flowSlow(), around, 60)
	want := []string{"line 2", "line 3", "line 5", "told 0 0 okay", "told 1 0 held 300"}
	if len(got) != 12 || !slices.Equal(got[:5], want) {
		t.Fatalf("with %q between DskFlow is %q", line, got)
	}
}

func TestP50LinesThatAreNone(t *testing.T) {
	for _, line := range noLines() {
		isNone(t, line)
	}
	for b := range 256 {
		one := string([]byte{byte(b)})
		isNone(t, one)
		isNone(t, "0 read 0 1 1"+one)
		isNone(t, one+"0 read 0 1 1")
		isNone(t, "0 read"+one+"0 1 1"+one)
		isNone(t, "0 "+one+"read 0 1 1")
		if one > "2" || one < "0" {
			isNone(t, one+" read 0 1 1")
		}
	}
}

// Which lines are none is told by numbers of one digit and of two, ahead of all else.
func TestP50WhichLinesAreNone(t *testing.T) {
	for size := range 61 {
		lines := slices.Repeat([]string{"x"}, size)
		var want []string
		for k := range size {
			want = append(want, fmt.Sprint("line ", k+1))
		}
		got := flowed(t, []int{0, 0, 0, 0}, lines, 3)
		if len(got) != size+7 || !slices.Equal(got[:size], want) {
			t.Fatalf("of %d lines that are none DskFlow is %q", size, got)
		}
		for k := range size {
			if k%7 == 3 {
				lines[k] = fmt.Sprint(k%3, " read 0 1 1")
			}
		}
		flowed(t, []int{0, 0, 0, 0}, lines, 30)
	}
}

// No line is near so long, so that these are none, also with just 80 bytes behind who asks.
func TestP50LinesOfEightyBytesAndMore(t *testing.T) {
	if got := flowed(t, flowSlow(), []string{"1 " + textAsSaid(longestAsk())}, 60); got[0] != "told 1 0 none" {
		t.Fatalf("of the longest line DskFlow is %q", got)
	}
	for _, size := range []int{78, 79, 80, 81, 82, 83, 100, 100000} {
		for _, text := range []string{textAsSaid(longestAsk()), "write 0 5 1 7 3"} {
			isNone(t, "1 "+text+strings.Repeat(" ", size-len(text)))
			isNone(t, "1 "+strings.Repeat(" ", size-len(text))+text)
			isNone(t, "1 "+text+strings.Repeat("0", size-len(text)))
			isNone(t, "1 "+text+strings.Repeat(" 1 3", (size-len(text))/4))
		}
		isNone(t, strings.Repeat("0", size))
		isNone(t, strings.Repeat(" ", size))
		isNone(t, "0 "+strings.Repeat("read ", size/5))
	}
}

// Lines of all sorts, of all who ask and nobody, with bytes turned by chance.
func TestP50LinesByChance(t *testing.T) {
	n := chance(50)
	asks := spokenAsks()
	told, none := 0, 0
	for range 3000 {
		var lines []string
		for range n.below(50) {
			line := lineOf(n.below(10)%4, asks[n.below(len(asks))])
			if n.below(5) == 0 {
				at := n.below(len(line))
				line = line[:at] + string([]byte{byte(n.below(256))}) + line[at+n.below(2):]
			}
			lines = append(lines, line)
		}
		got := flowed(t, []int{n.below(4), n.below(4), n.below(4), n.below(4)}, lines, n.below(120))
		told += len(toldLines(got))
		none += len(noneLines(got))
	}
	if told < 1000 || none < 1000 {
		t.Fatalf("%d were told, and %d lines none", told, none)
	}
}

func TestP95MoreCyclesTellNoLess(t *testing.T) {
	n := chance(95)
	asks := spokenAsks()
	all := flowLines()
	for range 40 {
		var lines []string
		for range 40 {
			lines = append(lines, lineOf(n.below(4), asks[n.below(len(asks))]))
		}
		all = append(all, lines)
	}
	for k, lines := range all {
		slow := []int{k % 4, (k + 1) % 4, k / 2 % 4, k / 3 % 4}
		was := []string{}
		grew := 0
		for cycles := 0; cycles <= 300; cycles += 1 + cycles/60*20 {
			told := toldLines(impl.DskFlow(slow, lines, cycles))
			if len(told) < len(was) || !slices.Equal(told[:len(was)], was) {
				t.Fatalf("behind %d cycles of %q, that is told, there is %q", cycles, was, told)
			}
			grew += len(told) - len(was)
			was = told
		}
		progs, _ := askedAsSaid(lines)
		if grew != len(progs[0])+len(progs[1])+len(progs[2]) {
			t.Fatalf("of %q just %d things were told", lines, grew)
		}
	}
}
