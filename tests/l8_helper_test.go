package tests

import (
	"fmt"
	"regexp"
	"slices"
	"strconv"
	"strings"

	"loop.example/crossyard/impl"
)

var (
	kindWords = []string{"read", "write", "hold", "try"}
	codeWords = []string{"okay", "held", "deny", "none"}
)

// askedLine is how what is asked is written, but for how many words there must be, and how far it goes.
var askedLine = regexp.MustCompile(`^(read|write|hold|try) ([01]) ([0-9]|[1-5][0-9]|6[0-3]) ([124])( round)?((?: (?:0|[1-9][0-9]{0,4}) [0-3])*)$`)

// textAsSaid is what the document asks of ReqText, of what is ok, said without the program.
func textAsSaid(r impl.ReqReq) string {
	text := fmt.Sprintf("%s %d %d %d", kindWords[r.Kind-1], r.Id, r.Addr, r.Many)
	if r.Wrap {
		text += " round"
	}
	for k := range r.Data {
		text += fmt.Sprintf(" %d %d", r.Data[k], r.Lanes[k])
	}
	return text
}

// parseAsSaid is what the document asks of ReqParse, said without the program.
func parseAsSaid(line string) (impl.ReqReq, bool) {
	part := askedLine.FindStringSubmatch(line)
	if part == nil || len(line) > 80 {
		return impl.ReqReq{}, false
	}
	number := func(word string) int {
		n, _ := strconv.Atoi(word)
		return n
	}
	r := impl.ReqReq{Id: number(part[2]), Kind: slices.Index(kindWords, part[1]) + 1, Addr: number(part[3]), Many: number(part[4]), Wrap: part[5] != ""}
	for k, word := range strings.Fields(part[6]) {
		if k%2 == 0 {
			r.Data = append(r.Data, number(word))
		} else {
			r.Lanes = append(r.Lanes, number(word))
		}
	}
	needs := 0
	if hasWords(r.Kind) {
		needs = r.Many
	}
	if len(r.Data) != needs || slices.ContainsFunc(r.Data, func(n int) bool { return n > 65535 }) || isOne(r.Kind) && r.Many != 1 || !goesOn(r.Addr, r.Many, r.Wrap) {
		return impl.ReqReq{}, false
	}
	return r, true
}

// cameAsSaid is what the document asks of RspText, of what is ok, said without the program.
func cameAsSaid(r impl.RspRsp) string {
	text := codeWords[r.Code-1]
	for _, word := range r.Data {
		text += fmt.Sprint(" ", word)
	}
	return text
}

// boardAsSaid is what the document asks of DskBoard, of what may stand so, said without the program.
func boardAsSaid(s impl.CycState) []string {
	var all []string
	for _, j := range s.Told {
		all = append(all, fmt.Sprintf("told %d %d %s", j.Who, j.N, cameAsSaid(j.Rsp)))
	}
	for who, p := range s.Ports {
		all = append(all, fmt.Sprintf("asks %d %d waits %d out %d", who, p.Next, len(p.Queue), len(p.Out)))
	}
	for at, v := range s.Slaves {
		all = append(all, fmt.Sprintf("store %d does %d done %d", at, len(v.Pipe), len(v.Done)))
	}
	return all
}

// flowBus is the bus that the document says of DskFlow, on which nobody asks.
func flowBus(slow ...int) impl.BusCfg {
	return impl.BusCfg{
		Map:   []impl.MapRange{{From: 0, To: 15, Slave: 0}, {From: 16, To: 31, Slave: 1}, {From: 32, To: 47, Slave: 2, Only: true}},
		Lat:   slow,
		Progs: make([][]impl.ReqReq, 3),
	}
}

// askedAsSaid is what lines ask on a bus, and which are none, said without the program.
func askedAsSaid(lines []string) ([][]impl.ReqReq, []string) {
	progs := make([][]impl.ReqReq, 3)
	var none []string
	for k, line := range lines {
		who := -1
		if len(line) > 1 && line[1] == ' ' {
			who = strings.IndexByte("012", line[0])
		}
		if who >= 0 && len(progs[who]) < 12 {
			if r, ok := parseAsSaid(line[2:]); ok {
				progs[who] = append(progs[who], r)
				continue
			}
		}
		none = append(none, fmt.Sprintf("line %d", k+1))
	}
	return progs, none
}

// flowAsSaid is what the document asks of DskFlow, said without the program.
func flowAsSaid(slow []int, lines []string, n int) []string {
	if len(lines) > 60 {
		return []string{"long"}
	}
	if len(slow) != 4 || n < 0 || n > 300 || slices.ContainsFunc(slow, func(k int) bool { return k < 0 || k > 3 }) {
		return []string{"bus"}
	}
	c := flowBus(slow...)
	progs, none := askedAsSaid(lines)
	c.Progs = progs
	s := restAsSaid()
	for range n {
		s = cycleAsSaid(c, s, nothingStands())
	}
	return append(none, boardAsSaid(s)...)
}

// longestAsk has the longest text that there is.
func longestAsk() impl.ReqReq {
	return impl.ReqReq{Id: 1, Kind: impl.ReqWrite, Addr: 63, Many: 4, Wrap: true, Data: []int{65535, 10000, 65534, 12345}, Lanes: []int{3, 2, 1, 0}}
}

// spokenAsks are all okAsks, and such of which one word, or its lanes, are at an edge.
func spokenAsks() []impl.ReqReq {
	all := append(okAsks(), longestAsk())
	for _, r := range someAsks() {
		for k := range r.Data {
			for _, word := range append([]int{9, 10, 99, 100, 999, 1000, 9999, 10000}, someWords...) {
				x := copyAsk(r)
				x.Data[k] = word
				all = append(all, x)
			}
			for lanes := range 4 {
				x := copyAsk(r)
				x.Lanes[k] = lanes
				all = append(all, x)
			}
		}
	}
	return all
}

// lineOf is who asks what.
func lineOf(who int, r impl.ReqReq) string {
	return fmt.Sprint(who, " ", textAsSaid(r))
}

// linesOf is what all ask on a bus, by turns.
func linesOf(progs [][]impl.ReqReq) []string {
	var all []string
	for n := range 12 {
		for who, prog := range progs {
			if n < len(prog) {
				all = append(all, lineOf(who, prog[n]))
			}
		}
	}
	return all
}

// exampleLines are those of the document.
func exampleLines() []string {
	return []string{
		"0 write 0 1 1 300 3",
		"1 hold 0 1 1",
		"0 read 1 16 1",
		"1 try 0 1 1 9 1",
		"2 write 0 33 1 1 3",
		"2 read 1 60 2",
	}
}

// toldLines are the lines of what was told.
func toldLines(board []string) []string {
	return slices.DeleteFunc(slices.Clone(board), func(line string) bool { return !strings.HasPrefix(line, "told ") })
}

// noneLines are the lines of lines that are none.
func noneLines(board []string) []string {
	return slices.DeleteFunc(slices.Clone(board), func(line string) bool { return !strings.HasPrefix(line, "line ") })
}

// noTexts are of nothing that is asked.
func noTexts() []string {
	all := []string{"", " ", "  ", "\t", "\n", "\x00", "\xff", "0", "1 0", "round", "okay 5", "told 0 0 okay"}
	for _, kind := range []string{"", "rea", "rd", "r", "writ", "hol", "tr", "reads", "read1", "readread", "writer", "holds", "trying", "READ", "Read", "reaD", "WRITE", "Hold", "TRY", "rėad", "rea\x00", "\x00read", "read\xff", "swap", "none", "1", "-1"} {
		all = append(all, kind+" 0 5 1", kind+" 0 5 1 7 3")
	}
	for _, kind := range kindWords {
		all = append(all, kind, kind+" ", kind+" 0", kind+" 0 5", kind+" 0 5 ", kind+" 0 5 1 ", kind+" 0 5 1 7 3 ", kind+" 0 5 1 7", kind+" 0 5 1 7 ", kind+" 0 5 1 7 3 8", kind+" 0 5 1 7 3 8 2", kind+" 0 5 1 7 3 8 2 9 1")
	}
	for _, n := range []string{"", "00", "01", "-0", "-1", "+0", "+1", "2", "3", "9", "10", "1.0", "0x1", "1e0", "1_0", "_1", "a", "-", "+", "18446744073709551616", "9223372036854775807", "9223372036854775808", "-9223372036854775808", "-9223372036854775809", "4294967296", "4294967297", strings.Repeat("9", 40), strings.Repeat("0", 40), "\u0660", "\uff11", "\x001", "1\x00", "\xb9"} {
		all = append(all, "read "+n+" 5 1", "write "+n+" 5 1 7 3")
	}
	for _, n := range []string{"", "00", "05", "063", "-0", "-5", "+5", "64", "65", "100", "630", "18446744073709551621", "9223372036854775807", "9223372036854775808", "4294967301", strings.Repeat("6", 50), "5\x00", "\xb5"} {
		all = append(all, "read 0 "+n+" 1", "write 0 "+n+" 1 7 3", "hold 0 "+n+" 1")
	}
	for _, n := range []string{"", "00", "01", "-0", "-1", "+1", "0", "3", "5", "8", "10", "40", "18446744073709551617", "9223372036854775807", "9223372036854775808", "4294967297", "1\x00", "\xb1"} {
		all = append(all, "read 0 5 "+n, "write 0 5 "+n+" 7 3", "try 0 5 "+n+" 7 3", "write 0 5 "+n+" 7 3 7 3 7 3")
	}
	for _, n := range []string{"", "00", "07", "065535", "-0", "-7", "+7", "65536", "70000", "99999", "100000", "655350", "18446744073709551623", "9223372036854775807", "9223372036854775808", "4294967303", strings.Repeat("1", 45), "7\x00", "\xb7"} {
		all = append(all, "write 0 5 1 "+n+" 3", "try 0 5 1 "+n+" 3", "write 0 4 2 1 1 "+n+" 3")
	}
	for _, n := range []string{"", "00", "03", "-0", "-3", "+3", "4", "5", "7", "10", "33", "18446744073709551619", "9223372036854775808", "3\x00", "\xb3"} {
		all = append(all, "write 0 5 1 7 "+n, "try 0 5 1 7 "+n, "write 0 4 2 7 "+n+" 1 1")
	}
	for _, bad := range []string{"read 0 62 4", "read 0 63 2", "write 0 63 2 1 1 2 2", "write 0 61 4 1 1 2 2 3 3 4 0", "hold 0 5 2", "hold 0 5 4 round", "try 0 5 2 1 1 2 2", "try 0 4 2 round 1 1 2 2", "try 0 5 4 1 1 2 2 3 3 4 0"} {
		all = append(all, bad)
	}
	for _, bad := range []string{"read 0 5 1 7 3", "read 0 4 2 7 3 8 3", "hold 0 5 1 7 3", "write 0 5 1", "try 0 5 1", "write 0 4 2 7 3", "write 0 4 4 7 3 8 3 9 3", "write 0 5 1 7 3 8 3", "write 0 4 2 7 8", "write 0 4 2 7 8 3"} {
		all = append(all, bad, strings.Replace(bad, " 1", " 1 round", 1))
	}
	return append(all, spoiltTexts()...)
}

// spoiltTexts are such that ask something but for their spaces, or for where `round` stands.
func spoiltTexts() []string {
	var all []string
	for _, text := range []string{"read 0 5 1", "read 1 62 4 round", "write 1 4 2 round 7 3 8 0", "try 0 5 1 9 1", "hold 1 63 1"} {
		words := strings.Split(text, " ")
		for k := 1; k < len(words); k++ {
			for _, between := range []string{"", "  ", "\t", "\n", "\r\n", " \t", "\t ", "\x00", " \x00", ",", "\u00a0", "_", " - "} {
				all = append(all, strings.Join(words[:k], " ")+between+strings.Join(words[k:], " "))
			}
		}
		for _, end := range []string{" ", "  ", "\t", "\n", "\r", "\r\n", "\x00", "\xff", "\x80", "\u00a0", ".", " round", " round round"} {
			all = append(all, text+end, end+text)
		}
		for k := 1; k <= len(words); k++ {
			for _, round := range []string{"round", "Round", "ROUND", "roun", "rounds", "wrap", "true", "1", "", "round round"} {
				all = append(all, strings.Join(slices.Insert(slices.Clone(words), k, round), " "))
			}
		}
		for k := range words {
			all = append(all, strings.Join(slices.Delete(slices.Clone(words), k, k+1), " "), strings.Join(slices.Insert(slices.Clone(words), k, words[k]), " "))
		}
	}
	return slices.DeleteFunc(all, func(text string) bool {
		_, ok := parseAsSaid(text)
		return ok
	})
}
