package tests

import (
	"slices"

	"loop.example/crossyard/impl"
)

// counted is one list of what was counted: its name, how many numbers it has, and whether these are at most as many as there were cycles.
type counted struct {
	name   string
	many   int
	cycles bool
	of     func(n *impl.CntCount) *[]int
}

// countedLists are all lists of what was counted.
func countedLists() []counted {
	return []counted{
		{"Asked", 3, false, func(n *impl.CntCount) *[]int { return &n.Asked }},
		{"Told", 3, false, func(n *impl.CntCount) *[]int { return &n.Told }},
		{"Waits", 3, true, func(n *impl.CntCount) *[]int { return &n.Waits }},
		{"Let", 4, false, func(n *impl.CntCount) *[]int { return &n.Let }},
		{"Done", 4, false, func(n *impl.CntCount) *[]int { return &n.Done }},
		{"Busy", 4, true, func(n *impl.CntCount) *[]int { return &n.Busy }},
	}
}

func copyCount(n impl.CntCount) impl.CntCount {
	x := impl.CntCount{Cycles: n.Cycles}
	for _, l := range countedLists() {
		*l.of(&x) = slices.Clone(*l.of(&n))
	}
	return x
}

// sameCount takes the empty list and the nil list for the same.
func sameCount(a impl.CntCount, b impl.CntCount) bool {
	for _, l := range countedLists() {
		if !slices.Equal(*l.of(&a), *l.of(&b)) {
			return false
		}
	}
	return a.Cycles == b.Cycles
}

// isNoCount says whether nothing was counted: not noughts, but no lists.
func isNoCount(n impl.CntCount) bool { return sameCount(n, impl.CntCount{}) }

// noughtsAsSaid is what the document asks of CntNew, said without the program.
func noughtsAsSaid() impl.CntCount {
	return impl.CntCount{Asked: []int{0, 0, 0}, Told: []int{0, 0, 0}, Waits: []int{0, 0, 0}, Let: []int{0, 0, 0, 0}, Done: []int{0, 0, 0, 0}, Busy: []int{0, 0, 0, 0}}
}

// countOkAsSaid is what the document asks of CntOk, said without the program.
func countOkAsSaid(n impl.CntCount) bool {
	if n.Cycles < 0 || n.Cycles > 9999 {
		return false
	}
	for _, l := range countedLists() {
		list := *l.of(&n)
		if len(list) != l.many {
			return false
		}
		for _, k := range list {
			if k < 0 || k > 9999 || l.cycles && k > n.Cycles {
				return false
			}
		}
	}
	return true
}

// doneIn is what a store does in a cycle: its first thing, if that is no more to do behind the cycle.
func doneIn(s impl.CycState, x impl.CycState, at int) int {
	if len(s.Slaves[at].Pipe) == 0 {
		return 0
	}
	first := s.Slaves[at].Pipe[0]
	for _, j := range x.Slaves[at].Pipe {
		if j.Who == first.Who && j.N == first.N {
			return 0
		}
	}
	return 1
}

// countAsSaid is what the document asks of CntAdd, of what is all ok, said without the program: read off how a bus stands ahead of a cycle, and behind it.
func countAsSaid(n impl.CntCount, c impl.BusCfg, s impl.CycState, in impl.CycIn) impl.CntCount {
	x, behind := copyCount(n), cycleAsSaid(c, s, in)
	x.Cycles++
	for who, p := range s.Ports {
		x.Asked[who] += behind.Ports[who].Next - p.Next
		x.Told[who] += len(toldTo(behind.Told, who)) - len(toldTo(s.Told, who))
		if len(p.Queue) > 0 {
			x.Waits[who]++
		}
	}
	for at, v := range s.Slaves {
		if _, let := letInAt(s, behind, at); let {
			x.Let[at]++
		}
		x.Done[at] += doneIn(s, behind, at)
		if len(v.Pipe) > 0 {
			x.Busy[at]++
		}
	}
	return x
}

// countsAsSaid is what the document asks of CntRun, of what is all ok, said without the program.
func countsAsSaid(c impl.BusCfg, ins []impl.CycIn) impl.CntCount {
	n, s := noughtsAsSaid(), restAsSaid()
	for _, in := range ins {
		n, s = countAsSaid(n, c, s, in), cycleAsSaid(c, s, in)
	}
	return n
}

// spread is what was counted in so many cycles, by chance: all numbers that may be, also where no bus comes to them.
func spread(cycles int, seed int) impl.CntCount {
	n := chance(seed*4001 + 7)
	x := noughtsAsSaid()
	x.Cycles = cycles
	for _, l := range countedLists() {
		list := *l.of(&x)
		for k := range list {
			list[k] = n.below(10000)
			if l.cycles {
				list[k] = n.below(cycles + 1)
			}
		}
	}
	return x
}

// topCount has in each list as much as may be, in so many cycles.
func topCount(cycles int) impl.CntCount {
	x := noughtsAsSaid()
	x.Cycles = cycles
	for _, l := range countedLists() {
		list := *l.of(&x)
		for k := range list {
			list[k] = 9999
			if l.cycles {
				list[k] = cycles
			}
		}
	}
	return x
}

// okCounts are such as may be counted: noughts, little, much, and as much as may be.
func okCounts() []impl.CntCount {
	all := []impl.CntCount{noughtsAsSaid(), topCount(0), topCount(1), topCount(2498), topCount(2499), topCount(9998), topCount(9999)}
	for seed, cycles := range []int{0, 1, 2, 40, 300, 2497, 2498, 2499, 2500, 9999} {
		bare := noughtsAsSaid()
		bare.Cycles = cycles
		all = append(all, bare, spread(cycles, seed), spread(cycles, seed+50))
	}
	return all
}

// freshCounts are those to which a cycle more may be counted.
func freshCounts() []impl.CntCount {
	var all []impl.CntCount
	for _, n := range okCounts() {
		if n.Cycles < 2499 {
			all = append(all, n)
		}
	}
	return all
}

// countTurn is one part of what was counted turned about.
type countTurn struct {
	what string
	turn func(n *impl.CntCount)
}

// listTurns turn one list so that it has another size; what is behind its end makes no difference.
func listTurns() []countTurn {
	var all []countTurn
	for _, l := range countedLists() {
		add := func(what string, turn func(list []int) []int) {
			all = append(all, countTurn{l.name + " " + what, func(n *impl.CntCount) { *l.of(n) = turn(slices.Clone(*l.of(n))) }})
		}
		add("nil", func([]int) []int { return nil })
		add("empty", func(list []int) []int { return list[:0] })
		add("with one number", func(list []int) []int { return list[:1] })
		add("with a number less", func(list []int) []int { return list[:len(list)-1] })
		add("without its first number", func(list []int) []int { return list[1:] })
		add("with a nought more", func(list []int) []int { return append(list, 0) })
		add("with its last number twice", func(list []int) []int { return append(list, list[len(list)-1]) })
		add("twice", func(list []int) []int { return append(list, list...) })
	}
	return all
}

// numberTurns turn one number so that it is none, whatever all others are.
func numberTurns() []countTurn {
	var all []countTurn
	for _, x := range wildInts {
		if x >= 0 && x <= 9999 {
			continue
		}
		all = append(all, countTurn{"Cycles that are none", func(n *impl.CntCount) { n.Cycles = x }})
		for _, l := range countedLists() {
			for k := range l.many {
				all = append(all, countTurn{l.name + " with a number that is none", func(n *impl.CntCount) { (*l.of(n))[k] = x }})
			}
		}
	}
	for _, l := range countedLists() {
		for k := range l.many {
			all = append(all, countTurn{l.name + " below 0", func(n *impl.CntCount) { (*l.of(n))[k] = -1 }})
			all = append(all, countTurn{l.name + " beyond CntTop", func(n *impl.CntCount) { (*l.of(n))[k] = 10000 }})
			if l.cycles {
				all = append(all, countTurn{l.name + " beyond Cycles", func(n *impl.CntCount) { (*l.of(n))[k] = n.Cycles + 1 }})
			}
		}
	}
	return append(all,
		countTurn{"Cycles below 0", func(n *impl.CntCount) { n.Cycles = -1 }},
		countTurn{"Cycles beyond CntTop", func(n *impl.CntCount) { n.Cycles = 10000 }})
}

func countTurns() []countTurn { return append(listTurns(), numberTurns()...) }

// noMore says whether what was counted is, number by number, no more than something else.
func noMore(a impl.CntCount, b impl.CntCount) bool {
	for _, l := range countedLists() {
		first, second := *l.of(&a), *l.of(&b)
		if len(first) != len(second) {
			return false
		}
		for k := range first {
			if first[k] > second[k] {
				return false
			}
		}
	}
	return a.Cycles <= b.Cycles
}

func sumOf(list []int) int {
	sum := 0
	for _, k := range list {
		sum += k
	}
	return sum
}

// mayGoAsSaid says whether the first thing that waits of one may go to a store, said without the program.
func mayGoAsSaid(c impl.BusCfg, s impl.CycState, who int, at int) bool {
	p := s.Ports[who]
	if len(p.Queue) == 0 || len(p.Out) >= 4 || storeOf(c, who, p.Queue[0]) != at {
		return false
	}
	for _, j := range p.Out {
		if j.Left != at && c.Progs[who][j.N].Id == c.Progs[who][p.Queue[0]].Id {
			return false
		}
	}
	return true
}

// nextAsSaid is what the document asks of ArbNext, said without the program: who asks is written down twice, one behind the other, and looked through from behind the last one on.
func nextAsSaid(last int, asks []bool) int {
	if last < 0 || last >= len(asks) {
		return -1
	}
	at := slices.Index(slices.Concat(asks, asks)[last+1:], true)
	if at < 0 {
		return -1
	}
	if at += last + 1; at >= len(asks) {
		return at - len(asks)
	}
	return at
}
