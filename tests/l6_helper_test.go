package tests

import (
	"cmp"
	"slices"

	"loop.example/crossyard/impl"
)

// cycBuses are buses for cycles: those of what happens, and such as crowd one store, go to each store by turns, ask where there is none, and are as slow, and as fast, as may be.
func cycBuses() []impl.BusCfg {
	list := doMaps()[0]
	all := okBuses()
	crowd := func(who int) []impl.ReqReq {
		return []impl.ReqReq{writeOf(1, who, 3), named(1, readOf(1)), holdOf(1, 2), tryOf(1, 2, 7+who, 3), readOf(2), named(1, readOf(3)), writeOf(3, 40+who, 1)}
	}
	turns := func(who int) []impl.ReqReq {
		var asks []impl.ReqReq
		for k := range 12 {
			asks = append(asks, named((k/(who+1))%2, readOf([]int{1, 16, 33, 60}[(k+who)%4])))
		}
		return asks
	}
	for slow := range 4 {
		lat := []int{slow, slow, slow, slow}
		all = append(all, impl.BusCfg{Map: list, Lat: lat, Progs: [][]impl.ReqReq{crowd(0), crowd(1), crowd(2)}})
		all = append(all, impl.BusCfg{Map: list, Lat: lat, Progs: [][]impl.ReqReq{turns(0), turns(1), turns(2)}})
	}
	return append(all, busOf(list, crowd(0), turns(2), nil), busOf(list, nil, turns(0), nil), busOf(list, nil, nil, crowd(1)))
}

// comes is what comes from outside, each word behind the other: Ready, Stall, Send.
func comes(ready string, stall string, send string) impl.CycIn {
	words := func(text string) []bool {
		var all []bool
		for _, x := range text {
			all = append(all, x == '1')
		}
		return all
	}
	return impl.CycIn{Ready: words(ready), Stall: words(stall), Send: words(send)}
}

// nothingStands is what the document asks of InAll, said without the program.
func nothingStands() impl.CycIn { return comes("111", "0000", "111") }

// allStands is a cycle in which nobody is Ready, no store goes on, and nobody Sends.
func allStands() impl.CycIn { return comes("000", "1111", "000") }

// onesAt are each of what comes from outside in which one word alone is not as where nothing stands still.
func onesAt() []impl.CycIn {
	var all []impl.CycIn
	for who := range 3 {
		ready, send := nothingStands(), nothingStands()
		ready.Ready[who], send.Send[who] = false, false
		all = append(all, ready, send)
	}
	for at := range 4 {
		still := nothingStands()
		still.Stall[at] = true
		all = append(all, still)
	}
	return all
}

// insBy is so many cycles of what comes from outside, by chance; by its seed much stands still, or little, or just who is Ready, or who Sends, or which store goes on.
func insBy(seed int, many int) []impl.CycIn {
	n := chance(seed*6007 + 3)
	rare := []int{2, 5, 10, 2, 2, 2}[seed%6]
	holds := func(part int) bool { return n.below(10) < rare && (seed%6 < 3 || seed%6-3 == part) }
	var all []impl.CycIn
	for range many {
		in := nothingStands()
		for who := range 3 {
			in.Ready[who], in.Send[who] = !holds(0), !holds(1)
		}
		for at := range 4 {
			in.Stall[at] = holds(2)
		}
		all = append(all, in)
	}
	return all
}

func copyIn(in impl.CycIn) impl.CycIn {
	return impl.CycIn{Ready: slices.Clone(in.Ready), Stall: slices.Clone(in.Stall), Send: slices.Clone(in.Send)}
}

func copyCyc(s impl.CycState) impl.CycState {
	x := impl.CycState{Atm: copyState(s.Atm), Told: copyJobs(s.Told)}
	for _, p := range s.Ports {
		x.Ports = append(x.Ports, impl.CycPort{Next: p.Next, Queue: slices.Clone(p.Queue), Out: slices.Clone(p.Out), Last: p.Last})
	}
	for _, v := range s.Slaves {
		x.Slaves = append(x.Slaves, impl.CycSlave{Pipe: slices.Clone(v.Pipe), Done: copyJobs(v.Done), Last: v.Last})
	}
	return x
}

// sameCyc takes the empty list and the nil list for the same.
func sameCyc(a impl.CycState, b impl.CycState) bool {
	return sameState(a.Atm, b.Atm) && slices.EqualFunc(a.Ports, b.Ports, samePort) && slices.EqualFunc(a.Slaves, b.Slaves, sameSlave) && sameJobs(a.Told, b.Told)
}

func samePort(a impl.CycPort, b impl.CycPort) bool {
	return a.Next == b.Next && slices.Equal(a.Queue, b.Queue) && slices.Equal(a.Out, b.Out) && a.Last == b.Last
}

func sameSlave(a impl.CycSlave, b impl.CycSlave) bool {
	return slices.Equal(a.Pipe, b.Pipe) && sameJobs(a.Done, b.Done) && a.Last == b.Last
}

// restAsSaid is what the document asks of CycNew, said without the program.
func restAsSaid() impl.CycState {
	s := impl.CycState{Atm: startAsSaid().Atm}
	for range 3 {
		s.Ports = append(s.Ports, impl.CycPort{Last: 3})
	}
	for range 4 {
		s.Slaves = append(s.Slaves, impl.CycSlave{Last: 2})
	}
	return s
}

// absAsSaid is what the document asks of CycAbs, said without the program.
func absAsSaid(s impl.CycState) impl.TlmState {
	x := impl.TlmState{Atm: copyState(s.Atm), Told: copyJobs(s.Told)}
	for who, p := range s.Ports {
		x.Asked = append(x.Asked, p.Next)
		for _, n := range p.Queue {
			x.Wait = append(x.Wait, impl.TlmJob{Who: who, N: n})
		}
	}
	for _, v := range s.Slaves {
		for _, j := range v.Pipe {
			x.Wait = append(x.Wait, impl.TlmJob{Who: j.Who, N: j.N})
		}
		x.Done = append(x.Done, copyJobs(v.Done)...)
	}
	order := func(a impl.TlmJob, b impl.TlmJob) int {
		return cmp.Or(cmp.Compare(a.Who, b.Who), cmp.Compare(a.N, b.N))
	}
	slices.SortStableFunc(x.Wait, order)
	slices.SortStableFunc(x.Done, order)
	return x
}

// storeOf is the store of which something is asked, said without the program.
func storeOf(c impl.BusCfg, who int, n int) int {
	return storeOfAll(c.Map, burstOf(c.Progs[who][n]))
}

// cycleAsSaid is what the document asks of CycStep, of what is all ok, said without the program: its four parts, one behind the other.
func cycleAsSaid(c impl.BusCfg, s impl.CycState, in impl.CycIn) impl.CycState {
	x := copyCyc(s)
	for who := range 3 {
		if in.Ready[who] {
			tellAsSaid(&x, who)
		}
	}
	for at := range 4 {
		if !in.Stall[at] {
			goOnAsSaid(c, &x, at)
		}
	}
	inside := map[int]int{}
	for at := range 4 {
		if len(x.Slaves[at].Pipe) < 2 {
			letInAsSaid(c, &x, at, inside)
		}
	}
	for who := range 3 {
		p := &x.Ports[who]
		if in.Send[who] && len(p.Queue) < 2 && p.Next < len(c.Progs[who]) {
			p.Queue = append(p.Queue, p.Next)
			p.Next++
		}
	}
	return x
}

func tellAsSaid(x *impl.CycState, who int) {
	p := &x.Ports[who]
	for _, at := range [][]int{{1, 2, 3, 0}, {2, 3, 0, 1}, {3, 0, 1, 2}, {0, 1, 2, 3}}[p.Last] {
		v := &x.Slaves[at]
		if len(v.Done) == 0 || v.Done[0].Who != who {
			continue
		}
		j := v.Done[0]
		v.Done = slices.Delete(v.Done, 0, 1)
		x.Told = append(x.Told, j)
		place := slices.Index(p.Out, impl.CycJob{Who: who, N: j.N, Left: at})
		p.Out = slices.Delete(p.Out, place, place+1)
		p.Last = at
		return
	}
}

func goOnAsSaid(c impl.BusCfg, x *impl.CycState, at int) {
	v := &x.Slaves[at]
	if len(v.Pipe) == 0 {
		return
	}
	j := v.Pipe[0]
	if j.Left > 0 {
		v.Pipe[0].Left = j.Left - 1
		return
	}
	if len(v.Done) == 2 {
		return
	}
	done := impl.TlmJob{Who: j.Who, N: j.N}
	x.Atm, done.Rsp = doneAtOnce(c.Map, x.Atm, j.Who, c.Progs[j.Who][j.N])
	v.Done = append(v.Done, done)
	v.Pipe = slices.Delete(v.Pipe, 0, 1)
}

func letInAsSaid(c impl.BusCfg, x *impl.CycState, at int, inside map[int]int) {
	v := &x.Slaves[at]
	for _, who := range [][]int{{1, 2, 0}, {2, 0, 1}, {0, 1, 2}}[v.Last] {
		p := &x.Ports[who]
		if inside[who] > 0 || len(p.Queue) == 0 || storeOf(c, who, p.Queue[0]) != at || len(p.Out) == 4 {
			continue
		}
		n := p.Queue[0]
		elsewhere := false
		for _, j := range p.Out {
			elsewhere = elsewhere || c.Progs[who][j.N].Id == c.Progs[who][n].Id && j.Left != at
		}
		if elsewhere {
			continue
		}
		inside[who]++
		p.Queue = slices.Delete(p.Queue, 0, 1)
		p.Out = append(p.Out, impl.CycJob{Who: who, N: n, Left: at})
		v.Pipe = append(v.Pipe, impl.CycJob{Who: who, N: n, Left: c.Lat[at]})
		v.Last = who
		return
	}
}

func cyclesAsSaid(c impl.BusCfg, s impl.CycState, ins []impl.CycIn) impl.CycState {
	for _, in := range ins {
		s = cycleAsSaid(c, s, in)
	}
	return s
}

// standsInCycles is how a bus stands ahead of, and behind, each cycle from its beginning on.
func standsInCycles(c impl.BusCfg, ins []impl.CycIn) []impl.CycState {
	all := []impl.CycState{restAsSaid()}
	for _, in := range ins {
		all = append(all, cycleAsSaid(c, all[len(all)-1], in))
	}
	return all
}

// allTold says whether all that is asked was told.
func allTold(c impl.BusCfg, s impl.CycState) bool {
	many := 0
	for _, prog := range c.Progs {
		many += len(prog)
	}
	return len(s.Told) == many
}

// strewnCyc is a bus that may stand so, by chance, also where it cannot come to stand from its beginning on.
func strewnCyc(c impl.BusCfg, seed int) impl.CycState {
	n := chance(seed*9973 + 11)
	s := restAsSaid()
	s.Atm = copyState(okStates()[n.below(len(okStates()))])
	var ways [4][]impl.TlmJob
	for who, prog := range c.Progs {
		p := &s.Ports[who]
		p.Next, p.Last = n.below(len(prog)+1), n.below(4)
		waits := n.below(min(p.Next, 2) + 1)
		for k := range p.Next {
			j := impl.TlmJob{Who: who, N: k, Rsp: impl.RspRsp{Id: prog[k].Id, Code: 1 + n.below(4), Data: risingWords()[:n.below(5)]}}
			at := storeOf(c, who, k)
			torn := slices.ContainsFunc(p.Out, func(o impl.CycJob) bool { return prog[o.N].Id == prog[k].Id && o.Left != at })
			switch {
			case k >= p.Next-waits:
				p.Queue = append(p.Queue, k)
			case !torn && len(p.Out) < 4 && len(ways[at]) < 4 && n.below(3) > 0:
				p.Out = append(p.Out, impl.CycJob{Who: who, N: k, Left: at})
				ways[at] = mixedIn(ways[at], j, &n)
			default:
				s.Told = slices.Insert(s.Told, n.below(len(s.Told)+1), j)
			}
		}
	}
	for at, jobs := range ways {
		s.Slaves[at] = strewnSlave(jobs, c.Lat[at], &n)
	}
	return copyCyc(s)
}

// mixedIn puts a job anywhere behind the last one of the same who asks.
func mixedIn(list []impl.TlmJob, j impl.TlmJob, n *chance) []impl.TlmJob {
	least := 0
	for k, other := range list {
		if other.Who == j.Who {
			least = k + 1
		}
	}
	return slices.Insert(list, least+n.below(len(list)-least+1), j)
}

func strewnSlave(jobs []impl.TlmJob, slow int, n *chance) impl.CycSlave {
	done := max(0, len(jobs)-2)
	done += n.below(min(2, len(jobs)) - done + 1)
	v := impl.CycSlave{Done: jobs[:done], Last: n.below(3)}
	for _, j := range jobs[done:] {
		v.Pipe = append(v.Pipe, impl.CycJob{Who: j.Who, N: j.N, Left: slow})
	}
	if len(v.Pipe) > 0 {
		v.Pipe[0].Left = n.below(slow + 1)
	}
	return v
}

// cycStand is a bus, and how it stands between two cycles.
type cycStand struct {
	bus   impl.BusCfg
	state impl.CycState
}

// eachCycStand goes through many ways in which buses may stand: from their beginning on, and strewn.
func eachCycStand(look func(c impl.BusCfg, s impl.CycState)) {
	for _, c := range cycBuses() {
		for seed := range 6 {
			for _, s := range standsInCycles(c, insBy(seed, 60)) {
				look(c, s)
			}
		}
		for seed := range 60 {
			look(c, strewnCyc(c, seed))
		}
	}
}
