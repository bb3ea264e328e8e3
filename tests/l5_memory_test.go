package tests

import (
	"fmt"
	"reflect"
	"runtime"
	"slices"
	"strings"
	"testing"

	"loop.example/crossyard/impl"
)

// room is the memory of a list, spare room included.
type room struct {
	begin uintptr
	end   uintptr
}

// roomsOf is the memory of all lists of something, of lists in lists, and of what stands in spare room.
func roomsOf(v reflect.Value) []room {
	var all []room
	switch v.Kind() {
	case reflect.Struct:
		for k := range v.NumField() {
			all = append(all, roomsOf(v.Field(k))...)
		}
	case reflect.Slice:
		if v.Cap() == 0 {
			return nil
		}
		all = append(all, room{v.Pointer(), v.Pointer() + uintptr(v.Cap())*v.Type().Elem().Size()})
		whole := v.Slice(0, v.Cap())
		for k := range whole.Len() {
			all = append(all, roomsOf(whole.Index(k))...)
		}
	}
	return all
}

// textOf is all of something, and what stands behind the ends of its lists.
func textOf(v reflect.Value) string {
	switch v.Kind() {
	case reflect.Struct:
		var all []string
		for k := range v.NumField() {
			all = append(all, textOf(v.Field(k)))
		}
		return "{" + strings.Join(all, " ") + "}"
	case reflect.Slice:
		all := []string{fmt.Sprint(v.Len())}
		whole := v.Slice(0, v.Cap())
		for k := range whole.Len() {
			all = append(all, textOf(whole.Index(k)))
		}
		return "[" + strings.Join(all, " ") + "]"
	}
	return fmt.Sprint(v)
}

func allTexts(all []any) string {
	var texts []string
	for _, a := range all {
		texts = append(texts, textOf(reflect.ValueOf(a)))
	}
	return strings.Join(texts, "\n")
}

// meets says whether any of some memory is that of some other, or twice in it.
func meets(rooms []room, others []room) bool {
	over := func(a room, list []room) bool {
		return slices.ContainsFunc(list, func(b room) bool { return a.begin < b.end && b.begin < a.end })
	}
	for k, a := range rooms {
		if over(a, others) || over(a, rooms[:k]) {
			return true
		}
	}
	return false
}

// keepApart fails unless a call leaves its arguments, and its answers, of two calls, share no memory with these, and with one another.
func keepApart(t *testing.T, what string, args []any, call func() []any) {
	t.Helper()
	was := allTexts(args)
	var rooms []room
	for _, a := range args {
		rooms = append(rooms, roomsOf(reflect.ValueOf(a))...)
	}
	one, two := call(), call()
	if allTexts(args) != was {
		t.Fatalf("%s turned its arguments", what)
	}
	if fmt.Sprint(one...) != fmt.Sprint(two...) {
		t.Fatalf("%s is %v, and then %v", what, one, two)
	}
	for _, answer := range append(one, two...) {
		mine := roomsOf(reflect.ValueOf(answer))
		if meets(mine, rooms) {
			t.Fatalf("%s: two lists share memory", what)
		}
		rooms = append(rooms, mine...)
	}
	runtime.KeepAlive(args)
	runtime.KeepAlive(one)
	runtime.KeepAlive(two)
}

// roomyList is the same with something behind its end.
func roomyList[T any](list []T, behind ...T) []T {
	return append(slices.Clone(list), behind...)[:len(list)]
}

// roomyJobs has jobs behind its end that would turn all, if they were seen.
func roomyJobs(list []impl.TlmJob) []impl.TlmJob {
	list = copyJobs(list)
	for k := range list {
		list[k].Rsp.Data = roomy(list[k].Rsp.Data)
	}
	return roomyList(list, impl.TlmJob{Who: 9, N: -9}, impl.TlmJob{Rsp: impl.RspRsp{Data: []int{1, 2, 3}}}, impl.TlmJob{})
}

func roomyStand(s impl.TlmState) impl.TlmState {
	return impl.TlmState{Atm: roomyState(s.Atm), Asked: roomy(s.Asked), Wait: roomyJobs(s.Wait), Done: roomyJobs(s.Done), Told: roomyJobs(s.Told)}
}

func roomyBus(c impl.BusCfg) impl.BusCfg {
	x := impl.BusCfg{Map: roomyList(c.Map, impl.MapRange{From: 1, To: 2, Slave: 1}), Lat: roomy(c.Lat)}
	for _, prog := range c.Progs {
		var all []impl.ReqReq
		for _, r := range prog {
			all = append(all, roomyAsk(r))
		}
		x.Progs = append(x.Progs, roomyList(all, impl.ReqReq{Id: -9}, readOf(1)))
	}
	x.Progs = roomyList(x.Progs, []impl.ReqReq{readOf(3)}, nil)
	return x
}

// memoryStands are buses at their beginning, midway, at their end, strewn, and where they may not stand so.
func memoryStands() []stand {
	var all []stand
	for _, c := range okBuses() {
		along := standsAlong(c, wander(c, 2))
		for k := 0; k < len(along); k += 15 {
			all = append(all, along[k])
		}
		all = append(all, along[len(along)-1], stand{bus: c, state: strewn(c, 3)})
	}
	c, s := midway()
	twice := copyStand(s)
	twice.Told = append(twice.Told, twice.Told[0])
	return append(all, stand{bus: c, state: s}, stand{bus: c, state: twice}, stand{bus: c}, stand{state: s}, stand{bus: wrongBuses()[3], state: s})
}

func TestTlmStepLeavesItsArgumentsAndSharesNothing(t *testing.T) {
	ways := map[[2]bool]int{}
	for _, at := range memoryStands() {
		c, s := roomyBus(at.bus), roomyStand(at.state)
		events := append(eventsOf(at.bus), impl.TlmEvent{}, impl.TlmEvent{Kind: 2, Who: 3}, impl.TlmEvent{Kind: 3, N: -1})
		for _, e := range events {
			want, may := impl.TlmStep(at.bus, at.state, e)
			ways[[2]bool{may, len(want.Asked) == 0}]++
			keepApart(t, "TlmStep", []any{c, s}, func() []any {
				got, ok := impl.TlmStep(c, s, e)
				if ok != may || !sameStand(got, want) {
					t.Fatalf("TlmStep of %v looks behind an end", e)
				}
				return []any{got}
			})
		}
	}
	if len(ways) != 3 {
		t.Fatalf("not what may, what may not, and what may not stand so, was looked at: %v", ways)
	}
}

func TestTlmRunLeavesItsArgumentsAndSharesNothing(t *testing.T) {
	for k, at := range memoryStands() {
		c, s := roomyBus(at.bus), roomyStand(at.state)
		rest := eventsOf(at.bus)
		if len(at.events) > 0 {
			rest = wander(at.bus, 2)[len(at.events):]
		}
		for _, size := range []int{0, 1, len(rest) / 2, len(rest)} {
			events := roomyList(rest[:min(size, len(rest))], impl.TlmEvent{Kind: 1, Who: 1}, impl.TlmEvent{Kind: 7})
			want, many := impl.TlmRun(at.bus, at.state, slices.Clone(events))
			keepApart(t, "TlmRun", []any{c, s, events}, func() []any {
				got, n := impl.TlmRun(c, s, events)
				if n != many || !sameStand(got, want) {
					t.Fatalf("TlmRun of %v, from the %d. on, looks behind an end", events, k)
				}
				return []any{got}
			})
		}
	}
}

func TestBusOkAndTlmOkLeaveWhatTheyAreGiven(t *testing.T) {
	for _, at := range memoryStands() {
		c, s := roomyBus(at.bus), roomyStand(at.state)
		keepApart(t, "BusOk and TlmOk", []any{c, s}, func() []any {
			if impl.BusOk(c) != impl.BusOk(at.bus) || impl.TlmOk(c, s) != impl.TlmOk(at.bus, at.state) {
				t.Fatal("BusOk, or TlmOk, looks behind an end")
			}
			return nil
		})
	}
}

func TestTlmNewIsNewMemory(t *testing.T) {
	keepApart(t, "TlmNew", nil, func() []any { return []any{impl.TlmNew()} })
	spoilStand(impl.TlmNew())
	if s := impl.TlmNew(); !sameStand(s, startAsSaid()) {
		t.Fatalf("TlmNew hands out what was written into an answer: %v", s)
	}
}

// spoilStand writes into all lists of a bus.
func spoilStand(s impl.TlmState) {
	for _, list := range [][]impl.TlmJob{s.Wait, s.Done, s.Told} {
		for k := range list {
			spoil(list[k].Rsp.Data)
			list[k].Who, list[k].N = -7, -7
		}
	}
	spoil(s.Atm.Mem.Words)
	spoil(s.Atm.Holds)
	spoil(s.Asked)
}

// What was written into an answer must neither come back in the next one, nor into what it came from.
func TestTlmStepHandsOutNothingThatWasSpoilt(t *testing.T) {
	for _, at := range memoryStands() {
		was := copyStand(at.state)
		for _, e := range append(eventsOf(at.bus), impl.TlmEvent{}) {
			want, may := impl.TlmStep(at.bus, at.state, e)
			want = copyStand(want)
			for range 2 {
				got, ok := impl.TlmStep(at.bus, at.state, e)
				if ok != may || !sameStand(got, want) || !sameStand(at.state, was) {
					t.Fatalf("TlmStep of %v is %v, not %v", e, got, want)
				}
				spoilStand(got)
			}
		}
	}
}
