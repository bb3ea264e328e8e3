package tests

import (
	"slices"
	"testing"

	"loop.example/crossyard/impl"
)

// roomyHappens has things behind its end that would turn all, if they were seen.
func roomyHappens(events []impl.TlmEvent) []impl.TlmEvent {
	return roomyList(events, event(1, 1, 0), event(2, 0, 0), event(9, 9, 9), event(3, 0, 0))
}

// memoryLists are lists of what happens: what may, what may not, nothing, something twice, too many, and what is none.
func memoryLists(c impl.BusCfg) [][]impl.TlmEvent {
	all := [][]impl.TlmEvent{nil, {}, {event(1, 0, 0)}, {event(0, 0, 0)}, {event(2, 1, 0), event(1, 7, 0)}}
	if !impl.BusOk(c) {
		return all
	}
	events := wander(c, 3)
	all = append(all, events, events[:len(events)/2], mixed(events, 1))
	if len(events) > 0 {
		all = append(all, slices.Repeat(events, 200)[:200], slices.Repeat(events, 201)[:201])
	}
	return all
}

func memoryBuses() []impl.BusCfg {
	return slices.Concat(orderBuses(), wrongBuses()[:9])
}

func TestTrcNormLeavesItsArgumentsAndSharesNothing(t *testing.T) {
	for _, bus := range memoryBuses() {
		c := roomyBus(bus)
		for _, list := range memoryLists(bus) {
			events := roomyHappens(list)
			want := impl.TrcNorm(bus, list)
			keepApart(t, "TrcNorm", []any{c, events}, func() []any {
				got := impl.TrcNorm(c, events)
				if !slices.Equal(got, want) {
					t.Fatalf("TrcNorm of %v looks behind an end", list)
				}
				return []any{got}
			})
		}
	}
}

func TestTrcOfLeavesItsArgumentAndSharesNothing(t *testing.T) {
	for _, bus := range memoryBuses() {
		for _, list := range append(memoryLists(bus), anyHappens(90), slices.Repeat([]impl.TlmEvent{event(1, 1, 1)}, 40)) {
			events := roomyHappens(list)
			for _, who := range append(noWho, allWho...) {
				want := happensTo(list, who)
				keepApart(t, "TrcOf", []any{events}, func() []any {
					got := impl.TrcOf(events, who)
					if !slices.Equal(got, want) {
						t.Fatalf("TrcOf of %v looks behind an end", list)
					}
					return []any{got}
				})
			}
		}
	}
}

func TestTrcSameAndTrcCheckLeaveTheirArguments(t *testing.T) {
	for _, bus := range memoryBuses() {
		c := roomyBus(bus)
		for _, list := range memoryLists(bus) {
			a, b := roomyHappens(list), roomyHappens(impl.TrcNorm(bus, list))
			same := impl.TrcSame(bus, list, slices.Clone(b))
			wantAt, want := impl.TrcCheck(bus, list)
			keepApart(t, "TrcSame and TrcCheck", []any{c, a, b}, func() []any {
				if impl.TrcSame(c, a, b) != same || impl.TrcSame(c, b, a) != same {
					t.Fatalf("TrcSame of %v looks behind an end", list)
				}
				if at, why := impl.TrcCheck(c, a); at != wantAt || why != want {
					t.Fatalf("TrcCheck of %v looks behind an end", list)
				}
				return nil
			})
		}
	}
}

func TestTrcWhyAndTrcApartLeaveTheirArguments(t *testing.T) {
	for _, at := range memoryStands() {
		c, s := roomyBus(at.bus), roomyStand(at.state)
		events := append(eventsOf(at.bus), impl.TlmEvent{}, event(2, 3, 0), event(3, 0, -1))
		keepApart(t, "TrcWhy and TrcApart", []any{c, s}, func() []any {
			for k, e := range events {
				other := events[k*5%len(events)]
				if impl.TrcWhy(c, s, e) != impl.TrcWhy(at.bus, at.state, e) || impl.TrcApart(c, e, other) != impl.TrcApart(at.bus, e, other) {
					t.Fatalf("TrcWhy of %v, or TrcApart of it and %v, looks behind an end", e, other)
				}
			}
			return nil
		})
	}
}

// What was written into an answer must neither come back in the next one, nor into what it came from.
func TestOtherOrdersHandOutNothingThatWasSpoilt(t *testing.T) {
	for _, c := range orderBuses() {
		for _, events := range memoryLists(c) {
			was, bus := slices.Clone(events), copyBus(c)
			norm, own := impl.TrcNorm(c, events), happensTo(events, 1)
			want := slices.Clone(norm)
			for range 3 {
				got, of := impl.TrcNorm(c, events), impl.TrcOf(events, 1)
				if !slices.Equal(got, want) || !slices.Equal(of, own) {
					t.Fatalf("TrcNorm of %v is %v, and TrcOf %v", events, got, of)
				}
				spoilEvents(got)
				spoilEvents(of)
				if !slices.Equal(events, was) || !sameBus(c, bus) {
					t.Fatal("to write into an answer turns an argument")
				}
			}
			spoilEvents(norm)
		}
	}
}

// A list of one alone is another list, even where all that happens is of that one.
func TestTrcOfAllThatHappensIsAnotherList(t *testing.T) {
	events := []impl.TlmEvent{event(1, 2, 0), event(2, 2, 0), event(3, 2, 0)}
	got := impl.TrcOf(events, 2)
	spoilEvents(got)
	if !slices.Equal(events, []impl.TlmEvent{event(1, 2, 0), event(2, 2, 0), event(3, 2, 0)}) {
		t.Fatal("to write into TrcOf turns what happens")
	}
}
