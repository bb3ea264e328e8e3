package tests

import (
	"math"
	"slices"

	"loop.example/crossyard/impl"
)

// wildInts are numbers at the edges of all that the program may be given.
var wildInts = []int{math.MinInt, math.MinInt + 1, -65, -64, -4, -2, -1, 0, 1, 2, 3, 4, 5, 8, 15, 16, 31, 32, 60, 61, 62, 63, 64, 65, 1 << 32, math.MaxInt - 3, math.MaxInt - 1, math.MaxInt}

// burstSizes are all numbers of words that there may be.
var burstSizes = []int{1, 2, 4}

// okMaps are lists of ranges that are ok: none and all, touching and apart, rising and not, of one address and of all.
func okMaps() [][]impl.MapRange {
	return [][]impl.MapRange{
		nil,
		{},
		{{From: 0, To: 63, Slave: 2, Only: true}},
		{{From: 0, To: 0, Slave: 1}},
		{{From: 63, To: 63, Slave: 0}},
		{{From: 0, To: 15, Slave: 0}, {From: 20, To: 31, Slave: 2}},
		{{From: 32, To: 63, Slave: 1}, {From: 0, To: 31, Slave: 0}},
		{{From: 5, To: 5, Slave: 2}, {From: 4, To: 4, Slave: 1}, {From: 6, To: 6, Slave: 0}},
		{{From: 0, To: 15, Slave: 0}, {From: 16, To: 31, Slave: 1}, {From: 32, To: 47, Slave: 2, Only: true}},
		{{From: 0, To: 15, Slave: 2}, {From: 16, To: 31, Slave: 1}, {From: 32, To: 47, Slave: 0}, {From: 48, To: 63, Slave: 2}},
		{{From: 48, To: 62, Slave: 1, Only: true}, {From: 1, To: 7, Slave: 1}, {From: 30, To: 30, Slave: 0}, {From: 9, To: 12, Slave: 2}},
		{{From: 63, To: 63, Slave: 0}, {From: 0, To: 0, Slave: 0}, {From: 62, To: 62, Slave: 1}, {From: 1, To: 1, Slave: 1}},
	}
}

// without is a copy of a list but for one place.
func without(list []impl.MapRange, place int) []impl.MapRange {
	return append(slices.Clone(list[:place]), list[place+1:]...)
}

// with is a copy of a list with one more at its end.
func with(list []impl.MapRange, more impl.MapRange) []impl.MapRange {
	return append(slices.Clone(list), more)
}

// inRange goes through a range address by address, so that it does not lean on how the program compares.
func inRange(r impl.MapRange, addr int) bool {
	for a := r.From; a <= r.To; a++ {
		if a == addr {
			return true
		}
	}
	return false
}

// rangesOf is how many ranges of a list an address is in.
func rangesOf(list []impl.MapRange, addr int) int {
	n := 0
	for _, r := range list {
		if inRange(r, addr) {
			n++
		}
	}
	return n
}

func sorted(list []int) []int {
	return slices.Sorted(slices.Values(list))
}
