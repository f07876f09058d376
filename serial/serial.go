// Package serial: numbers that go round: layer 1: see shared/doc/01-serial.md.
package serial

import (
	"cmp"
	"slices"
)

// Before tells whether a number comes ahead of another one, Dist how far it is.
// Two numbers that are half the round apart are neither of them Before the
// other: their Dist is below 0 both ways.
func Before(a, b uint32) bool { return Dist(a, b) > 0 }

func Dist(a, b uint32) int { return int(int32(b - a)) }

func Before16(a, b uint16) bool { return Dist16(a, b) > 0 }

func Dist16(a, b uint16) int { return int(int16(b - a)) }

func Later(a, b uint32) uint32 {
	if Before(a, b) {
		return b
	}
	return a
}

// Within tells whether a number is one of a row.
// The row may be longer than half the round, so Dist would not do.
func Within(x, from, to uint32) bool { return x-from <= to-from }

// Sorted are numbers by how far they are above one, Runs the rows in them.
func Sorted(l []uint32, from uint32) []uint32 {
	above := func(a, b uint32) int { return cmp.Compare(a-from, b-from) }
	sorted := make([]uint32, len(l))
	copy(sorted, l)
	slices.SortFunc(sorted, above)
	return slices.Compact(sorted)
}

func Runs(l []uint32, from uint32) [][2]uint32 {
	var runs [][2]uint32
	// from, if it is there at all, is the first of Sorted: so no row can go on
	// into it from the number below it.
	for _, n := range Sorted(l, from) {
		if last := len(runs) - 1; last >= 0 && runs[last][1]+1 == n {
			runs[last][1] = n
		} else {
			runs = append(runs, [2]uint32{n, n})
		}
	}
	return runs
}
