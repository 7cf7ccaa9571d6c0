package order

import (
	"math"
	"slices"
	"testing"

	"oriel/addr"
	"oriel/api"
)

// numbers are in order: what a sheet has at its edges, and what lies far beyond it.
func numbers() []int {
	return []int{math.MinInt, -1, 0, 1, 2, 10, 256, 4096, math.MaxInt}
}

// checkOrder fails the test, unless how holds each two of an ordered list against one another by their places in there.
func checkOrder[T any](t *testing.T, list []T, how func(a, b T) int) {
	t.Helper()
	for i, a := range list {
		for j, b := range list {
			got := how(a, b)
			if got < 0 != (i < j) || got > 0 != (i > j) {
				t.Fatalf("%v against %v: %d", a, b, got)
			}
		}
	}
}

// By Row, then by Col, of any numbers, as addr has it.
func TestCells(t *testing.T) {
	var list []api.Cell
	for _, row := range numbers() {
		for _, col := range numbers() {
			list = append(list, api.Cell{Row: row, Col: col})
		}
	}
	checkOrder(t, list, Cells)
	for _, a := range list {
		for _, b := range list {
			if addr.Before(a, b) != (Cells(a, b) < 0) {
				t.Fatalf("Before(%v, %v) tells otherwise", a, b)
			}
		}
	}
}

// By Top, then by Left, then by Bottom, then by Right, of any numbers.
func TestRects(t *testing.T) {
	var list []api.Rect
	few := []int{math.MinInt, 0, 2, 10, math.MaxInt}
	for _, top := range few {
		for _, left := range few {
			for _, bottom := range few {
				for _, right := range few {
					list = append(list, api.Rect{Top: top, Left: left, Bottom: bottom, Right: right})
				}
			}
		}
	}
	checkOrder(t, list, Rects)
	mixed := slices.Clone(list)
	slices.Reverse(mixed)
	slices.SortFunc(mixed, Rects)
	if !slices.Equal(mixed, list) {
		t.Error("they are put in another order")
	}
}

// By the rectangle, then those without Many first, of any numbers.
func TestRefs(t *testing.T) {
	var list []api.Ref
	few := []int{math.MinInt, 0, 2, math.MaxInt}
	for _, top := range few {
		for _, left := range few {
			for _, bottom := range few {
				for _, right := range few {
					r := api.Rect{Top: top, Left: left, Bottom: bottom, Right: right}
					list = append(list, api.Ref{Rect: r}, api.Ref{Many: true, Rect: r})
				}
			}
		}
	}
	checkOrder(t, list, Refs)
}
