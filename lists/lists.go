// Package lists takes things out of lists that are kept for long, for those layers whose lists grow and shrink; see shared/DOC.md, W7.
package lists

import "slices"

// Without is a list without what stood at a place, which must be one of its places. The list that was handed in is used up.
func Without[T any](list []T, at int) []T {
	list = slices.Delete(list, at, at+1)
	if n := len(list); n&(n-1) != 0 {
		return list
	}
	// Each time the length has come down to a power of two, the list moves to memory of its own: so one that had many keeps no room for those that are gone, and seldom moves.
	return slices.Concat(list)
}
