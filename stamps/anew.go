package stamps

import (
	"cmp"
	"slices"

	"oriel/api"
)

// anew numbers all anew ahead of a change of c, and tells whether there is a number left for it; if there is none, nothing is changed.
func (k *Clock) anew(c api.Cell) bool {
	others := k.others(c)
	if len(others) >= k.most-1 {
		return false
	}
	// Looks are held against the old numbers, so these are written over behind that. What c had needs no noughting: it is given the next number at once.
	for _, s := range k.cells {
		s.Seen = notAbove(others, s.Seen)
	}
	for i, s := range others {
		s.Changed = i + 1
	}
	k.last = len(others)
	k.turns++
	return true
}

// others are the stamps of all cells but c that have changed, in the order of their changes.
func (k *Clock) others(c api.Cell) []*api.Stamps {
	var list []*api.Stamps
	for other, s := range k.cells {
		if other != c && s.Changed > 0 {
			list = append(list, s)
		}
	}
	slices.SortFunc(list, func(a, b *api.Stamps) int { return cmp.Compare(a.Changed, b.Changed) })
	return list
}

// notAbove is how many stamps of an ordered list have changed at a look's number, or ahead of it.
func notAbove(list []*api.Stamps, seen int) int {
	count, _ := slices.BinarySearchFunc(list, seen+1, func(s *api.Stamps, behind int) int { return cmp.Compare(s.Changed, behind) })
	return count
}
