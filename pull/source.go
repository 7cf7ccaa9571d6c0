package pull

import "oriel/api"

// source tells a worker what cells have, as it stands: nothing is pulled for it.
type source struct{ *Puller }

// Cell is a cell's value.
func (s source) Cell(c api.Cell) api.Value {
	says := s.store.Get(c)
	if says == nil {
		return api.Value{}
	}
	if says.Is {
		return s.values[c]
	}
	return says.Value
}

// Rect is the values of a rectangle's cells with a content.
func (s source) Rect(r api.Rect) []api.Entry { return s.each(r, s.Cell) }
