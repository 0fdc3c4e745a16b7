package path

import (
	"slices"

	"serif/api"
)

// Flat: the outline as polygons.
func Flat(o [][]api.Knot) ([][]api.Spot, api.Errno) {
	if e := checked(o); e != api.OK {
		return nil, e
	}
	out := make([][]api.Spot, len(o))
	for i, contour := range o {
		polygon, e := flattened(contour)
		if e != api.OK {
			return nil, e
		}
		out[i] = polygon
	}
	return out, api.OK
}

// flattened: the contour's polygon.
func flattened(contour []api.Knot) ([]api.Spot, api.Errno) {
	if len(contour) == 0 {
		return nil, api.OK
	}
	start, coming, e := begun(contour)
	if e != api.OK {
		return nil, e
	}
	w := walk{start: start, coming: coming, points: []api.Spot{start}}
	for len(w.coming) > 0 {
		if e := w.step(); e != api.OK {
			return nil, e
		}
	}
	if w.closed {
		w.points = w.points[:len(w.points)-1]
	}
	return w.points, api.OK
}

// begun: a contour's start, and the knots that come behind it, in their order round to it.
func begun(contour []api.Knot) (api.Spot, []api.Knot, api.Errno) {
	at := slices.IndexFunc(contour, func(k api.Knot) bool { return k.Kind == api.KnotOn })
	if at >= 0 {
		return placeOf(contour[at]), slices.Concat(contour[at+1:], contour[:at]), api.OK
	}
	first, last := contour[0], contour[len(contour)-1]
	if first.Kind == api.KnotCubic {
		return api.Spot{}, nil, api.ErrPath
	}
	return middle(placeOf(last), placeOf(first)), contour, api.OK
}

// walk goes round a contour: the knots that are still to come, and the points so far, of which the last one is where it stands.
type walk struct {
	start  api.Spot
	coming []api.Knot
	points []api.Spot
	closed bool // the last point is the end of a curve that ends at the start
}

// step: goes along the line or the curve that comes next.
func (w *walk) step() api.Errno {
	switch w.coming[0].Kind {
	case api.KnotQuad:
		return w.quad()
	case api.KnotCubic:
		return w.cubic()
	}
	w.points = append(w.points, placeOf(w.coming[0]))
	w.coming = w.coming[1:]
	return api.OK
}

// quad: goes along a curve with one control.
func (w *walk) quad() api.Errno {
	control := placeOf(w.coming[0])
	from := w.points[len(w.points)-1]
	if len(w.coming) > 1 && w.coming[1].Kind == api.KnotQuad {
		w.coming = w.coming[1:]
		w.points = appendQuad(w.points, from, control, middle(control, placeOf(w.coming[0])))
		return api.OK
	}
	end, e := w.curveEnd(1)
	if e != api.OK {
		return e
	}
	w.points = appendQuad(w.points, from, control, end)
	return api.OK
}

// cubic: goes along a curve with two controls.
func (w *walk) cubic() api.Errno {
	if len(w.coming) < 2 || w.coming[1].Kind != api.KnotCubic {
		return api.ErrPath
	}
	one, two := placeOf(w.coming[0]), placeOf(w.coming[1])
	from := w.points[len(w.points)-1]
	end, e := w.curveEnd(2)
	if e != api.OK {
		return e
	}
	w.points = appendCubic(w.points, from, one, two, end)
	return api.OK
}

// curveEnd: passes over a curve's controls and the knot on the curve behind them; without one that comes, the curve ends at the start.
func (w *walk) curveEnd(controls int) (api.Spot, api.Errno) {
	w.coming = w.coming[controls:]
	if len(w.coming) == 0 {
		w.closed = true
		return w.start, api.OK
	}
	next := w.coming[0]
	if next.Kind != api.KnotOn {
		return api.Spot{}, api.ErrPath
	}
	w.coming = w.coming[1:]
	return placeOf(next), api.OK
}
