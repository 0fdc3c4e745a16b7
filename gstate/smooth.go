package gstate

import (
	"serif/api"
	"serif/fixed"
)

// Smooth: the zone in which untouched points follow the touched ones.
func Smooth(z api.Zone, axis int) (api.Zone, api.Errno) {
	if !Sound(z) || !isAxis(axis) {
		return api.Zone{}, api.ErrZone
	}
	out, marks := copied(z), marksOf(z, axis)
	first := 0
	for _, last := range z.Ends {
		places, e := followed(marks[first : last+1])
		if e != api.OK {
			return api.Zone{}, e
		}
		for p, place := range places {
			set(out, axis, first+p, place)
		}
		first = last + 1
	}
	return out, api.OK
}

// mark is a point along one axis: where it was, where it is, and whether it was touched.
type mark struct {
	org, cur int
	touched  bool
}

// marksOf: the zone's points along the axis.
func marksOf(z api.Zone, axis int) []mark {
	touched := touches(z, axis)
	out := make([]mark, len(z.Org))
	for p := range out {
		out[p] = mark{along(z.Org[p], axis), along(z.Cur[p], axis), touched[p]}
	}
	return out
}

// followed: the new places of a contour's untouched points, by their numbers in it.
func followed(contour []mark) (map[int]int, api.Errno) {
	var r reckoner
	places, touched := make(map[int]int, len(contour)), touchedOf(contour)
	for i, a := range touched {
		// Behind the last touched point comes the first: where there is just one, a is b, and all others follow it.
		b := touched[(i+1)%len(touched)]
		for p := (a + 1) % len(contour); p != b; p = (p + 1) % len(contour) {
			places[p] = r.follow(contour[p].org, contour[a], contour[b])
		}
	}
	if r.fault {
		return nil, api.ErrZoneFix
	}
	return places, api.OK
}

// touchedOf: the numbers of the contour's touched points.
func touchedOf(contour []mark) []int {
	var out []int
	for p, m := range contour {
		if m.touched {
			out = append(out, p)
		}
	}
	return out
}

// reckoner keeps in mind whether layer 1 has refused something.
type reckoner struct {
	fault bool
}

// fix: a number, if layer 1 has not refused it.
func (r *reckoner) fix(n int, e api.Errno) int {
	if e != api.OK {
		r.fault = true
	}
	return n
}

// follow: where a point goes that was at org and lies between the touched points a (ahead of it) and b.
func (r *reckoner) follow(org int, a, b mark) int {
	low, high := a, b
	if b.org < a.org {
		low, high = b, a
	}
	if org <= low.org {
		return r.moved(org, low)
	}
	if org >= high.org {
		return r.moved(org, high)
	}
	part, was := r.fix(fixed.Sub(org, low.org)), r.fix(fixed.Sub(high.org, low.org))
	is := r.fix(fixed.Sub(high.cur, low.cur))
	return r.fix(fixed.Add(low.cur, r.fix(fixed.MulDiv(part, is, was))))
}

// moved: org, as far on as the touched point is.
func (r *reckoner) moved(org int, m mark) int {
	return r.fix(fixed.Add(org, r.fix(fixed.Sub(m.cur, m.org))))
}
