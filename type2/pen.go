package type2

import (
	"serif/api"
	"serif/fixed"
)

// pen draws an outline, knot by knot. The first fault stays, and behind it nothing is drawn.
type pen struct {
	outline [][]api.Knot
	knots   int // of all contours
	x, y    int // in 16.16
	fault   api.Errno
}

// refuse: what was found is wrong.
func (p *pen) refuse(e api.Errno) {
	if p.fault == api.OK {
		p.fault = e
	}
}

// move: begins a contour.
func (p *pen) move(dx, dy int) {
	if len(p.outline) == api.MaxContours {
		p.refuse(api.ErrType2Many)
		return
	}
	p.outline = append(p.outline, nil)
	p.knot(dx, dy, api.KnotOn)
}

// line: to the next knot on the curve.
func (p *pen) line(dx, dy int) { p.knot(dx, dy, api.KnotOn) }

// curve: by two controls to the next knot on the curve.
func (p *pen) curve(dx1, dy1, dx2, dy2, dx3, dy3 int) {
	p.knot(dx1, dy1, api.KnotCubic)
	p.knot(dx2, dy2, api.KnotCubic)
	p.knot(dx3, dy3, api.KnotOn)
}

// knot: the next one of the contour that was begun last.
func (p *pen) knot(dx, dy, kind int) {
	switch {
	case p.fault != api.OK:
	case len(p.outline) == 0:
		p.refuse(api.ErrType2)
	case p.knots == api.MaxPoints:
		p.refuse(api.ErrType2Many)
	default:
		p.x, p.y = p.add(p.x, dx), p.add(p.y, dy)
		last := len(p.outline) - 1
		p.outline[last] = append(p.outline[last], api.Knot{X: nearest(p.x), Y: nearest(p.y), Kind: kind})
		p.knots++
	}
}

// add: a and b, refused if one of them or their sum is no FIX.
func (p *pen) add(a, b int) int {
	sum, e := fixed.Add(a, b)
	if e != api.OK {
		p.refuse(api.ErrType2Fix)
	}
	return sum
}

// sum: all of the numbers, added one after the other.
func (p *pen) sum(numbers ...int) int {
	sum := 0
	for _, n := range numbers {
		sum = p.add(sum, n)
	}
	return sum
}

// nearest: of a number in 16.16 the whole number.
func nearest(n int) int {
	whole, _ := fixed.MulDiv(n, 1, one) // a number of 32 bits has a whole one that is a FIX
	return whole
}
