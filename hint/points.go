package hint

import (
	"serif/api"
	"serif/gstate"
)

// The instructions that ask for points and put them elsewhere.
const (
	opTouch         = 0x2E
	opTouchRounded  = 0x2F
	opSmoothY       = 0x30
	opSmoothX       = 0x31
	opFollow2       = 0x32 // the point rp2
	opFollow1       = 0x33 // the point rp1
	opFurther       = 0x38
	opBetween       = 0x39
	opApart         = 0x3A
	opApartRefer    = 0x3B
	opAlign         = 0x3C
	opToValue       = 0x3E
	opToRounded     = 0x3F
	opIs            = 0x46
	opWas           = 0x47
	opPutAt         = 0x48
	opDistanceIs    = 0x49
	opDistanceWas   = 0x4A
	opKeepDistance  = 0xC0 // from here on the lower five bits say how
	opValueDistance = 0xE0
)

// The bits of an instruction that puts a point at a distance.
const (
	bitRounded = 4
	bitMinimum = 8
	bitRefer   = 16
)

// point is a point of a zone along the axis: where it was and is, and whether it is touched. It is changed in place: layer 9's Put would copy the zone for each.
type point struct {
	was, is *int
	touched *bool
}

// point: the point p of the zone to which the pointer zp0, zp1 or zp2 points.
func (m *machine) point(pointer, p int) point {
	z := &m.zones[m.pointers[pointer]]
	index(p, len(z.Cur))
	if m.axis == axisX {
		return point{&z.Org[p].X, &z.Cur[p].X, &z.TouchX[p]}
	}
	return point{&z.Org[p].Y, &z.Cur[p].Y, &z.TouchY[p]}
}

// reference: the point rp0, rp1 or rp2 of such a zone.
func (m *machine) reference(pointer, n int) point { return m.point(pointer, m.references[n]) }

// put: the point is at a place, and touched.
func (q point) put(to int) { *q.is, *q.touched = to, true }

// begin: the point was and is at a place.
func (q point) begin(at int) { *q.was, *q.is = at, at }

// hint: instructions on points.
func (m *machine) hint(op byte) bool {
	switch {
	case op >= opValueDistance:
		m.valueDistance(op)
	case op >= opKeepDistance:
		m.keepDistance(op)
	case op == opTouch || op == opTouchRounded:
		m.touch(op == opTouchRounded)
	case op == opToValue || op == opToRounded:
		m.toValue(op == opToRounded)
	case op == opApart || op == opApartRefer:
		m.putApart(op == opApartRefer)
	case op == opPutAt:
		p, v := m.pair()
		m.point(2, p).put(v)
	case op == opSmoothX:
		m.smooth(axisX)
	case op == opSmoothY:
		m.smooth(axisY)
	default:
		return m.ask(op) || m.hintLoop(op)
	}
	return true
}

// ask: instructions that push where points are.
func (m *machine) ask(op byte) bool {
	switch op {
	case opIs:
		m.push(*m.point(2, m.pop()).is)
	case opWas:
		m.push(*m.point(2, m.pop()).was)
	case opDistanceIs:
		p, q := m.askedPair()
		m.push(minus(*p.is, *q.is))
	case opDistanceWas:
		p, q := m.askedPair()
		m.push(minus(*p.was, *q.was))
	default:
		return false
	}
	return true
}

// askedPair: takes the points p of zp0 and q of zp1.
func (m *machine) askedPair() (point, point) {
	p, q := m.pair()
	return m.point(0, p), m.point(1, q)
}

// touch: a point where it is, or on the grid.
func (m *machine) touch(rounded bool) {
	p := m.pop()
	q := m.point(0, p)
	to := *q.is
	if rounded {
		to = m.rounded(to)
	}
	q.put(to)
	m.references[0], m.references[1] = p, p
}

// toValue: a point at a control value.
func (m *machine) toValue(rounded bool) {
	p, i := m.pair()
	q, v := m.point(0, p), m.control(i)
	if m.pointers[0] == zoneTwilight {
		q.begin(v)
	}
	if rounded {
		v = m.rounded(m.near(v, *q.is))
	}
	q.put(v)
	m.references[0], m.references[1] = p, p
}

// near: v, or what it is held against, if it is further than CUT from that.
func (m *machine) near(v, from int) int {
	if d := minus(v, from); max(d, -d) > m.cut {
		return from
	}
	return v
}

// keepDistance: a point as far from rp0 as it was.
func (m *machine) keepDistance(op byte) {
	p := m.pop()
	q, from := m.point(1, p), m.reference(0, 0)
	o := minus(*q.was, *from.was)
	d := o
	if op&bitRounded != 0 {
		d = m.rounded(d)
	}
	m.putFrom(from, q, m.kept(op, d, o))
	m.refer(p, op&bitRefer != 0)
}

// valueDistance: a point as far from rp0 as a control value says.
func (m *machine) valueDistance(op byte) {
	p, i := m.pair()
	q, c, from := m.point(1, p), m.control(i), m.reference(0, 0)
	if m.pointers[1] == zoneTwilight {
		q.begin(plus(*from.was, c))
	}
	o := minus(*q.was, *from.was)
	if (o < 0) != (c < 0) {
		c = -c
	}
	if op&bitRounded != 0 {
		c = m.rounded(m.near(c, o))
	}
	m.putFrom(from, q, m.kept(op, c, o))
	m.refer(p, op&bitRefer != 0)
}

// kept: the distance d, no less than MINIMUM on the side on which the original distance o lies.
func (m *machine) kept(op byte, d, o int) int {
	switch {
	case op&bitMinimum == 0:
		return d
	case o < 0:
		return min(d, -m.minimum)
	}
	return max(d, m.minimum)
}

// putApart: a point at a distance from rp0.
func (m *machine) putApart(refer bool) {
	p, d := m.pair()
	q, from := m.point(1, p), m.reference(0, 0)
	m.putFrom(from, q, d)
	m.refer(p, refer)
}

// putFrom: the point q is d from where another is.
func (m *machine) putFrom(from, q point, d int) { q.put(plus(*from.is, d)) }

// refer: behind an instruction that put the point p at a distance from rp0.
func (m *machine) refer(p int, first bool) {
	m.references[1], m.references[2] = m.references[0], p
	if first {
		m.references[0] = p
	}
}

// smooth: the glyph's points follow those that are touched along an axis.
func (m *machine) smooth(axis int) {
	z, e := gstate.Smooth(m.zones[zoneGlyph], axis)
	if e != api.OK {
		panic(api.ErrHintFix)
	}
	m.zones[zoneGlyph] = z
}
