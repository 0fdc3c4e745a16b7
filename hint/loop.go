package hint

// hintLoop: instructions on as many points as loop says.
func (m *machine) hintLoop(op byte) bool {
	switch op {
	case opFollow2:
		points := m.takePoints()
		m.further(points, m.reference(1, 2).move())
	case opFollow1:
		points := m.takePoints()
		m.further(points, m.reference(0, 1).move())
	case opFurther:
		d := m.pop()
		m.further(m.takePoints(), d)
	case opAlign:
		m.align(m.takePoints())
	case opBetween:
		m.between(m.takePoints())
	default:
		return false
	}
	m.loop = 1
	return true
}

// takePoints: takes the numbers of the points, the last one first. Asked for together, ahead of all work: the stack must have so many.
func (m *machine) takePoints() []int { return m.take(m.loop) }

// each: does something to the points of a zone, one after the other: what is wrong with a later one comes behind the work on those ahead.
func (m *machine) each(points []int, pointer int, do func(q point)) {
	for i := len(points) - 1; i >= 0; i-- {
		do(m.point(pointer, points[i]))
	}
}

// move: how far the point is from where it was.
func (q point) move() int { return minus(*q.is, *q.was) }

// further: the points are put further.
func (m *machine) further(points []int, by int) {
	m.each(points, 2, func(q point) { q.put(plus(*q.is, by)) })
}

// align: the points are put where rp0 is.
func (m *machine) align(points []int) {
	from := m.reference(0, 0)
	m.each(points, 1, func(q point) { q.put(*from.is) })
}

// between: the points are put between two others, or beyond them, as they were.
func (m *machine) between(points []int) {
	a, b := m.reference(0, 1), m.reference(1, 2)
	w, n := minus(*b.was, *a.was), minus(*b.is, *a.is)
	m.each(points, 2, func(q point) {
		o := minus(*q.was, *a.was)
		if w != 0 {
			o = nearest(o, n, w)
		}
		m.putFrom(a, q, o)
	})
}
