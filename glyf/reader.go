package glyf

import (
	"serif/api"
	"serif/peek"
)

// The flags of a knot.
const (
	onCurve = 1 << iota
	shortX
	shortY
	repeated
	plusX // a short X is added; one that isn't short is 0
	plusY
)

// The flags of a part.
const (
	wordShift = 1 << iota
	hasShift  // else it is matched by points
	_
	oneScale
	_
	partFollows
	twoScales
	fourScales
)

const one = 16384 // in 2.14

// reader goes through a glyph's bytes. The first fault stays, and behind it all numbers are 0: who reads asks for it where another fault could be meant.
type reader struct {
	bytes *peek.View
	at    int
	fault api.Errno
}

// refuse: what was found is wrong.
func (r *reader) refuse(e api.Errno) {
	if r.fault == api.OK {
		r.fault = e
	}
}

// next: the number that read finds in the next size bytes.
func (r *reader) next(read func(at int) (int, api.Errno), size int) int {
	n, e := read(r.at)
	if e != api.OK {
		r.refuse(api.ErrGlyf)
	}
	r.at += size
	return n
}

// byte: the next number of one byte.
func (r *reader) byte() int { return r.next(r.bytes.U8, 1) }

// number: the next number of two bytes.
func (r *reader) number() int { return r.next(r.bytes.U16, 2) }

// signed: the next number of two bytes, with its sign.
func (r *reader) signed() int { return r.next(r.bytes.I16, 2) }

// signedByte: the next number of one byte, with its sign.
func (r *reader) signedByte() int { return int(int8(r.byte())) }

// simple: the glyph of so many contours.
func (r *reader) simple(contours int) (api.Glyph, api.Errno) {
	if contours > api.MaxContours {
		return api.Glyph{}, api.ErrGlyfMany
	}
	sizes, knots := r.contours(contours)
	if knots > api.MaxPoints {
		r.refuse(api.ErrGlyfMany)
	}
	if r.fault != api.OK {
		return api.Glyph{}, r.fault
	}
	code := r.code()
	flags := r.flags(knots)
	xs := r.coordinates(flags, shortX, plusX)
	ys := r.coordinates(flags, shortY, plusY)
	if r.fault != api.OK {
		return api.Glyph{}, r.fault
	}
	return api.Glyph{Outline: outlineOf(sizes, flags, xs, ys), Code: code}, api.OK
}

// contours: how many knots each contour has, and how many all have.
func (r *reader) contours(n int) ([]int, int) {
	sizes := make([]int, n)
	knots := 0
	for i := range sizes {
		last := r.number()
		if last < knots {
			r.refuse(api.ErrGlyf)
		}
		sizes[i], knots = last+1-knots, last+1
	}
	return sizes, knots
}

// code: the instructions.
func (r *reader) code() []byte {
	n := r.number()
	code, e := r.bytes.Cut(r.at, n)
	if e != api.OK {
		r.refuse(api.ErrGlyf)
		return nil
	}
	r.at += n
	return code.Bytes()
}

// flags: one for each knot.
func (r *reader) flags(knots int) []int {
	flags := make([]int, 0, knots)
	for len(flags) < knots {
		flag := r.byte()
		more := 0
		if flag&repeated != 0 {
			more = r.byte()
		}
		if more >= knots-len(flags) {
			r.refuse(api.ErrGlyf)
		}
		for range 1 + more {
			flags = append(flags, flag)
		}
	}
	return flags
}

// coordinates: the X of the knots or their Y, by the two flags that tell of it.
func (r *reader) coordinates(flags []int, short, plus int) []int {
	list := make([]int, len(flags))
	sum := 0
	for i, flag := range flags {
		sum += r.difference(flag&short != 0, flag&plus != 0)
		list[i] = sum
	}
	return list
}

// difference: how far a knot's coordinate is from the one ahead of it.
func (r *reader) difference(short, plus bool) int {
	switch {
	case short && plus:
		return r.byte()
	case short:
		return -r.byte()
	case plus:
		return 0
	}
	return r.signed()
}

// outlineOf: contours of these sizes, each of its own memory.
func outlineOf(sizes, flags, xs, ys []int) [][]api.Knot {
	outline := make([][]api.Knot, len(sizes))
	first := 0
	for i, size := range sizes {
		outline[i] = make([]api.Knot, size)
		for j := range outline[i] {
			k := first + j
			outline[i][j] = api.Knot{X: xs[k], Y: ys[k], Kind: kindOf(flags[k])}
		}
		first += size
	}
	return outline
}

// kindOf: which knots have such a flag.
func kindOf(flag int) int {
	if flag&onCurve != 0 {
		return api.KnotOn
	}
	return api.KnotQuad
}

// part is another glyph within a glyph: which one, and where it lies.
type part struct {
	flags, glyph, dx, dy int
	matrix               [4]int
}

// part: the next one.
func (r *reader) part() part {
	p := part{flags: r.number(), glyph: r.number()}
	if p.flags&hasShift == 0 {
		r.refuse(api.ErrGlyfKind)
	}
	if p.flags&wordShift != 0 {
		p.dx, p.dy = r.signed(), r.signed()
	} else {
		p.dx, p.dy = r.signedByte(), r.signedByte()
	}
	p.matrix = r.matrix(p.flags)
	return p
}

// matrix: how a part with such flags is turned.
func (r *reader) matrix(flags int) [4]int {
	switch {
	case flags&oneScale != 0:
		s := r.signed()
		return [4]int{s, 0, 0, s}
	case flags&twoScales != 0:
		x, y := r.signed(), r.signed()
		return [4]int{x, 0, 0, y}
	case flags&fourScales != 0:
		a, b, c, d := r.signed(), r.signed(), r.signed(), r.signed()
		return [4]int{a, c, b, d}
	}
	return [4]int{one, 0, 0, one}
}
