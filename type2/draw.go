package type2

import "serif/api"

// The operators of programs that draw.
const (
	opMoveY      = 4
	opLines      = 5
	opLinesX     = 6 // in turn along x and along y
	opLinesY     = 7
	opCurves     = 8
	opMove       = 21
	opMoveX      = 22
	opCurvesLine = 24
	opLinesCurve = 25
	opWavesY     = 26 // from along y to along y
	opWavesX     = 27 // from along x to along x
	opTurnsY     = 30 // in turn from along y to along x and back
	opTurnsX     = 31
	opFlexFlat   = 1234
	opFlex       = 1235
	opFlexLevel  = 1236 // ends as high as it began
	opFlexBack   = 1237 // ends as high as it began, or as far
)

const (
	linePair  = 2 // operands of a line
	curveSix  = 6 // operands of a curve
	curveFour = 4 // operands of a curve of which two numbers are 0
)

// draw: the lines and curves of an operator.
func (p *pen) draw(operator int, operands []int) {
	listed, known := takes(operator, len(operands))
	switch {
	case !known:
		p.refuse(api.ErrType2Kind)
	case !listed:
		p.refuse(api.ErrType2)
	case operator >= longBase:
		p.flex(operator, operands)
	default:
		p.strokes(operator, operands)
	}
}

// takes: does the operator draw with n operands, and is it known at all?
func takes(operator, n int) (listed, known bool) {
	switch operator {
	case opLines:
		return n >= 2 && n%2 == 0, true
	case opLinesX, opLinesY:
		return n >= 1, true
	case opCurves:
		return n >= 6 && n%6 == 0, true
	case opCurvesLine:
		return n >= 8 && n%6 == 2, true
	case opLinesCurve:
		return n >= 8 && n%2 == 0, true
	case opWavesY, opWavesX, opTurnsY, opTurnsX:
		return n >= 4 && n%4 <= 1, true
	case opFlexFlat:
		return n == 7, true
	case opFlex:
		return n == 13, true
	case opFlexLevel:
		return n == 9, true
	case opFlexBack:
		return n == 11, true
	}
	return false, false
}

// strokes: an operator with as many lines and curves as it has operands for.
func (p *pen) strokes(operator int, l []int) {
	switch operator {
	case opLines:
		p.lines(l)
	case opLinesX, opLinesY:
		p.steps(l, operator == opLinesX)
	case opCurves:
		p.curves(l)
	case opCurvesLine:
		behind := len(l) - linePair
		p.curves(l[:behind])
		p.lines(l[behind:])
	case opLinesCurve:
		behind := len(l) - curveSix
		p.lines(l[:behind])
		p.curves(l[behind:])
	case opWavesY, opWavesX:
		p.waves(l, operator == opWavesX)
	case opTurnsY, opTurnsX:
		p.turns(l, operator == opTurnsX)
	}
}

// lines: of two operands each.
func (p *pen) lines(l []int) {
	for ; len(l) > 0; l = l[linePair:] {
		p.line(l[0], l[1])
	}
}

// steps: lines of one operand each, in turn along x and along y.
func (p *pen) steps(l []int, alongX bool) {
	for _, d := range l {
		if alongX {
			p.line(d, 0)
		} else {
			p.line(0, d)
		}
		alongX = !alongX
	}
}

// curves: of six operands each.
func (p *pen) curves(l []int) {
	for ; len(l) > 0; l = l[curveSix:] {
		p.curve(l[0], l[1], l[2], l[3], l[4], l[5])
	}
}

// waves: curves that begin and end along one way. An odd operand, ahead of the others, is how far the first one begins the other way.
func (p *pen) waves(l []int, alongX bool) {
	odd := 0
	if len(l)%curveFour == 1 {
		odd, l = l[0], l[1:]
	}
	for ; len(l) > 0; l = l[curveFour:] {
		if alongX {
			p.curve(l[0], odd, l[1], l[2], l[3], 0)
		} else {
			p.curve(odd, l[0], l[1], l[2], 0, l[3])
		}
		odd = 0
	}
}

// turns: curves that begin along one way and end along the other, where the next one begins. An odd operand, behind the others, is how far the last one ends the other way.
func (p *pen) turns(l []int, alongX bool) {
	for ; len(l) >= curveFour; l = l[curveFour:] {
		odd := 0
		if len(l) == curveFour+1 {
			odd = l[curveFour]
		}
		if alongX {
			p.curve(l[0], 0, l[1], l[2], odd, l[3])
		} else {
			p.curve(0, l[0], l[1], l[2], l[3], odd)
		}
		alongX = !alongX
	}
}

// flex: two curves, of which some numbers are told by others.
func (p *pen) flex(operator int, l []int) {
	switch operator {
	case opFlexFlat:
		p.curve(l[0], 0, l[1], l[2], l[3], 0)
		p.curve(l[4], 0, l[5], -l[2], l[6], 0)
	case opFlex:
		p.curves(l[:2*curveSix]) // how deep the flex is says nothing here
	case opFlexLevel:
		up := p.sum(l[1], l[3], l[7])
		p.curve(l[0], l[1], l[2], l[3], l[4], 0)
		p.curve(l[5], 0, l[6], l[7], l[8], -up)
	case opFlexBack:
		dx, dy := p.sum(l[0], l[2], l[4], l[6], l[8]), p.sum(l[1], l[3], l[5], l[7], l[9])
		endX, endY := -dx, l[10]
		if max(dx, -dx) > max(dy, -dy) {
			endX, endY = l[10], -dy
		}
		p.curves(l[:curveSix])
		p.curve(l[6], l[7], l[8], l[9], endX, endY)
	}
}
