package type2

import (
	"serif/api"
	"serif/peek"
)

// The operators of programs that don't draw.
const (
	opStemsX     = 1
	opStemsY     = 3
	opCallLocal  = 10
	opReturn     = 11
	opEnd        = 14
	opStemsXMask = 18
	opMask       = 19
	opCounters   = 20
	opStemsYMask = 23
	opCallGlobal = 29
)

const accentOperands = 4 // with these the end would put two other glyphs together

// machine runs a glyph's program. The first fault stays, and ends it.
type machine struct {
	pen
	font       *Font
	open       []*row // the program, and the routines that were called within one another
	stack      []int
	fuel       int // bytes that began an operand or operator
	stems      int
	width      int
	widthAsked bool // an operator that could tell the width has come
	ended      bool
}

// run: the whole program.
func (m *machine) run(program *peek.View) api.Errno {
	m.open = []*row{{bytes: program}}
	for !m.ended && m.fault == api.OK {
		m.step()
	}
	return m.fault
}

// step: the next operand or operator.
func (m *machine) step() {
	r := m.open[len(m.open)-1]
	if !r.left() {
		m.refuse(api.ErrType2)
		return
	}
	if m.fuel == api.MaxFuel {
		m.refuse(api.ErrType2Many)
		return
	}
	m.fuel++
	b := r.byte()
	n, ok := r.programOperand(b)
	if !ok {
		n = r.operator(b)
	}
	switch {
	case r.cut:
		m.refuse(api.ErrType2)
	case ok:
		m.push(n)
	default:
		m.operate(n)
	}
}

// push: lays an operand on the stack.
func (m *machine) push(n int) {
	if len(m.stack) == api.MaxStack {
		m.refuse(api.ErrType2Many)
		return
	}
	m.stack = append(m.stack, n)
}

// operate: does what the operator says.
func (m *machine) operate(operator int) {
	switch operator {
	case opCallLocal:
		m.call(m.font.locals)
	case opCallGlobal:
		m.call(m.font.globals)
	case opReturn:
		m.leave()
	default:
		m.take(operator, m.stack)
		m.stack = m.stack[:0]
	}
}

// take: does what an operator says that takes the whole stack.
func (m *machine) take(operator int, operands []int) {
	switch operator {
	case opStemsX, opStemsY, opStemsXMask, opStemsYMask:
		m.addStems(operands)
	case opMask, opCounters:
		m.addStems(operands)
		m.passMask()
	case opMove, opMoveX, opMoveY:
		m.begin(operator, operands)
	case opEnd:
		m.end(operands)
	default:
		m.draw(operator, operands)
	}
}

// call: opens the routine that the last operand tells.
func (m *machine) call(routines index) {
	if len(m.stack) == 0 {
		m.refuse(api.ErrType2)
		return
	}
	last := len(m.stack) - 1
	number := m.stack[last]>>point + bias(routines.count()) // a shift rounds down below 0, too
	m.stack = m.stack[:last]
	if number < 0 || number >= routines.count() {
		m.refuse(api.ErrType2)
		return
	}
	if len(m.open) > api.MaxCalls { // the program itself is no call
		m.refuse(api.ErrType2Many)
		return
	}
	m.open = append(m.open, &row{bytes: routines.piece(number)})
}

// bias: what is added to the number of a routine, where there are so many.
func bias(routines int) int {
	switch {
	case routines < 1240:
		return 107
	case routines < 33900:
		return 1131
	}
	return 32768
}

// leave: the routine ends.
func (m *machine) leave() {
	if len(m.open) == 1 {
		m.refuse(api.ErrType2)
		return
	}
	m.open = m.open[:len(m.open)-1]
}

// behindWidth: the operands of an operator that could tell the width, without the width. Only the first such operator tells it, by one operand too many.
func (m *machine) behindWidth(operands []int, tooMany bool) []int {
	first := !m.widthAsked
	m.widthAsked = true
	if !first || !tooMany {
		return operands
	}
	m.width = nearest(operands[0]) + m.font.added
	return operands[1:]
}

// addStems: counts the stems that two operands each tell.
func (m *machine) addStems(operands []int) {
	operands = m.behindWidth(operands, len(operands)%2 == 1)
	if len(operands)%2 != 0 {
		m.refuse(api.ErrType2)
		return
	}
	m.stems += len(operands) / 2
	if m.stems > api.MaxStems {
		m.refuse(api.ErrType2Many)
	}
}

// passMask: passes over a bit for each stem.
func (m *machine) passMask() {
	r := m.open[len(m.open)-1]
	r.pass((m.stems + 7) / 8)
	if r.cut {
		m.refuse(api.ErrType2)
	}
}

// begin: begins a contour by a move.
func (m *machine) begin(operator int, operands []int) {
	listed := 1
	if operator == opMove {
		listed = 2
	}
	operands = m.behindWidth(operands, len(operands) == listed+1)
	if len(operands) != listed {
		m.refuse(api.ErrType2)
		return
	}
	switch operator {
	case opMove:
		m.move(operands[0], operands[1])
	case opMoveX:
		m.move(operands[0], 0)
	case opMoveY:
		m.move(0, operands[0])
	}
}

// end: ends the program, within whichever routine.
func (m *machine) end(operands []int) {
	n := len(operands)
	switch len(m.behindWidth(operands, n == 1 || n == accentOperands+1)) {
	case 0:
		m.ended = true
	case accentOperands:
		m.refuse(api.ErrType2Kind)
	default:
		m.refuse(api.ErrType2)
	}
}
