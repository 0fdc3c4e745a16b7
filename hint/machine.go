package hint

import (
	"serif/api"
	"serif/fixed"
	"serif/gstate"
)

const (
	zoneTwilight = 0
	zoneGlyph    = 1
)

const (
	axisX = 0
	axisY = 1
)

const (
	gridShift    = 6
	grid         = 1 << gridShift // a whole in 1/64
	firstMinimum = 64
	firstCut     = 68
)

// machine runs a font's programs and a glyph's. What isn't right is given up by a panic with its error: Run catches it.
type machine struct {
	state
	frame
	font         api.HintFont
	cvt          []int
	store        [api.MaxStore]int
	functions    map[int]program
	zones        [2]api.Zone
	minimum, cut int
	fuel         int  // instructions that were read
	running      int  // functions within one another
	forGlyph     bool // a glyph's program makes no functions
}

// state is what begins anew with each program.
type state struct {
	stack      []int
	axis       int
	references [3]int // rp0, rp1, rp2
	pointers   [3]int // zp0, zp1, zp2
	loop, way  int
}

// frame is where a program or a function is: at an instruction, and where it goes on behind that.
type frame struct {
	code     program
	at, next int
}

// newMachine: a machine for a font, ahead of all programs.
func newMachine(f api.HintFont) *machine {
	return &machine{
		font:      f,
		cvt:       scaled(f),
		functions: map[int]program{},
		zones:     [2]api.Zone{zoneTwilight: twilight()},
		minimum:   firstMinimum,
		cut:       firstCut,
	}
}

// begin: runs a program.
func (m *machine) begin(c program) {
	m.state = state{
		axis:     axisX,
		pointers: [3]int{zoneGlyph, zoneGlyph, zoneGlyph},
		loop:     1,
		way:      api.RoundGrid,
	}
	m.run(c)
}

// run: a program or a function, till it goes on behind its last byte.
func (m *machine) run(c program) {
	outer := m.frame
	for m.frame = (frame{code: c}); m.next < len(c); {
		m.step()
	}
	m.frame = outer
}

// step: the next instruction.
func (m *machine) step() {
	if m.fuel == api.MaxHintFuel {
		panic(api.ErrHintMany)
	}
	m.fuel++
	m.at = m.next
	m.next = m.code.behind(m.at)
	op := m.code[m.at]
	known := m.pushBehind(op) || m.arrange(op) || m.reckon(op) || m.flow(op) || m.keep(op) || m.set(op) || m.hint(op)
	if !known {
		panic(api.ErrHintKind)
	}
}

// push: lays a number on the stack.
func (m *machine) push(n int) {
	if len(m.stack) == api.MaxHintStack {
		panic(api.ErrHintMany)
	}
	m.stack = append(m.stack, n)
}

// take: takes n numbers from the stack; they are good till the next push.
func (m *machine) take(n int) []int {
	left := len(m.stack) - n
	if left < 0 {
		panic(api.ErrHint)
	}
	taken := m.stack[left:]
	m.stack = m.stack[:left]
	return taken
}

// pop: takes a number.
func (m *machine) pop() int { return m.take(1)[0] }

// pair: takes two numbers, the top one the second.
func (m *machine) pair() (int, int) {
	taken := m.take(2)
	return taken[0], taken[1]
}

// index: i, if a list of n has an i-th.
func index(i, n int) int {
	if i < 0 || i >= n {
		panic(api.ErrHint)
	}
	return i
}

// fix: a number that layer 1 has reckoned.
func fix(n int, e api.Errno) int {
	if e != api.OK {
		panic(api.ErrHintFix)
	}
	return n
}

// checked: a rounded number, if it is still a FIX.
func checked(n int) int { return fix(n, fixed.Check(n)) }

// plus: a and b.
func plus(a, b int) int { return fix(fixed.Add(a, b)) }

// minus: a without b.
func minus(a, b int) int { return fix(fixed.Sub(a, b)) }

// nearest: a b by c.
func nearest(a, b, c int) int { return fix(fixed.MulDiv(a, b, c)) }

// rounded: n, as the way is.
func (m *machine) rounded(n int) int { return checked(gstate.Round(n, m.way)) }
