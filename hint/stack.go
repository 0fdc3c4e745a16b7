package hint

import (
	"slices"

	"serif/api"
	"serif/fixed"
	"serif/gstate"
)

// The instructions that push and arrange numbers.
const (
	opDouble         = 0x20
	opDrop           = 0x21
	opClear          = 0x22
	opSwap           = 0x23
	opDepth          = 0x24
	opCopyAt         = 0x25
	opTakeAt         = 0x26
	opPushBytes      = 0x40
	opPushWords      = 0x41
	opSize           = 0x4B
	opTurn           = 0x8A
	opPushFirst      = 0xB0
	opPushFirstWords = 0xB8
	opPushLast       = 0xBF
)

// The instructions that leave a number for two.
const (
	opLess      = 0x50
	opLessEqual = 0x51
	opMore      = 0x52
	opMoreEqual = 0x53
	opEqual     = 0x54
	opOther     = 0x55
	opAnd       = 0x5A
	opOr        = 0x5B
	opAdd       = 0x60
	opSub       = 0x61
	opDiv       = 0x62
	opMul       = 0x63
	opGreater   = 0x8B
	opLesser    = 0x8C
)

// The instructions that leave a number for one.
const (
	opStored     = 0x43
	opControl    = 0x45
	opOdd        = 0x56
	opEven       = 0x57
	opNot        = 0x5C
	opMagnitude  = 0x64
	opNegative   = 0x65
	opDown       = 0x66
	opUp         = 0x67
	opRoundFirst = 0x68
	opRoundLast  = 0x6B
	opAsIsFirst  = 0x6C
	opAsIsLast   = 0x6F
)

// pushBehind: numbers that lie behind the instruction.
func (m *machine) pushBehind(op byte) bool {
	behind := m.code[m.at+1 : m.next]
	switch {
	case op == opPushBytes || op == opPushWords:
		behind = behind[1:]
	case !isPush(op):
		return false
	}
	if width(op) == 1 {
		for _, b := range behind {
			m.push(int(b))
		}
		return true
	}
	for ; len(behind) > 0; behind = behind[2:] {
		m.push(int(int16(behind[0])<<8 | int16(behind[1])))
	}
	return true
}

// arrange: the stack's numbers, and how many they are.
func (m *machine) arrange(op byte) bool {
	switch op {
	case opDouble:
		a := m.pop()
		m.push(a)
		m.push(a)
	case opDrop:
		m.pop()
	case opClear:
		m.stack = m.stack[:0]
	case opSwap:
		a, b := m.pair()
		m.push(b)
		m.push(a)
	case opDepth:
		m.push(len(m.stack))
	case opCopyAt:
		at := m.fromTop(m.pop())
		m.push(m.stack[at])
	case opTakeAt:
		m.raise(m.fromTop(m.pop()))
	case opTurn:
		m.raise(m.fromTop(3))
	case opSize:
		m.push(fixed.Round(m.font.Size) / grid)
	default:
		return false
	}
	return true
}

// fromTop: the place of the k-th number from the top.
func (m *machine) fromTop(k int) int {
	if k < 1 || k > len(m.stack) {
		panic(api.ErrHint)
	}
	return len(m.stack) - k
}

// raise: takes the number at a place out, and pushes it.
func (m *machine) raise(at int) {
	a := m.stack[at]
	m.stack = append(slices.Delete(m.stack, at, at+1), a)
}

// reckon: a number in the place of one or two.
func (m *machine) reckon(op byte) bool {
	if of := ofTwo(op); of != nil {
		a, b := m.pair()
		m.push(of(a, b))
		return true
	}
	if of := m.ofOne(op); of != nil {
		m.push(of(m.pop()))
		return true
	}
	return false
}

// ofTwo: what an instruction makes of two numbers.
func ofTwo(op byte) func(a, b int) int {
	switch op {
	case opAdd:
		return plus
	case opSub:
		return minus
	case opMul:
		return func(a, b int) int { return nearest(a, b, grid) }
	case opDiv:
		return quotient
	case opGreater:
		return func(a, b int) int { return max(a, b) }
	case opLesser:
		return func(a, b int) int { return min(a, b) }
	case opLess:
		return func(a, b int) int { return truth(a < b) }
	case opLessEqual:
		return func(a, b int) int { return truth(a <= b) }
	case opMore:
		return func(a, b int) int { return truth(a > b) }
	case opMoreEqual:
		return func(a, b int) int { return truth(a >= b) }
	case opEqual:
		return func(a, b int) int { return truth(a == b) }
	case opOther:
		return func(a, b int) int { return truth(a != b) }
	case opAnd:
		return func(a, b int) int { return truth(a != 0 && b != 0) }
	case opOr:
		return func(a, b int) int { return truth(a != 0 || b != 0) }
	}
	return nil
}

// quotient: a by b, in 1/64.
func quotient(a, b int) int {
	if b == 0 {
		panic(api.ErrHint)
	}
	return nearest(grid, a, b)
}

// truth: 1 for what is so.
func truth(so bool) int {
	if so {
		return 1
	}
	return 0
}

// ofOne: what an instruction makes of a number.
func (m *machine) ofOne(op byte) func(a int) int {
	switch op {
	case opStored:
		return func(i int) int { return m.store[index(i, len(m.store))] }
	case opControl:
		return m.control
	case opOdd:
		return m.odd
	case opEven:
		return func(a int) int { return 1 - m.odd(a) }
	case opNot:
		return func(a int) int { return truth(a == 0) }
	case opMagnitude:
		return func(a int) int { return max(a, -a) }
	case opNegative:
		return func(a int) int { return -a }
	case opDown:
		return func(a int) int { return checked(fixed.Floor(a)) }
	case opUp:
		return func(a int) int { return checked(fixed.Ceil(a)) }
	}
	switch {
	case op >= opRoundFirst && op <= opRoundLast:
		return m.rounded
	case op >= opAsIsFirst && op <= opAsIsLast:
		return func(a int) int { return a }
	}
	return nil
}

// odd: 1, if there is an odd number of wholes in a when it is rounded; else 0.
func (m *machine) odd(a int) int {
	// Shifted, since layer 1 rounds nothing down that is no FIX; below 0, too, a shift goes down and the last bit is set in odd numbers.
	return gstate.Round(a, m.way) >> gridShift & 1
}

// control: the i-th control value.
func (m *machine) control(i int) int { return m.cvt[index(i, len(m.cvt))] }
