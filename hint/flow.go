package hint

import "serif/api"

// The instructions that say where a program goes on.
const (
	opElse        = 0x1B
	opJump        = 0x1C
	opCallTimes   = 0x2A
	opCall        = 0x2B
	opFunction    = 0x2C
	opFunctionEnd = 0x2D
	opIf          = 0x58
	opEndIf       = 0x59
	opJumpIf      = 0x78
	opJumpIfNot   = 0x79
)

// flow: conditions, jumps and functions.
func (m *machine) flow(op byte) bool {
	switch op {
	case opIf:
		if m.pop() == 0 {
			m.next = m.code.partEnd(m.next, true)
		}
	case opElse:
		m.next = m.code.partEnd(m.next, false)
	case opEndIf:
	case opJump:
		m.jump(m.pop())
	case opJumpIf, opJumpIfNot:
		d, a := m.pair()
		if (a != 0) == (op == opJumpIf) {
			m.jump(d)
		}
	case opFunction:
		m.define(m.pop())
	case opFunctionEnd:
		panic(api.ErrHint)
	case opCall:
		m.call(m.pop(), 1)
	case opCallTimes:
		n, k := m.pair()
		m.call(k, n)
	default:
		return false
	}
	return true
}

// jump: goes on d bytes from the instruction.
func (m *machine) jump(d int) {
	to := m.at + d
	if d == 0 || to < 0 || to > len(m.code) {
		panic(api.ErrHint)
	}
	m.next = to
}

// define: the function k lies behind the instruction.
func (m *machine) define(k int) {
	if m.forGlyph || m.running > 0 {
		panic(api.ErrHint)
	}
	body, next := m.code.function(m.next)
	m.functions[index(k, api.MaxFunctions)] = body
	m.next = next
}

// call: runs the function k so many times.
func (m *machine) call(k, times int) {
	body, there := m.functions[k]
	if !there || times < 0 {
		panic(api.ErrHint)
	}
	if m.running == api.MaxHintCalls || times > api.MaxHintLoop {
		panic(api.ErrHintMany)
	}
	m.running++
	for range times {
		m.run(body)
	}
	m.running--
}
