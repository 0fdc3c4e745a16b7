package hint

import "serif/api"

// The instructions that put numbers where they are kept.
const (
	opStore      = 0x42
	opPut        = 0x44
	opPutInUnits = 0x70
)

// The instructions that set how later ones work.
const (
	opAxisY          = 0x00
	opAxisX          = 0x01
	opReferenceFirst = 0x10
	opReferenceLast  = 0x12
	opPointerFirst   = 0x13
	opPointerLast    = 0x15
	opPointers       = 0x16
	opLoop           = 0x17
	opGrid           = 0x18
	opHalf           = 0x19
	opMinimum        = 0x1A
	opCut            = 0x1D
	opDoubleGrid     = 0x3D
	opOff            = 0x7A
	opUpToGrid       = 0x7C
	opDownToGrid     = 0x7D
)

// keep: puts a number into the store or among the control values.
func (m *machine) keep(op byte) bool {
	switch op {
	case opStore:
		i, v := m.pair()
		m.store[index(i, len(m.store))] = v
	case opPut:
		i, v := m.pair()
		m.cvt[index(i, len(m.cvt))] = v
	case opPutInUnits:
		i, v := m.pair()
		// Ahead of the scaling: what an instruction names is asked for first, then numbers are reckoned.
		at := index(i, len(m.cvt))
		m.cvt[at] = nearest(v, m.font.Size, m.font.Units)
	default:
		return false
	}
	return true
}

// set: the state, MINIMUM and CUT.
func (m *machine) set(op byte) bool {
	if way, is := wayOf(op); is {
		m.way = way
		return true
	}
	switch {
	case op == opAxisY:
		m.axis = axisY
	case op == opAxisX:
		m.axis = axisX
	case op >= opReferenceFirst && op <= opReferenceLast:
		m.references[op-opReferenceFirst] = m.pop()
	case op >= opPointerFirst && op <= opPointerLast:
		m.pointers[op-opPointerFirst] = m.popZone()
	case op == opPointers:
		n := m.popZone()
		m.pointers = [3]int{n, n, n}
	case op == opLoop:
		m.loop = m.popLoop()
	case op == opMinimum:
		m.minimum = m.pop()
	case op == opCut:
		m.cut = m.pop()
	default:
		return false
	}
	return true
}

// wayOf: the way of rounding that an instruction sets.
func wayOf(op byte) (int, bool) {
	switch op {
	case opGrid:
		return api.RoundGrid, true
	case opHalf:
		return api.RoundHalf, true
	case opDoubleGrid:
		return api.RoundDouble, true
	case opDownToGrid:
		return api.RoundDown, true
	case opUpToGrid:
		return api.RoundUp, true
	case opOff:
		return api.RoundOff, true
	}
	return 0, false
}

// popZone: takes the number of a zone.
func (m *machine) popZone() int { return index(m.pop(), len(m.zones)) }

// popLoop: takes how many points an instruction is to go through.
func (m *machine) popLoop() int {
	n := m.pop()
	if n < 1 {
		panic(api.ErrHint)
	}
	if n > api.MaxHintLoop {
		panic(api.ErrHintMany)
	}
	return n
}
