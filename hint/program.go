package hint

import "serif/api"

// program is the bytes of a program or of a function: instructions, and what some of them need behind them.
type program []byte

// behind: the place behind the instruction at a place, and behind the bytes that it needs.
func (c program) behind(at int) int {
	next := at + 1
	switch op := c[at]; {
	case op == opPushBytes || op == opPushWords:
		if next == len(c) {
			panic(api.ErrHint)
		}
		next += 1 + int(c[next])*width(op)
	case isPush(op):
		next += pushes(op) * width(op)
	}
	if next > len(c) {
		panic(api.ErrHint)
	}
	return next
}

// isPush: does the instruction itself say how many numbers lie behind it?
func isPush(op byte) bool { return op >= opPushFirst && op <= opPushLast }

// pushes: how many.
func pushes(op byte) int { return int(op&7) + 1 }

// width: the bytes of each number behind an instruction that pushes.
func width(op byte) int {
	if op == opPushWords || isPush(op) && op >= opPushFirstWords {
		return 2
	}
	return 1
}

// partEnd: the place behind the end that belongs to a condition or, without orElse, to an else. From at on, behind that instruction, all is gone through.
func (c program) partEnd(at int, orElse bool) int {
	open := 0
	for at < len(c) {
		op := c[at]
		at = c.behind(at)
		switch {
		case op == opIf:
			open++
		case open > 0 && op == opEndIf:
			open--
		case open == 0 && (op == opEndIf || orElse && op == opElse):
			return at
		}
	}
	panic(api.ErrHint)
}

// function: the function that begins at a place, and the place behind its end.
func (c program) function(from int) (program, int) {
	open, at := 0, from
	for at < len(c) {
		op, next := c[at], c.behind(at)
		switch {
		case op == opFunctionEnd && open == 0:
			return c[from:at], next
		case op == opIf:
			open++
		case op == opEndIf && open > 0:
			open--
		case op == opElse && open > 0:
		case op == opFunction || op == opFunctionEnd || op == opElse || op == opEndIf:
			panic(api.ErrHint)
		}
		at = next
	}
	panic(api.ErrHint)
}
