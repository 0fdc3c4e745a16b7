package type2_test

import (
	"math/rand"
	"testing"

	"serif/api"
)

// randomOperand: a small one for the most part, else one of any form.
func randomOperand(r *rand.Rand) []byte {
	switch r.Intn(200) {
	case 0:
		return fix([]int{2147483647, -2147483647, -2147483648, 2147483646, 32768, -32768}[r.Intn(6)])
	case 1, 2:
		return []byte{28, byte(r.Intn(256)), byte(r.Intn(256))}
	case 3, 4, 5, 6, 7, 8, 9, 10, 11, 12, 13, 14, 15, 16, 17, 18, 19:
		return fix((r.Intn(1<<32) - 1<<31) >> (6 + r.Intn(25)))
	case 20, 21, 22, 23, 24, 25, 26, 27, 28, 29:
		return []byte{byte(247 + r.Intn(8)), byte(r.Intn(256))}
	}
	return []byte{byte(32 + r.Intn(215))}
}

// randomCount: how many operands an operator gets; for the most part a number that it takes.
func randomCount(r *rand.Rand, o op) int {
	if r.Intn(60) == 0 {
		return r.Intn(60) // more than the stack takes, too
	}
	times := 1 + r.Intn(4)
	switch o {
	case 1, 3, 18, 23, 19, 20:
		return 2 * r.Intn(1+r.Intn(24))
	case 5:
		return 2 * times
	case 21:
		return 2
	case 6, 7:
		return times
	case 8:
		return 6 * times
	case 24:
		return 6*times + 2
	case 25:
		return 2*times + 6
	case 26, 27, 30, 31:
		return 4*times + r.Intn(2)
	case 1234:
		return 7
	case 1235:
		return 13
	case 1236:
		return 9
	case 1237:
		return 11
	case 4, 22:
		return 1
	}
	return 0 // a call's own operand comes apart
}

// randomCode: operators with their operands; of a program with a move ahead, and with an end.
func randomCode(r *rand.Rand, program bool) []byte {
	var out []byte
	stems := 0
	add := func(o op, spare int) {
		n := randomCount(r, o)
		for range n + spare {
			out = append(out, randomOperand(r)...)
		}
		if o == 10 || o == 29 {
			out = append(out, short(r.Intn(5)-107)...)
		}
		out = append(out, o.bytes()...)
		switch o {
		case 1, 3, 18, 23, 19, 20:
			stems += n / 2
		}
		if o == 19 || o == 20 {
			for range (stems + 7) / 8 {
				out = append(out, byte(r.Intn(256)))
			}
		}
	}
	if program {
		add([]op{1, 3, 18, 23, 19, 20, 21, 22, 4, 14}[r.Intn(10)], r.Intn(2))
		add([]op{21, 22, 4}[r.Intn(3)], 0)
	}
	all := []op{5, 6, 7, 8, 24, 25, 26, 27, 30, 31, 1234, 1235, 1236, 1237, 21, 22, 4, 19, 1, 10, 29, 5, 6, 7, 8, 26, 27, 30, 31}
	for range r.Intn(8) {
		o := all[r.Intn(len(all))]
		if r.Intn(100) == 0 {
			o = op(r.Intn(32))
		}
		add(o, 0)
	}
	if program {
		return append(out, 14)
	}
	return append(out, 11)
}

// randomFont: programs with routines and widths.
func randomFont(r *rand.Rand) cff {
	var c cff
	for range 1 + r.Intn(3) {
		c.programs = append(c.programs, randomCode(r, true))
	}
	for range r.Intn(5) {
		c.globals = append(c.globals, randomCode(r, false))
		c.locals = append(c.locals, randomCode(r, false))
	}
	for _, o := range []op{20, 21, 6, 1209, 20} {
		if r.Intn(2) == 0 {
			c.private = append(append(c.private, randomDictOperand(r)...), o.bytes()...)
		}
	}
	if r.Intn(3) == 0 {
		c.top = code(2, op(1206))
	}
	if r.Intn(3) == 0 {
		c.last = randomDictOperand(r)
	}
	return c
}

func randomDictOperand(r *rand.Rand) []byte {
	switch r.Intn(4) {
	case 0:
		return long(r.Intn(1<<32) - 1<<31)
	case 1:
		return []byte{30, byte(r.Intn(15)*16 + r.Intn(15)), byte(r.Intn(256)) | 15}
	}
	return short(r.Intn(3000) - 1500)
}

// all: every glyph of a font, and those around them.
func all(t *testing.T, b []byte, seen map[api.Errno]int) {
	t.Helper()
	p, e := open(t, b)
	if e != 0 {
		seen[e]++
		return
	}
	for g := -1; g <= min(p.font.Count(), 20); g++ {
		_, _, e := p.glyph(t, g)
		seen[e]++
	}
}

// Fonts of all sorts: Open and Glyph answer as the model does.
func TestRandom(t *testing.T) {
	r := rand.New(rand.NewSource(8))
	seen := map[api.Errno]int{}
	for range 30000 {
		all(t, randomFont(r).bytes(), seen)
	}
	for _, e := range []api.Errno{0, wrong, kind, many, noFix, none} {
		if seen[e] < 300 {
			t.Errorf("only %d answer %v", seen[e], e)
		}
	}
}

// Fonts that were changed in some bytes, or cut.
func TestChanged(t *testing.T) {
	r := rand.New(rand.NewSource(9))
	seen := map[api.Errno]int{}
	values := []byte{0, 1, 2, 3, 4, 5, 8, 10, 11, 12, 14, 17, 18, 19, 20, 21, 22, 28, 29, 30, 31, 32, 139, 246, 247, 250, 251, 254, 255}
	for range 30000 {
		b := randomFont(r).bytes()
		for range 1 + r.Intn(4) {
			b[r.Intn(len(b))] = values[r.Intn(len(values))]
		}
		if r.Intn(10) == 0 {
			b = b[:r.Intn(len(b))]
		}
		all(t, b, seen)
	}
	for _, e := range []api.Errno{0, wrong, kind, many, none} {
		if seen[e] < 300 {
			t.Errorf("only %d answer %v", seen[e], e)
		}
	}
}

// Programs and DICTs of any bytes, and tables of any bytes.
func TestAnyBytes(t *testing.T) {
	r := rand.New(rand.NewSource(10))
	seen := map[api.Errno]int{}
	any := func(most int) []byte {
		b := make([]byte, r.Intn(most))
		for i := range b {
			b[i] = byte(r.Intn(256))
			if r.Intn(3) == 0 {
				b[i] = byte(r.Intn(32))
			}
		}
		return b
	}
	for range 20000 {
		ahead := code(0, op(22))
		all(t, cff{programs: [][]byte{any(30), append(ahead, any(60)...)}, globals: [][]byte{any(20)}, locals: [][]byte{any(20), any(20)}}.bytes(), seen)
		all(t, cff{top: any(12), programs: [][]byte{{14}}}.bytes(), seen)
		all(t, cff{private: any(12), programs: [][]byte{{14}}}.bytes(), seen)
		all(t, any(60), seen)
		all(t, join(row(1, 0, 4, 4), any(60)), seen)
	}
	if seen[0] < 300 {
		t.Error(seen)
	}
}
