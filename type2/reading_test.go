package type2_test

import (
	"encoding/binary"

	"serif/api"
)

// model is a second reading of the chapter, which gives up by a panic with the error.
type model struct {
	programs, globals, locals [][]byte
	w0, w1                    int
}

// must: gives up, if something doesn't hold.
func must(holds bool, e api.Errno) {
	if !holds {
		panic(e)
	}
}

// caught: the error that was given up with.
func caught(e *api.Errno) {
	if x := recover(); x != nil {
		*e = x.(api.Errno)
	}
}

// bit: the bytes from one place to another.
func bit(b []byte, from, to int) []byte {
	must(from >= 0 && from <= to && to <= len(b), wrong)
	return b[from:to]
}

// word: a number of any size.
func word(b []byte) int {
	n := 0
	for _, x := range b {
		n = n*256 + int(x)
	}
	return n
}

func openModel(b []byte) (m *model, e api.Errno) {
	defer func() {
		if e != 0 {
			m = nil
		}
	}()
	defer caught(&e)
	m = &model{}
	must(bit(b, 0, 1)[0] == 1, kind)
	at := int(bit(b, 2, 3)[0])
	must(at >= 4, wrong)
	_, at = listModel(b, at)
	tops, at := listModel(b, at)
	_, at = listModel(b, at)
	m.globals, _ = listModel(b, at)
	must(len(tops) > 0, wrong)
	top := dictModel(tops[0])
	_, keyed := top[1230]
	must(!keyed, kind)
	if l, ok := top[1206]; ok {
		must(len(l) > 0, wrong)
		must(l[len(l)-1] == 2, kind)
	}
	must(len(top[17]) > 0, wrong)
	m.programs, _ = listModel(b, top[17][len(top[17])-1])
	must(len(m.programs) > 0, wrong)
	if l, ok := top[18]; ok {
		must(len(l) > 1, wrong)
		size, place := l[len(l)-2], l[len(l)-1]
		must(size >= 0 && place >= 0, wrong)
		m.privateModel(b, place, dictModel(bit(b, place, place+size)))
	}
	return m, 0
}

func (m *model) privateModel(b []byte, place int, d map[int][]int) {
	for _, o := range []int{19, 20, 21} {
		l, ok := d[o]
		if !ok {
			continue
		}
		must(len(l) > 0, wrong)
		switch n := l[len(l)-1]; o {
		case 19:
			must(n >= 0, wrong)
			m.locals, _ = listModel(b, place+n)
		case 20:
			m.w0 = n
		case 21:
			m.w1 = n
		}
	}
}

// listModel: the pieces of an INDEX, and where it ends.
func listModel(b []byte, at int) ([][]byte, int) {
	n := word(bit(b, at, at+2))
	if n == 0 {
		return nil, at + 2
	}
	s := int(bit(b, at+2, at+3)[0])
	must(s >= 1 && s <= 4, wrong)
	data := at + 3 + (n+1)*s
	table := bit(b, at+3, data)
	var list [][]byte
	from := word(table[:s])
	must(from == 1, wrong)
	for i := range n {
		to := word(table[(i+1)*s : (i+2)*s])
		list = append(list, bit(b, data-1+from, data-1+to))
		from = to
	}
	return list, data - 1 + from
}

func dictModel(b []byte) map[int][]int {
	out := map[int][]int{}
	operands := []int{}
	for len(b) > 0 {
		first := b[0]
		if n, size := operandModel(b); size > 0 {
			operands, b = append(operands, n), b[size:]
			continue
		}
		switch {
		case first == 29:
			operands, b = append(operands, int(int32(binary.BigEndian.Uint32(bit(b, 1, 5))))), b[5:]
			continue
		case first == 30:
			size := 1
			for end := false; !end; size++ {
				x := bit(b, size, size+1)[0]
				end = x >= 240 || x%16 == 15
			}
			operands, b = append(operands, 0), b[size:]
			continue
		}
		must(first <= 21 && len(operands) <= 48, wrong)
		name := int(first)
		if name == 12 {
			name, b = 1200+int(bit(b, 1, 2)[0]), b[1:]
		}
		out[name], operands, b = operands, []int{}, b[1:]
	}
	return out
}

// operandModel: the operand that the bytes begin with, and its size; 0, if they begin with none that DICTs and programs share.
func operandModel(b []byte) (int, int) {
	switch first := int(b[0]); {
	case first == 28:
		return int(int16(binary.BigEndian.Uint16(bit(b, 1, 3)))), 3
	case first >= 32 && first <= 246:
		return first - 139, 1
	case first >= 247 && first <= 250:
		return (first-247)*256 + int(bit(b, 1, 2)[0]) + 108, 2
	case first >= 251 && first <= 254:
		return -(first-251)*256 - int(bit(b, 1, 2)[0]) - 108, 2
	}
	return 0, 0
}

// drawer is one call of Glyph in the model.
type drawer struct {
	*model
	stack       []int
	out         [][]api.Knot
	x, y        int
	points      int
	width       int
	asked       bool
	stems, fuel int
}

func (m *model) glyph(g int) (o [][]api.Knot, w int, e api.Errno) {
	if g < 0 || g >= len(m.programs) {
		return nil, 0, none
	}
	d := &drawer{model: m, width: m.w0}
	defer func() {
		if e == 0 {
			o, w = d.out, d.width
		}
	}()
	defer caught(&e)
	must(d.run(m.programs[g], 0), wrong)
	return
}

// run: goes through the code at a depth of calls; true, if the end has come.
func (d *drawer) run(b []byte, depth int) bool {
	for {
		must(len(b) > 0, wrong)
		d.fuel++
		must(d.fuel <= 20000, many)
		n, size := operandModel(b)
		n *= 65536
		if b[0] == 255 {
			n, size = int(int32(binary.BigEndian.Uint32(bit(b, 1, 5)))), 5
		}
		if size > 0 {
			must(len(d.stack) < 48, many)
			d.stack, b = append(d.stack, n), b[size:]
			continue
		}
		name := int(b[0])
		b = b[1:]
		switch name {
		case 12:
			name, b = 1200+int(bit(b, 0, 1)[0]), b[1:]
		case 11:
			must(depth > 0, wrong)
			return false
		case 10, 29:
			if d.run(d.routine(name == 10, depth), depth+1) {
				return true
			}
			continue
		}
		l := d.stack
		d.stack = nil
		if d.plain(name, l) {
			return true
		}
		if name == 19 || name == 20 {
			b = b[len(bit(b, 0, (d.stems+7)/8)):]
		}
	}
}

// routine: the one that is called.
func (d *drawer) routine(local bool, depth int) []byte {
	list := d.globals
	if local {
		list = d.locals
	}
	must(len(d.stack) > 0, wrong)
	n := d.stack[len(d.stack)-1]
	d.stack = d.stack[:len(d.stack)-1]
	whole := n / 65536
	if n%65536 < 0 {
		whole--
	}
	if len(list) < 1240 {
		whole += 107
	} else if len(list) < 33900 {
		whole += 1131
	} else {
		whole += 32768
	}
	must(whole >= 0 && whole < len(list), wrong)
	must(depth < 10, many)
	return list[whole]
}

// whole: the nearest of a number in 16.16.
func whole(n int) int {
	if n < 0 {
		return -((-n + 32768) / 65536)
	}
	return (n + 32768) / 65536
}

// strip: takes the width off, if it is there.
func (d *drawer) strip(l []int, there bool) []int {
	if !d.asked && there {
		d.width = whole(l[0]) + d.w1
		l = l[1:]
	}
	d.asked = true
	return l
}

// plain: an operator that takes the whole stack; true, if it is the end.
func (d *drawer) plain(name int, l []int) bool {
	n := len(l)
	switch name {
	case 1, 3, 18, 23, 19, 20:
		l = d.strip(l, n%2 != 0)
		must(len(l)%2 == 0, wrong)
		d.stems += len(l) / 2
		must(d.stems <= 96, many)
	case 21:
		l = d.strip(l, n == 3)
		must(len(l) == 2, wrong)
		d.start(l[0], l[1])
	case 22, 4:
		l = d.strip(l, n == 2)
		must(len(l) == 1, wrong)
		if name == 22 {
			d.start(l[0], 0)
		} else {
			d.start(0, l[0])
		}
	case 14:
		must(n != 4 && (n != 5 || d.asked), kind)
		must(len(d.strip(l, n == 1)) == 0, wrong)
		return true
	default:
		for _, s := range ways(name, l) {
			d.to(s)
		}
	}
	return false
}

func (d *drawer) start(dx, dy int) {
	must(len(d.out) < 256, many)
	d.out = append(d.out, nil)
	d.to(api.Knot{X: dx, Y: dy, Kind: 1})
}

// to: a knot by its difference.
func (d *drawer) to(s api.Knot) {
	must(len(d.out) > 0, wrong)
	must(d.points < 4096, many)
	d.x, d.y = plus(d.x, s.X), plus(d.y, s.Y)
	d.points++
	last := len(d.out) - 1
	d.out[last] = append(d.out[last], api.Knot{X: whole(d.x), Y: whole(d.y), Kind: s.Kind})
}

// plus: a sum of FIX.
func plus(a, b int) int {
	for _, n := range []int{a, b, a + b} {
		must(n >= -2147483647 && n <= 2147483647, noFix)
	}
	return a + b
}

// bends: knots of curves, by pairs.
func bends(l ...int) (out []api.Knot) {
	for i := 0; i < len(l); i += 2 {
		k := 3
		if i%6 == 4 {
			k = 1
		}
		out = append(out, api.Knot{X: l[i], Y: l[i+1], Kind: k})
	}
	return out
}

// straights: knots of lines, by pairs.
func straights(l ...int) (out []api.Knot) {
	for i := 0; i < len(l); i += 2 {
		out = append(out, api.Knot{X: l[i], Y: l[i+1], Kind: 1})
	}
	return out
}

// ways: the differences of the knots that an operator draws.
func ways(name int, l []int) (out []api.Knot) {
	n := len(l)
	switch name {
	case 5:
		must(n >= 2 && n%2 == 0, wrong)
		return straights(l...)
	case 6, 7:
		must(n >= 1, wrong)
		for i, d := range l {
			if (i+name)%2 == 0 {
				out = append(out, straights(d, 0)...)
			} else {
				out = append(out, straights(0, d)...)
			}
		}
		return out
	case 8:
		must(n >= 6 && n%6 == 0, wrong)
		return bends(l...)
	case 24:
		must(n >= 8 && (n-2)%6 == 0, wrong)
		return append(bends(l[:n-2]...), straights(l[n-2:]...)...)
	case 25:
		must(n >= 8 && n%2 == 0, wrong)
		return append(straights(l[:n-6]...), bends(l[n-6:]...)...)
	case 26, 27, 30, 31:
		must(n >= 4 && (n%4 == 0 || n%4 == 1), wrong)
		return fours(name, l)
	}
	return flexes(name, l)
}

// fours: curves of four operands.
func fours(name int, l []int) (out []api.Knot) {
	odd, ahead := 0, len(l)%4
	if ahead == 1 && name < 30 {
		odd, l = l[0], l[1:]
	} else if ahead == 1 {
		odd, l = l[len(l)-1], l[:len(l)-1]
	}
	for i := 0; i < len(l)/4; i++ {
		a, b, c, d := l[4*i], l[4*i+1], l[4*i+2], l[4*i+3]
		first, last := 0, 0
		if i == 0 {
			first = odd
		}
		if i == len(l)/4-1 {
			last = odd
		}
		switch {
		case name == 26:
			out = append(out, bends(first, a, b, c, 0, d)...)
		case name == 27:
			out = append(out, bends(a, first, b, c, d, 0)...)
		case (name+i)%2 == 1:
			out = append(out, bends(a, 0, b, c, last, d)...)
		default:
			out = append(out, bends(0, a, b, c, d, last)...)
		}
	}
	return out
}

// flexes: what is left of the operators.
func flexes(name int, l []int) []api.Knot {
	needs := map[int]int{1234: 7, 1235: 13, 1236: 9, 1237: 11}
	must(needs[name] > 0, kind)
	must(len(l) == needs[name], wrong)
	switch name {
	case 1234:
		return bends(l[0], 0, l[1], l[2], l[3], 0, l[4], 0, l[5], -l[2], l[6], 0)
	case 1235:
		return bends(l[:12]...)
	case 1236:
		return bends(l[0], l[1], l[2], l[3], l[4], 0, l[5], 0, l[6], l[7], l[8], -plus(plus(l[1], l[3]), l[7]))
	}
	x, y := l[0], l[1]
	for i := 2; i < 10; i += 2 {
		x, y = plus(x, l[i]), plus(y, l[i+1])
	}
	if x*x > y*y {
		return bends(append(append([]int{}, l[:10]...), l[10], -y)...)
	}
	return bends(append(append([]int{}, l[:10]...), -x, l[10])...)
}
