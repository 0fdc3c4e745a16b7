package hint_test

import (
	"math/big"
	"slices"
	"testing"

	"serif/api"
	"serif/gstate"
	"serif/hint"
)

// The signature and the types of the chapter.
var (
	_ func(f api.HintFont, z api.Zone, code []byte) (api.Zone, api.Errno) = hint.Run
	_ struct {
		Fpgm, Prep  []byte
		Cvt         []int
		Size, Units int
	} = api.HintFont{}
)

const (
	maxFix   = 2147483647
	maxFuel  = 10000
	maxStack = 256
)

// reading is a second reading of the chapter: exact numbers without an end, parts of programs found by going down into them.
type reading struct {
	font         api.HintFont
	cvt, store   []int
	functions    [64][][]byte // none, or the one
	zones        [2]api.Zone
	minimum, cut int
	fuel, deep   int
	glyph        bool
	stack        []int
	y            bool
	rp, zp       [3]int
	loop, way    int
}

// stop ends a second reading.
func stop(e int) { panic(api.Errno(e)) }

// need: 101, if something isn't so.
func need(so bool) {
	if !so {
		stop(101)
	}
}

// runModel: Run.
func runModel(f api.HintFont, z api.Zone, code []byte) (out api.Zone, e api.Errno) {
	defer func() {
		if given := recover(); given != nil {
			out, e = api.Zone{}, given.(api.Errno)
		}
	}()
	if f.Units < 16 || f.Units > 16384 || f.Size < 1 || f.Size > 65536 || len(f.Cvt) > 1024 || !gstate.Sound(z) {
		stop(105)
	}
	for _, c := range [][]byte{f.Fpgm, f.Prep, code} {
		if len(c) > 4096 {
			stop(103)
		}
	}
	r := reading{font: f, store: make([]int, 64), minimum: 64, cut: 68}
	for _, units := range f.Cvt {
		r.cvt = append(r.cvt, share(units, f.Size, f.Units))
	}
	r.zones[0] = filled(16)
	for i, c := range [][]byte{f.Fpgm, f.Prep, code} {
		if i == 2 {
			r.zones[1], r.glyph = deep(z), true
		}
		r.stack, r.y, r.rp, r.zp, r.loop, r.way = nil, false, [3]int{}, [3]int{1, 1, 1}, 1, 0
		r.all(c)
	}
	return r.zones[1], 0
}

// fix: a number, if it is a FIX.
func fix(n *big.Int) int {
	if n.CmpAbs(big.NewInt(maxFix)) > 0 {
		stop(104)
	}
	return int(n.Int64())
}

// sum: the numbers, each taken with its sign.
func sum(a, b int) int { return fix(new(big.Int).Add(big.NewInt(int64(a)), big.NewInt(int64(b)))) }

// less: a without b.
func less(a, b int) int { return sum(a, -b) }

// share: the nearest of a b by c, halves away from 0.
func share(a, b, c int) int {
	p, by := new(big.Int).Mul(big.NewInt(int64(a)), big.NewInt(int64(b))), big.NewInt(int64(c))
	sign := int64(p.Sign() * by.Sign())
	p.Abs(p).Lsh(p, 1)
	by.Abs(by)
	q := p.Add(p, by).Quo(p, new(big.Int).Lsh(by, 1))
	return fix(q.Mul(q, big.NewInt(sign)))
}

// length: the bytes of the instruction at a place with those that it needs.
func length(c []byte, at int) int {
	n, op := 1, int(c[at])
	if op == 0x40 || op == 0x41 {
		need(at+1 < len(c))
		n = 2 + int(c[at+1])*(op-0x3F)
	}
	if op >= 0xB0 && op <= 0xB7 {
		n = op - 0xB0 + 2
	}
	if op >= 0xB8 && op <= 0xBF {
		n = 2*(op-0xB8) + 3
	}
	need(at+n <= len(c))
	return n
}

// pastEnd: the place behind the 59 of a 58 that ends just ahead of at. With orElse: behind the 1B that belongs to it, if there is one.
func pastEnd(c []byte, at int, orElse bool) int {
	for at < len(c) {
		op := c[at]
		at += length(c, at)
		if op == 0x58 {
			at = pastEnd(c, at, false)
		}
		if op == 0x59 || orElse && op == 0x1B {
			return at
		}
	}
	stop(101)
	return 0
}

// bodyEnd: the place of the next 2D, or where the part that begins at a place ends: with inside, at its 59.
func bodyEnd(c []byte, at int, inside bool) int {
	for at < len(c) {
		switch c[at] {
		case 0x2C:
			stop(101)
		case 0x2D:
			need(!inside)
			return at
		case 0x58:
			at = bodyEnd(c, at+1, true)
		case 0x1B:
			need(inside)
		case 0x59:
			need(inside)
			return at
		}
		at += length(c, at)
	}
	stop(101)
	return 0
}

// all: runs a program or function.
func (r *reading) all(c []byte) {
	for at := 0; at < len(c); {
		if r.fuel == maxFuel {
			stop(103)
		}
		r.fuel++
		at = r.one(c, at, int(c[at]), at+length(c, at))
	}
}

// one: does an instruction; the place where it goes on.
func (r *reading) one(c []byte, at, op, next int) int {
	switch op {
	case 0x58:
		if r.off() == 0 {
			return pastEnd(c, next, true)
		}
	case 0x1B:
		return pastEnd(c, next, false)
	case 0x59:
	case 0x1C:
		return jumped(c, at, r.off())
	case 0x78, 0x79:
		a, d := r.off(), r.off()
		if (op == 0x78 && a != 0) || (op == 0x79 && a == 0) {
			return jumped(c, at, d)
		}
	case 0x2C:
		k := r.off()
		need(!r.glyph && r.deep == 0 && k >= 0 && k <= 63)
		end := bodyEnd(c, next, false)
		r.functions[k] = [][]byte{c[next:end]}
		return end + 1
	case 0x2D:
		stop(101)
	case 0x2B:
		r.called(r.off(), 1)
	case 0x2A:
		k := r.off()
		r.called(k, r.off())
	default:
		if !r.plain(c[at+1:next], op) && !r.kept(op) && !r.points(op) && !r.loops(op) {
			stop(102)
		}
	}
	return next
}

// jumped: where a jump goes.
func jumped(c []byte, at, d int) int {
	need(d != 0 && at+d >= 0 && at+d <= len(c))
	return at + d
}

// called: runs a function n times.
func (r *reading) called(k, n int) {
	need(k >= 0 && k < 64 && r.functions[max(0, min(k, 63))] != nil && n >= 0)
	if r.deep == 16 || n > 1000 {
		stop(103)
	}
	r.deep++
	for range n {
		r.all(r.functions[k][0])
	}
	r.deep--
}

// off: takes the top number.
func (r *reading) off() int {
	need(len(r.stack) > 0)
	n := r.stack[len(r.stack)-1]
	r.stack = slices.Clone(r.stack[:len(r.stack)-1])
	return n
}

// on: pushes numbers.
func (r *reading) on(list ...int) {
	r.stack = slices.Concat(r.stack, list)
	if len(r.stack) > maxStack {
		stop(103)
	}
}

// flag: 1 or 0.
func flag(so bool) int {
	return map[bool]int{true: 1}[so]
}

// down: the multiple of 64 that is not above n.
func down(n int) int { return n - (n%64+64)%64 }

// way64: n as the way of rounding has it; it may be no FIX.
func (r *reading) way64(n int) int {
	if n < 0 {
		return -r.way64(-n)
	}
	return []int{n + 32 - (n+32)%64, n - n%64 + 32, n + 16 - (n+16)%32, n - n%64, n + (64-n%64)%64, n}[r.way]
}

// round: n as the way of rounding has it.
func (r *reading) round(n int) int { return sum(r.way64(n), 0) }

// plain: instructions on numbers alone.
func (r *reading) plain(bytes []byte, op int) bool {
	two := func(of func(a, b int) int) {
		b := r.off()
		r.on(of(r.off(), b))
	}
	one := func(of func(a int) int) { r.on(of(r.off())) }
	switch {
	case op == 0x40 || op >= 0xB0 && op <= 0xB7:
		if op == 0x40 {
			bytes = bytes[1:]
		}
		for _, b := range bytes {
			r.on(int(b))
		}
	case op == 0x41 || op >= 0xB8 && op <= 0xBF:
		if op == 0x41 {
			bytes = bytes[1:]
		}
		for i := 0; i < len(bytes); i += 2 {
			n := int(bytes[i])*256 + int(bytes[i+1])
			if n > 32767 {
				n -= 65536
			}
			r.on(n)
		}
	case op == 0x20:
		a := r.off()
		r.on(a, a)
	case op == 0x21:
		r.off()
	case op == 0x22:
		r.stack = nil
	case op == 0x23:
		b, a := r.off(), r.off()
		r.on(b, a)
	case op == 0x24:
		r.on(len(r.stack))
	case op == 0x25, op == 0x26, op == 0x8A:
		k := 3
		if op != 0x8A {
			k = r.off()
		}
		need(k >= 1 && k <= len(r.stack))
		at := len(r.stack) - k
		n := r.stack[at]
		if op != 0x25 {
			r.stack = slices.Concat(r.stack[:at], r.stack[at+1:])
		}
		r.on(n)
	case op == 0x60:
		two(sum)
	case op == 0x61:
		two(less)
	case op == 0x63:
		two(func(a, b int) int { return share(a, b, 64) })
	case op == 0x62:
		two(func(a, b int) int {
			need(b != 0)
			return share(64, a, b)
		})
	case op == 0x64:
		one(func(a int) int {
			if a < 0 {
				return -a
			}
			return a
		})
	case op == 0x65:
		one(func(a int) int { return 0 - a })
	case op == 0x66:
		one(func(a int) int { return sum(down(a), 0) })
	case op == 0x67:
		one(func(a int) int { return sum(-down(-a), 0) })
	case op == 0x8B:
		two(func(a, b int) int { return max(a, b) })
	case op == 0x8C:
		two(func(a, b int) int { return min(a, b) })
	case op >= 0x50 && op <= 0x55:
		two(func(a, b int) int {
			return flag([]bool{a < b, a <= b, a > b, a >= b, a == b, a != b}[op-0x50])
		})
	case op == 0x56, op == 0x57:
		one(func(a int) int { return flag((down(r.way64(a))/64%2 != 0) == (op == 0x56)) })
	case op == 0x5A:
		two(func(a, b int) int { return flag(a != 0 && b != 0) })
	case op == 0x5B:
		two(func(a, b int) int { return flag(!(a == 0 && b == 0)) })
	case op == 0x5C:
		one(func(a int) int { return flag(a == 0) })
	case op >= 0x68 && op <= 0x6B:
		one(r.round)
	case op >= 0x6C && op <= 0x6F:
		one(func(a int) int { return a })
	case op == 0x4B:
		r.on((r.font.Size + 32) / 64)
	default:
		return false
	}
	return true
}

// place: the i-th of a list.
func place(list []int, i int) *int {
	need(i >= 0 && i < len(list))
	return &list[i]
}

// kept: the store, the control values and the state.
func (r *reading) kept(op int) bool {
	switch op {
	case 0x42:
		v, i := r.off(), r.off()
		*place(r.store, i) = v
	case 0x43:
		r.on(*place(r.store, r.off()))
	case 0x44:
		v, i := r.off(), r.off()
		*place(r.cvt, i) = v
	case 0x70:
		v, i := r.off(), r.off()
		to := place(r.cvt, i)
		*to = share(v, r.font.Size, r.font.Units)
	case 0x45:
		r.on(*place(r.cvt, r.off()))
	case 0x00, 0x01:
		r.y = op == 0
	case 0x10, 0x11, 0x12:
		r.rp[op-0x10] = r.off()
	case 0x13, 0x14, 0x15, 0x16:
		n := r.off()
		need(n == 0 || n == 1)
		for i := range 3 {
			if op == 0x16 || op == 0x13+i {
				r.zp[i] = n
			}
		}
	case 0x17:
		n := r.off()
		need(n > 0)
		if n > 1000 {
			stop(103)
		}
		r.loop = n
	case 0x1A:
		r.minimum = r.off()
	case 0x1D:
		r.cut = r.off()
	case 0x18, 0x19, 0x3D, 0x7D, 0x7C, 0x7A:
		r.way = map[int]int{0x18: 0, 0x19: 1, 0x3D: 2, 0x7D: 3, 0x7C: 4, 0x7A: 5}[op]
	default:
		return false
	}
	return true
}

// spot: a point of a zone, by its number.
type spot struct {
	r       *reading
	zone, p int
}

// of: the point p of zp0, zp1 or zp2.
func (r *reading) of(zp, p int) spot {
	q := spot{r, r.zp[zp], p}
	need(p >= 0 && p < len(r.zones[q.zone].Org))
	return q
}

// one: a coordinate.
func (q spot) one(list []api.Spot) *int {
	if q.r.y {
		return &list[q.p].Y
	}
	return &list[q.p].X
}

func (q spot) was() int { return *q.one(q.r.zones[q.zone].Org) }
func (q spot) is() int  { return *q.one(q.r.zones[q.zone].Cur) }

// put: the point is somewhere, and touched.
func (q spot) put(to int) {
	*q.one(q.r.zones[q.zone].Cur) = to
	if q.r.y {
		q.r.zones[q.zone].TouchY[q.p] = true
	} else {
		q.r.zones[q.zone].TouchX[q.p] = true
	}
}

// made: the point was and is somewhere.
func (q spot) made(at int) {
	*q.one(q.r.zones[q.zone].Org) = at
	*q.one(q.r.zones[q.zone].Cur) = at
}

// far: are the two further from each other than CUT?
func (r *reading) far(a, b int) bool {
	d := less(a, b)
	return d > r.cut || -d > r.cut
}

// distant: puts p at a distance from a point; rp1, rp2 and perhaps rp0 are set.
func (r *reading) distant(from, p spot, d int, refer bool) {
	p.put(sum(from.is(), d))
	r.rp[1], r.rp[2] = r.rp[0], p.p
	if refer {
		r.rp[0] = p.p
	}
}

// minimal: d kept.
func (r *reading) minimal(op, d, o int) int {
	if op&8 == 8 && o >= 0 && d < r.minimum {
		return r.minimum
	}
	if op&8 == 8 && o < 0 && d > -r.minimum {
		return -r.minimum
	}
	return d
}

// points: instructions on one or two points, or all.
func (r *reading) points(op int) bool {
	switch {
	case op == 0x2E || op == 0x2F:
		q := r.of(0, r.off())
		if op == 0x2E {
			q.put(q.is())
		} else {
			q.put(r.round(q.is()))
		}
		r.rp[0], r.rp[1] = q.p, q.p
	case op == 0x3E || op == 0x3F:
		i, p := r.off(), r.off()
		q, v := r.of(0, p), *place(r.cvt, i)
		if r.zp[0] == 0 {
			q.made(v)
		}
		if op == 0x3F {
			if r.far(v, q.is()) {
				v = q.is()
			}
			v = r.round(v)
		}
		q.put(v)
		r.rp[0], r.rp[1] = p, p
	case op >= 0xC0 && op <= 0xDF:
		q, from := r.of(1, r.off()), r.of(0, r.rp[0])
		o := less(q.was(), from.was())
		d := o
		if op&4 == 4 {
			d = r.round(o)
		}
		r.distant(from, q, r.minimal(op, d, o), op&16 == 16)
	case op >= 0xE0:
		i, p := r.off(), r.off()
		q, c, from := r.of(1, p), *place(r.cvt, i), r.of(0, r.rp[0])
		if r.zp[1] == 0 {
			q.made(sum(from.was(), c))
		}
		o := less(q.was(), from.was())
		if o < 0 && c >= 0 || o >= 0 && c < 0 {
			c = -c
		}
		if op&4 == 4 {
			if r.far(c, o) {
				c = o
			}
			c = r.round(c)
		}
		r.distant(from, q, r.minimal(op, c, o), op&16 == 16)
	case op == 0x3A || op == 0x3B:
		d, p := r.off(), r.off()
		q, from := r.of(1, p), r.of(0, r.rp[0])
		r.distant(from, q, d, op == 0x3B)
	case op == 0x46:
		r.on(r.of(2, r.off()).is())
	case op == 0x47:
		r.on(r.of(2, r.off()).was())
	case op == 0x48:
		v, p := r.off(), r.off()
		r.of(2, p).put(v)
	case op == 0x49 || op == 0x4A:
		second, first := r.off(), r.off()
		p, q := r.of(0, first), r.of(1, second)
		if op == 0x49 {
			r.on(less(p.is(), q.is()))
		} else {
			r.on(less(p.was(), q.was()))
		}
	case op == 0x30 || op == 0x31:
		z, e := gstate.Smooth(r.zones[1], 0x31-op)
		if e != 0 {
			stop(104)
		}
		r.zones[1] = z
	default:
		return false
	}
	return true
}

// loops: instructions on as many points as loop says.
func (r *reading) loops(op int) bool {
	by := 0
	if op == 0x38 {
		by = r.off()
	}
	each := func(zp int, do func(q spot)) {
		for range r.loop {
			do(r.of(zp, r.off()))
		}
		r.loop = 1
	}
	there := func() { need(len(r.stack) >= r.loop) }
	switch op {
	case 0x32, 0x33:
		there()
		from := r.of(0x33-op, r.rp[0x34-op])
		move := less(from.is(), from.was())
		each(2, func(q spot) { q.put(sum(q.is(), move)) })
	case 0x38:
		there()
		each(2, func(q spot) { q.put(sum(q.is(), by)) })
	case 0x3C:
		there()
		from := r.of(0, r.rp[0])
		each(1, func(q spot) { q.put(from.is()) })
	case 0x39:
		there()
		a, b := r.of(0, r.rp[1]), r.of(1, r.rp[2])
		w := less(b.was(), a.was())
		n := less(b.is(), a.is())
		each(2, func(q spot) {
			o := less(q.was(), a.was())
			if w != 0 {
				o = share(o, n, w)
			}
			q.put(sum(a.is(), o))
		})
	default:
		return false
	}
	return true
}

// at: a spot.
func at(x, y int) api.Spot { return api.Spot{X: x, Y: y} }

// filled: so many points at (0, 0), none touched, without contours.
func filled(n int) api.Zone {
	return api.Zone{Org: make([]api.Spot, n), Cur: make([]api.Spot, n), TouchX: make([]bool, n), TouchY: make([]bool, n)}
}

// deep: the zone in memory of its own.
func deep(z api.Zone) api.Zone {
	return api.Zone{
		Org: append([]api.Spot{}, z.Org...), Cur: append([]api.Spot{}, z.Cur...),
		TouchX: append([]bool{}, z.TouchX...), TouchY: append([]bool{}, z.TouchY...), Ends: append([]int{}, z.Ends...),
	}
}

// same: are the zones the same? A list that is nil is an empty one.
func same(a, b api.Zone) bool {
	return slices.Equal(a.Org, b.Org) && slices.Equal(a.Cur, b.Cur) && slices.Equal(a.TouchX, b.TouchX) && slices.Equal(a.TouchY, b.TouchY) && slices.Equal(a.Ends, b.Ends)
}

// judged: the answer is the zone and the error asked for.
func judged(t *testing.T, name string, z api.Zone, e api.Errno, right api.Zone, want api.Errno) {
	t.Helper()
	if e != want || !same(z, right) {
		t.Fatalf("%s: %v, %v; not %v, %v", name, z, e, right, want)
	}
}
