package hint_test

import (
	"math/rand"
	"slices"
	"testing"

	"serif/api"
	"serif/hint"
)

// kinds: what instructions take: v any number, p a point, i a control value, s a place of the store, n how many times, z a zone, k a place on the stack.
func kinds() map[int]string {
	out := map[int]string{
		0x20: "v", 0x21: "v", 0x22: "", 0x23: "vv", 0x24: "", 0x25: "vvk", 0x26: "vvk", 0x8A: "vvv",
		0x60: "vv", 0x61: "vv", 0x62: "vv", 0x63: "vv", 0x64: "v", 0x65: "v", 0x66: "v", 0x67: "v", 0x8B: "vv", 0x8C: "vv",
		0x56: "v", 0x57: "v", 0x5A: "vv", 0x5B: "vv", 0x5C: "v",
		0x42: "sv", 0x43: "s", 0x44: "iv", 0x70: "iv", 0x45: "i", 0x4B: "", 0x00: "", 0x01: "",
		0x10: "p", 0x11: "p", 0x12: "p", 0x13: "z", 0x14: "z", 0x15: "z", 0x16: "z", 0x17: "n",
		0x18: "", 0x19: "", 0x3D: "", 0x7D: "", 0x7C: "", 0x7A: "", 0x1A: "v", 0x1D: "v",
		0x2E: "p", 0x2F: "p", 0x3E: "pi", 0x3F: "pi", 0x3A: "pv", 0x3B: "pv", 0x32: "ppp", 0x33: "ppp", 0x38: "pppv", 0x3C: "ppp", 0x39: "ppp",
		0x46: "p", 0x47: "p", 0x48: "pv", 0x49: "pp", 0x4A: "pp", 0x30: "", 0x31: "",
	}
	for op := 0x50; op <= 0x55; op++ {
		out[op] = "vv"
	}
	for op := 0x68; op <= 0x6F; op++ {
		out[op] = "v"
	}
	for op := 0xC0; op <= 0xDF; op++ {
		out[op] = "p"
	}
	for op := 0xE0; op <= 0xFF; op++ {
		out[op] = "pi"
	}
	return out
}

// author writes programs at random.
type author struct {
	*rand.Rand
	kinds       map[int]string
	ops, points []int // all instructions, those on points
	size        int   // the zone's points
	cvt         int   // how many control values
	functions   []int // those that are there
}

func newAuthor(seed int64) *author {
	a := &author{Rand: rand.New(rand.NewSource(seed)), kinds: kinds()}
	for op, takes := range a.kinds {
		a.ops = append(a.ops, op)
		if len(takes) > 0 && takes[0] == 'p' {
			a.points = append(a.points, op)
		}
	}
	slices.Sort(a.ops)
	slices.Sort(a.points)
	return a
}

// near: mostly from 0 on below n; at times one beyond.
func (a *author) near(n int) int {
	if a.Intn(60) == 0 {
		return []int{-1, n}[a.Intn(2)]
	}
	return a.Intn(max(n, 1))
}

// operand: pushes a number of a kind.
func (a *author) operand(kind rune) []byte {
	switch kind {
	case 'p':
		if a.Intn(40) == 0 {
			return code(a.near(16))
		}
		return code(a.near(a.size))
	case 'i':
		return code(a.near(a.cvt))
	case 's':
		return code([]int{0, 1, 2, 63, a.near(64)}[a.Intn(5)])
	case 'n':
		return code([]int{1, 2, 3, a.near(5), a.near(3)}[a.Intn(5)])
	case 'z':
		return code([]int{0, 1, 1, 1, a.near(2)}[a.Intn(5)])
	case 'k':
		return code([]int{1, 2, 2, 3, a.near(4)}[a.Intn(5)])
	}
	switch a.Intn(8) {
	case 0, 1:
		return code("B0", byte(a.Intn(256)))
	case 2:
		return code(a.Intn(65536) - 32768)
	case 3:
		return code(a.near(a.cvt), "45")
	case 4:
		return code(64 * (a.Intn(7) - 3))
	case 5:
		return code("41 01", byte(255*a.Intn(2)), byte(a.Intn(256)))
	}
	return code(a.Intn(9) - 4)
}

// statement: an instruction with what it takes.
func (a *author) statement() []byte {
	op := a.ops[a.Intn(len(a.ops))]
	if a.Intn(3) > 0 {
		op = a.points[a.Intn(len(a.points))]
	}
	var out []byte
	for _, kind := range a.kinds[op] {
		out = append(out, a.operand(kind)...)
	}
	return append(out, byte(op))
}

// part: statements, and what leads through them.
func (a *author) part(depth int) []byte {
	var out []byte
	for range a.Intn(7) {
		switch n := a.Intn(24); {
		case n == 0 && depth > 0:
			out = code(out, a.operand('v'), "58", a.part(depth-1), "59")
		case n == 1 && depth > 0:
			out = code(out, a.operand('v'), "58", a.part(depth-1), "1B", a.part(depth-1), "59")
		case n == 2 && depth > 0:
			body := a.part(depth - 1)
			far := len(body) + 1 - a.Intn(2)*a.Intn(4)
			out = code(out, []any{code(far, "1C"), code(far, a.operand('v'), "78"), code(far, a.operand('v'), "79")}[a.Intn(3)], body)
		case n == 3:
			out = code(out, -a.Intn(30)-1, a.operand('v'), byte(0x78+a.Intn(2)))
		case n == 4 && len(a.functions) > 0:
			out = code(out, a.functions[a.Intn(len(a.functions))], "2B")
		case n == 5 && len(a.functions) > 0:
			out = code(out, a.near(5), a.functions[a.Intn(len(a.functions))], "2A")
		default:
			out = code(out, a.statement())
		}
	}
	return out
}

// fpgm: a program with functions in it.
func (a *author) fpgm() []byte {
	var out []byte
	for range a.Intn(3) {
		k := []int{0, 1, 2, 63, a.near(64)}[a.Intn(5)]
		out = code(out, function(k, a.part(2)))
		a.functions = append(a.functions, k)
		out = code(out, a.numbers())
	}
	return out
}

// numbers: a few instructions that no zone needs.
func (a *author) numbers() []byte {
	var out []byte
	for range a.Intn(4) {
		op := a.ops[a.Intn(len(a.ops))]
		if slices.Contains(a.points, op) {
			continue
		}
		for _, kind := range a.kinds[op] {
			out = append(out, a.operand(kind)...)
		}
		out = append(out, byte(op))
	}
	return out
}

// spoilt: a program in which some bytes are others, more, or missing.
func (a *author) spoilt(c []byte) []byte {
	c = slices.Clone(c)
	for range 1 + a.Intn(2) {
		if len(c) == 0 {
			return append(c, byte(a.Intn(256)))
		}
		at := a.Intn(len(c))
		switch a.Intn(5) {
		case 0, 1:
			c[at] = byte(a.Intn(256))
		case 2:
			c = slices.Insert(c, at, []byte{0x58, 0x59, 0x1B, 0x2C, 0x2D, byte(a.Intn(256))}[a.Intn(6)])
		case 3:
			c = slices.Delete(c, at, at+1)
		case 4:
			if a.Intn(3) == 0 {
				c = c[:at]
			}
		}
	}
	return c
}

// number: mostly small; at times at the ends of FIX or half-way there.
func (a *author) number() int {
	n := a.Intn(400)
	switch a.Intn(30) {
	case 0:
		n = []int{maxFix, maxFix - 1, maxFix - 31, maxFix - 32, 1 << 30, 1<<30 - 1}[a.Intn(6)]
	case 1, 2, 3:
		n = 0
	case 4, 5, 6, 7:
		n = 64 * a.Intn(5)
	}
	if a.Intn(2) == 0 {
		return -n
	}
	return n
}

// zone: a sound one of a few points, some of which are moved and touched.
func (a *author) zone() api.Zone {
	a.size = a.Intn(9)
	z := filled(a.size)
	for p := range a.size {
		z.Org[p] = at(a.number(), a.number())
		z.Cur[p] = z.Org[p]
		if a.Intn(3) == 0 {
			z.Cur[p] = at(a.number(), a.number())
		}
		z.TouchX[p], z.TouchY[p] = a.Intn(6) == 0, a.Intn(6) == 0
		if a.Intn(5) == 0 || p == a.size-1 && a.Intn(4) > 0 {
			z.Ends = append(z.Ends, p)
		}
	}
	return z
}

// font: its measures and control values.
func (a *author) font() api.HintFont {
	f := [...]api.HintFont{plain(), {Size: 640, Units: 1000}, {Size: 65536, Units: 16}, {Size: 1, Units: 16384}, {Size: 1 + a.Intn(65536), Units: 16 + a.Intn(16369)}}[[]int{0, 0, 0, 1, 1, 2, 3, 4}[a.Intn(8)]]
	a.cvt = a.Intn(7)
	for range a.cvt {
		v := a.number()
		if a.Intn(40) > 0 && max(v, -v) > maxFix/f.Size*f.Units {
			v %= 1000
		}
		f.Cvt = append(f.Cvt, v)
	}
	return f
}

// TestBesideReading: programs at random do what the chapter says, read once more.
func TestBesideReading(t *testing.T) {
	seen := map[api.Errno]int{}
	for seed := range int64(60000) {
		a := newAuthor(seed)
		z, f := a.zone(), a.font()
		a.functions = nil
		f.Fpgm, f.Prep = a.fpgm(), a.numbers()
		if a.Intn(4) == 0 {
			f.Prep = a.fpgm()
		}
		c := a.part(3)
		for range a.Intn(4) {
			c = code(c, a.part(3))
		}
		switch a.Intn(9) {
		case 0:
			f.Fpgm = a.spoilt(f.Fpgm)
		case 1:
			f.Prep = a.spoilt(f.Prep)
		case 2, 3:
			c = a.spoilt(c)
		}
		right, want := runModel(f, z, c)
		got, e := hint.Run(f, z, c)
		if e != want || !same(got, right) {
			t.Fatalf("%d: %+v, %+v, %x: %+v, %v; not %+v, %v", seed, f, z, c, got, e, right, want)
		}
		seen[e]++
	}
	for _, e := range []api.Errno{0, 101, 102, 103, 104} {
		if seen[e] < 200 {
			t.Error("too few to tell:", e, seen)
		}
	}
	t.Log(seen)
}

// TestBytesBesideReading: bytes at random, most of them no program.
func TestBytesBesideReading(t *testing.T) {
	r := rand.New(rand.NewSource(7))
	for i := range 60000 {
		c := make([]byte, r.Intn(40))
		for at := range c {
			c[at] = byte(r.Intn(256))
		}
		f := plain(5, -70, 64)
		switch r.Intn(3) {
		case 0:
			f.Fpgm = c
		case 1:
			f.Prep = c
		}
		z := row(5, 70, 40)
		right, want := runModel(f, z, c)
		got, e := hint.Run(f, z, c)
		if e != want || !same(got, right) {
			t.Fatalf("%d: %+v, %x: %v, %v; not %v, %v", i, f, c, got, e, right, want)
		}
	}
}
