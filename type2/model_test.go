package type2_test

import (
	"bytes"
	"encoding/binary"
	"slices"
	"testing"

	"serif/api"
	"serif/peek"
	"serif/type2"
)

// The signatures and the type of the chapter.
var (
	_ func(v *peek.View) (*type2.Font, api.Errno)               = type2.Open
	_ func(f *type2.Font) int                                   = (*type2.Font).Count
	_ func(f *type2.Font, g int) ([][]api.Knot, int, api.Errno) = (*type2.Font).Glyph
)

// The errors, as the chapter numbers them.
const (
	wrong, kind, many, noFix, none api.Errno = 81, 82, 83, 84, 85
)

func on(x, y int) api.Knot    { return api.Knot{X: x, Y: y, Kind: 1} }
func cubic(x, y int) api.Knot { return api.Knot{X: x, Y: y, Kind: 3} }

// outline: contours in a list.
func outline(contours ...[]api.Knot) [][]api.Knot { return contours }

// knots: a contour.
func knots(list ...api.Knot) []api.Knot { return list }

// row: bytes.
func row(list ...byte) []byte { return list }

// join: the parts, one behind the other.
func join(parts ...[]byte) []byte { return bytes.Join(parts, nil) }

// short: the bytes of a whole number, in the shortest form that DICTs and programs share.
func short(n int) []byte {
	switch {
	case n >= -107 && n <= 107:
		return row(byte(n + 139))
	case n >= 108 && n <= 1131:
		return row(byte(247+(n-108)/256), byte((n-108)%256))
	case n >= -1131 && n <= -108:
		return row(byte(251+(-n-108)/256), byte((-n-108)%256))
	}
	return binary.BigEndian.AppendUint16(row(28), uint16(n))
}

// long: a number of four bytes in a DICT.
func long(n int) []byte { return binary.BigEndian.AppendUint32(row(29), uint32(n)) }

// fix: a number in 16.16 in a program.
func fix(n int) []byte { return binary.BigEndian.AppendUint32(row(255), uint32(n)) }

// op is an operator.
type op int

func (o op) bytes() []byte {
	if o >= 1200 {
		return row(12, byte(o-1200))
	}
	return row(byte(o))
}

// code: the bytes of operands (numbers), operators, and bytes as they are; of a DICT or a program.
func code(parts ...any) []byte {
	var out []byte
	for _, part := range parts {
		switch x := part.(type) {
		case int:
			out = append(out, short(x)...)
		case op:
			out = append(out, x.bytes()...)
		case []byte:
			out = append(out, x...)
		default:
			panic("no part of a code")
		}
	}
	return out
}

// repeat: the operand n so many times.
func repeat(n, times int) []byte { return bytes.Repeat(short(n), times) }

// rising: the operands from 1 on to n.
func rising(n int) []byte {
	var out []byte
	for i := range n {
		out = append(out, short(i+1)...)
	}
	return out
}

// indexOf: an INDEX with offsets of so many bytes.
func indexOf(size int, pieces ...[]byte) []byte {
	out := binary.BigEndian.AppendUint16(nil, uint16(len(pieces)))
	if len(pieces) == 0 {
		return out
	}
	out = append(out, byte(size))
	at := 1
	for i := range len(pieces) + 1 {
		var word [4]byte
		binary.BigEndian.PutUint32(word[:], uint32(at))
		out = append(out, word[4-size:]...)
		if i < len(pieces) {
			at += len(pieces[i])
		}
	}
	return join(out, join(pieces...))
}

// index: an INDEX with offsets of four bytes.
func index(pieces ...[]byte) []byte { return indexOf(4, pieces...) }

// cff is a table to be laid out. What is nil is left out, or is what fonts have.
type cff struct {
	top      []byte   // of the top DICT, ahead of 17
	last     []byte   // of the top DICT, behind all else
	globals  [][]byte // routines
	programs [][]byte
	private  []byte   // of the private DICT, ahead of 19
	locals   [][]byte // routines; with none of either there is no private DICT
}

// bytes: the head, the four INDEXES, the programs, the private DICT, the local routines.
func (c cff) bytes() []byte {
	programs := index(c.programs...)
	private := c.private
	if c.locals != nil {
		private = join(private, long(len(private)+6), row(19))
	}
	top := func(place int) []byte {
		out := join(c.top, long(place), row(17))
		if private != nil {
			out = join(out, long(len(private)), long(place+len(programs)), row(18))
		}
		return join(out, c.last)
	}
	head := func(place int) []byte {
		return join(row(1, 0, 4, 9), index(row('f')), index(top(place)), index(), index(c.globals...))
	}
	out := join(head(len(head(0))), programs, private)
	if c.locals != nil {
		out = join(out, index(c.locals...))
	}
	return out
}

// same: lists that are nil are empty ones.
func same(a, b [][]api.Knot) bool { return slices.EqualFunc(a, b, slices.Equal[[]api.Knot]) }

// shown: bytes that can be told.
func shown(b []byte) []byte { return b[:min(len(b), 300)] }

// pair is a font and what it is to be.
type pair struct {
	font  *type2.Font
	model *model
}

// open: what Open answers, which is what the model answers, and leaves what it was given.
func open(t *testing.T, b []byte) (pair, api.Errno) {
	t.Helper()
	were := slices.Clone(b)
	v := peek.New(b)
	f, e := type2.Open(v)
	m, fault := openModel(b)
	if e != fault || (f == nil) != (e != 0) {
		t.Fatalf("%v: Open answers %v, %v; not %v", shown(b), f != nil, e, fault)
	}
	if !bytes.Equal(v.Bytes(), were) || !bytes.Equal(b, were) {
		t.Fatalf("%v: what was handed in is changed", shown(b))
	}
	if e == 0 && f.Count() != len(m.programs) {
		t.Fatalf("%v: %d glyphs, not %d", shown(b), f.Count(), len(m.programs))
	}
	return pair{f, m}, e
}

// glyph: what Glyph answers, which is what the model answers.
func (p pair) glyph(t *testing.T, g int) ([][]api.Knot, int, api.Errno) {
	t.Helper()
	o, w, e := p.font.Glyph(g)
	want, width, fault := p.model.glyph(g)
	if e != fault || w != width || !same(o, want) {
		t.Fatalf("glyph %d: %v, %d, %v; not %v, %d, %v", g, o, w, e, want, width, fault)
	}
	if e != 0 && (o != nil || w != 0) {
		t.Fatalf("glyph %d: %v, %d beside an error", g, o, w)
	}
	return o, w, e
}

// opened: a font that must be one.
func opened(t *testing.T, c cff) pair {
	t.Helper()
	p, e := open(t, c.bytes())
	if e != 0 {
		t.Fatal(e)
	}
	return p
}

// gives: the program draws this, and tells this width. The font's own widths are 500 and 1000.
func gives(t *testing.T, program []byte, want [][]api.Knot, width int) {
	t.Helper()
	givesIn(t, cff{private: code(500, op(20), 1000, op(21)), programs: [][]byte{program}}, want, width)
}

// givesIn: the font's first glyph is this.
func givesIn(t *testing.T, c cff, want [][]api.Knot, width int) {
	t.Helper()
	if o, w, e := opened(t, c).glyph(t, 0); e != 0 || w != width || !same(o, want) {
		t.Errorf("%v: %v, %d, %v; not %v, %d", shown(c.programs[0]), o, w, e, want, width)
	}
}

// fails: the program is refused.
func fails(t *testing.T, fault api.Errno, program []byte) {
	t.Helper()
	failsIn(t, fault, cff{programs: [][]byte{program}})
}

// failsIn: the font's first glyph is refused.
func failsIn(t *testing.T, fault api.Errno, c cff) {
	t.Helper()
	if _, _, e := opened(t, c).glyph(t, 0); e != fault {
		t.Errorf("%v: %v, not %v", shown(c.programs[0]), e, fault)
	}
}

// runs: the program runs to its end.
func runs(t *testing.T, program []byte) {
	t.Helper()
	failsIn(t, 0, cff{programs: [][]byte{program}})
}

// counts: each operator with so many operands is refused or not, behind a move.
func counts(t *testing.T, o op, right func(n int) bool) {
	t.Helper()
	for n := range 49 {
		program := code(0, op(22), rising(n), o, op(14))
		if right(n) {
			runs(t, program)
		} else {
			fails(t, wrong, program)
		}
	}
}
