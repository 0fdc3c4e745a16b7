package type2_test

import (
	"bytes"
	"encoding/binary"
	"fmt"
	"math"
	"slices"
	"testing"

	"serif/api"
	"serif/peek"
	"serif/type2"
)

// The sections Errors and Programs.
func TestNumbers(t *testing.T) {
	for _, c := range []struct{ got, want int }{
		{int(api.ErrType2), 81}, {int(api.ErrType2Kind), 82}, {int(api.ErrType2Many), 83}, {int(api.ErrType2Fix), 84}, {int(api.ErrType2None), 85},
		{api.MaxStack, 48}, {api.MaxStems, 96}, {api.MaxCalls, 10}, {api.MaxFuel, 20000}, {api.MaxPoints, 4096}, {api.MaxContours, 256},
		{api.KnotOn, 1}, {api.KnotCubic, 3},
	} {
		if c.got != c.want {
			t.Error(c.got, "is not", c.want)
		}
	}
}

// opens: Open answers this of the bytes.
func opens(t *testing.T, want api.Errno, b []byte) pair {
	t.Helper()
	p, e := open(t, b)
	if e != want {
		t.Errorf("%v: %v, not %v", shown(b), e, want)
	}
	return p
}

// small: a font of a glyph whose program is the end, with these operators in its top DICT.
func small(top ...any) []byte { return cff{top: code(top...), programs: [][]byte{{14}}}.bytes() }

// full: a font with all that fonts have: two glyphs, routines, widths.
func full() cff {
	return cff{
		top: code(7, op(0), 2, op(1206)), globals: [][]byte{{11}, code(5, op(6), op(11))},
		programs: [][]byte{code(1, 2, 3, op(21), -107, op(10), op(14)), {14}},
		private:  code(44, op(20), 55, op(21)), locals: [][]byte{code(-106, op(29), op(11))},
	}
}

func TestOpen(t *testing.T) {
	p := opens(t, 0, full().bytes())
	if p.font.Count() != 2 {
		t.Error(p.font.Count())
	}
	if o, w, e := p.glyph(t, 0); e != 0 || w != 56 || !same(o, outline(knots(on(2, 3), on(7, 3)))) {
		t.Error(o, w, e)
	}
	if o, w, e := p.glyph(t, 1); e != 0 || w != 44 || len(o) != 0 {
		t.Error(o, w, e)
	}
}

// A table that is cut short at each of its bytes.
func TestCut(t *testing.T) {
	b := full().bytes()
	for n := range b {
		opens(t, wrong, b[:n])
	}
	// Bytes that are left, and those at 1 and 3, aren't looked at.
	opens(t, 0, join(b, row(1, 2, 3)))
	for _, x := range []byte{0, 1, 4, 255} {
		b[1], b[3] = x, x
		opens(t, 0, b)
	}
}

func TestVersion(t *testing.T) {
	b := small()
	for x := range 256 {
		b[0] = byte(x)
		if x == 1 {
			opens(t, 0, b)
			continue
		}
		opens(t, kind, b)
		opens(t, kind, b[:1]) // ahead of what isn't there
	}
	opens(t, wrong, nil)
	opens(t, wrong, row(1))
	opens(t, wrong, row(1, 0))
}

// The byte at 2: below 4, more, beyond the table's end.
func TestHead(t *testing.T) {
	b := small()
	for x := range 4 {
		b[2] = byte(x)
		opens(t, wrong, b)
	}
	opens(t, wrong, row(1, 0, 255, 1, 0, 0))
	opens(t, wrong, row(1, 0, 4))
	for _, gap := range []int{1, 2, 100, 251} {
		// The place of the programs moves by what is put between.
		c := cff{programs: [][]byte{{14}}}.bytes()
		at := bytes.Index(c, row(29))
		binary.BigEndian.PutUint32(c[at+1:], binary.BigEndian.Uint32(c[at+1:])+uint32(gap))
		c[2] += byte(gap)
		opens(t, 0, slices.Insert(c, 4, bytes.Repeat(row(0xA7), gap)...))
	}
	b = small()
	b[2] = byte(len(b))
	opens(t, wrong, b)
	b[2] = 5 // another INDEX is read there
	opens(t, wrong, b)
}

// The byte at 2 is refused below 4 though an INDEX lies there, and though all is right behind it.
func TestHeadWithin(t *testing.T) {
	behind := func(ahead []byte) []byte {
		tops := func(place int) []byte { return join(top(place), index(), index()) }
		return join(ahead, tops(len(ahead)+len(tops(0))), index(row(14)))
	}
	opens(t, 0, behind(row(1, 0, 4, 0, 0, 0)))
	opens(t, wrong, behind(row(1, 0, 3, 0, 0)))                                        // of none, at 3
	opens(t, wrong, behind(join(row(1, 0, 2, 0, 1), bytes.Repeat(row(1), 513))))       // of 512, at 2
	opens(t, wrong, behind(row(1, 0, 1, 1, 1, 2, 9)))                                  // of one, at 1
	opens(t, wrong, behind(join(row(1, 0, 0, 0), bytes.Repeat(row(0, 0, 0, 1), 257)))) // none can lie at 0
}

// lists: a table with these four INDEXES, and one of programs where the top DICTs are told to find it.
func lists(names []byte, tops func(place int) []byte, strings, globals []byte) []byte {
	head := func(place int) []byte { return join(row(1, 0, 4, 1), names, tops(place), strings, globals) }
	return join(head(len(head(0))), index(row(14)))
}

// top: a top DICT that tells the place of the programs.
func top(place int) []byte { return index(join(long(place), row(17))) }

// An INDEX of none, of one, of many, with offsets of each size.
func TestIndexes(t *testing.T) {
	for _, size := range []int{1, 2, 3, 4} {
		several := indexOf(size, row(1, 2, 3), nil, row(4), nil, bytes.Repeat(row(9), 200))
		for _, list := range [][]byte{indexOf(size), indexOf(size, row(7)), indexOf(size, nil), indexOf(size, nil, nil, nil), several} {
			opens(t, 0, lists(list, top, index(), index()))
			opens(t, 0, lists(index(), top, list, index()))
			opens(t, 0, lists(index(), top, index(), list))
			sized := func(place int) []byte { return indexOf(size, join(long(place), row(17))) }
			opens(t, 0, lists(list, sized, list, list))
		}
		// The greatest offset of one byte and the one beyond it.
		if size > 1 {
			opens(t, 0, lists(indexOf(size, bytes.Repeat(row(9), 255)), top, index(), index()))
			opens(t, 0, lists(indexOf(size, bytes.Repeat(row(9), 70000%(1<<(8*size-1)))), top, index(), index()))
		}
		opens(t, 0, lists(indexOf(size, bytes.Repeat(row(9), 254)), top, index(), index()))
	}
	for _, bad := range [][]byte{
		{0, 1, 0, 1, 2, 9}, {0, 1, 5, 0, 0, 0, 0, 1, 0, 0, 0, 0, 2, 9}, {0, 1, 255, 1, 2, 9}, // the offsets' size
		{0, 1, 1, 0, 2, 9, 9}, {0, 1, 1, 2, 2, 9, 9}, {0, 1, 1, 2, 3, 9, 9}, {0, 1, 1, 0, 0}, // the first offset
		{0, 2, 1, 1, 3, 2, 9, 9}, {0, 1, 1, 1, 0, 9}, {0, 3, 1, 1, 1, 3, 2, 9, 9, 9}, // offsets that fall
	} {
		opens(t, wrong, lists(bad, top, index(), index()))
		opens(t, wrong, lists(index(), top, bad, index()))
		opens(t, wrong, lists(index(), top, index(), bad))
		opens(t, wrong, lists(index(), func(int) []byte { return bad }, index(), index()))
	}
}

// An INDEX whose offsets or data aren't all there.
func TestIndexCut(t *testing.T) {
	for _, size := range []int{1, 2, 3, 4} {
		head := join(row(1, 0, 4, 1), index(), index(code(0, op(17))), index())
		list := indexOf(size, row(1), row(2, 3))
		for n := range list {
			opens(t, wrong, join(head, list[:n]))
		}
		globals := join(head, list)
		for n := len(list); n > 0; n-- {
			opens(t, wrong, globals[:len(globals)-n])
		}
	}
	huge := row(0, 1, 4, 0, 0, 0, 1, 255, 255, 255, 255, 9)
	opens(t, wrong, lists(huge, top, index(), index()))
	opens(t, wrong, lists(index(), top, index(), row(255, 255, 4)))
	opens(t, wrong, lists(index(), top, index(), row(255, 255, 1)))
}

// Pieces lie between their offsets, of which some are equal; offsets of all sizes.
func TestPieces(t *testing.T) {
	for _, size := range []int{1, 2, 3, 4} {
		head := func(place int) []byte {
			return join(row(1, 0, 4, 1), index(), index(join(long(place), row(17))), index(), index())
		}
		programs := [][]byte{code(1, op(22), op(14)), nil, nil, {14}, code(7, 8, op(21), op(14))}
		p := opens(t, 0, join(head(len(head(0))), indexOf(size, programs...)))
		if p.font.Count() != 5 {
			t.Error(p.font.Count())
		}
		want := [][][]api.Knot{outline(knots(on(1, 0))), nil, nil, nil, outline(knots(on(7, 8)))}
		for g, fault := range []api.Errno{0, wrong, wrong, 0, 0} {
			if o, _, e := p.glyph(t, g); e != fault || !same(o, want[g]) {
				t.Error(size, g, o, e)
			}
		}
	}
}

// There must be a top DICT, and the first one counts.
func TestTopDicts(t *testing.T) {
	opens(t, wrong, lists(index(), func(int) []byte { return index() }, index(), index()))
	opens(t, wrong, lists(index(), func(int) []byte { return index(nil) }, index(), index()))
	good := func(place int) []byte { return join(long(place), row(17)) }
	opens(t, 0, lists(index(), func(n int) []byte { return index(good(n), row(255), nil, code(op(1230))) }, index(), index()))
	opens(t, wrong, lists(index(), func(n int) []byte { return index(row(255), good(n)) }, index(), index()))
	opens(t, wrong, lists(index(), func(n int) []byte { return index(nil, good(n)) }, index(), index()))
	opens(t, kind, lists(index(), func(n int) []byte { return index(code(op(1230)), good(n)) }, index(), index()))
}

// usual: the width W0 that these bytes tell ahead of 20.
func usual(t *testing.T, operand []byte, want int) {
	t.Helper()
	givesIn(t, cff{private: join(operand, row(20)), programs: [][]byte{{14}}}, nil, want)
}

// Each form of an operand in a DICT, at both ends of its range.
func TestDictOperands(t *testing.T) {
	for b := 32; b <= 246; b++ {
		usual(t, row(byte(b)), b-139)
	}
	for _, c := range []struct {
		bytes []byte
		want  int
	}{
		{row(32), -107}, {row(246), 107}, {row(139), 0},
		{row(247, 0), 108}, {row(247, 255), 363}, {row(248, 0), 364}, {row(250, 255), 1131},
		{row(251, 0), -108}, {row(251, 255), -363}, {row(252, 0), -364}, {row(254, 255), -1131},
		{row(28, 0, 0), 0}, {row(28, 127, 255), 32767}, {row(28, 128, 0), -32768}, {row(28, 255, 255), -1}, {row(28, 1, 2), 258},
		{row(29, 0, 0, 0, 0), 0}, {row(29, 127, 255, 255, 255), 2147483647}, {row(29, 128, 0, 0, 0), -2147483648}, {row(29, 255, 255, 255, 255), -1}, {row(29, 1, 2, 3, 4), 16909060},
		// Reals: each ends with its first half that is 15, and counts as 0.
		{row(30, 0xF0), 0}, {row(30, 0x0F), 0}, {row(30, 0xFF), 0}, {row(30, 0xE2, 0xA2, 0x5F), 0}, {row(30, 0x0A, 0x14, 0x05, 0x41, 0xC3, 0xF7), 0},
		{row(30, 0xF1, 149), 10}, {row(30, 0x1F, 150), 11}, {row(30, 0x12, 0x34, 0x5F, 151), 12}, {row(30, 0x12, 0x34, 0xF5, 152), 13},
		{row(139, 140, 30, 0xEE, 0xEF), 0}, {row(149, 150), 11},
	} {
		usual(t, c.bytes, c.want)
	}
	for _, cut := range [][]byte{{247}, {250}, {251}, {254}, {28}, {28, 1}, {29}, {29, 1}, {29, 1, 2}, {29, 1, 2, 3}, {30}, {30, 0}, {30, 0x12, 0x34, 0xE0, 0x0E}, {12}} {
		// Cut short by the DICT's end, not by the table's: the local routines lie behind.
		c := cff{private: cut, programs: [][]byte{{14}}}
		opens(t, wrong, join(c.bytes(), index(row(11), row(15))))
		opens(t, wrong, cff{last: cut, programs: [][]byte{{14}}}.bytes())
		c.private = join(code(5, op(20)), cut)
		opens(t, wrong, join(c.bytes(), row(255, 255, 255, 255)))
	}
}

// Bytes that are neither operand nor operator, and all that are operators.
func TestDictOperators(t *testing.T) {
	for b := range 256 {
		c := cff{private: row(byte(b)), programs: [][]byte{{14}}}
		isOperand := b >= 32 && b <= 246
		isOperator := b <= 21 && b != 12
		uses := b == 19 || b == 20 || b == 21 // and has no operand
		want := wrong
		if isOperand || isOperator && !uses {
			want = 0
		}
		opens(t, want, c.bytes())
		c.private = row(12, byte(b))
		opens(t, 0, c.bytes())
	}
	for _, b := range []byte{22, 23, 24, 25, 26, 27, 31, 255} {
		opens(t, wrong, cff{private: row(b, 139, 139, 139, 139, 20), programs: [][]byte{{14}}}.bytes())
		opens(t, wrong, cff{last: row(b), programs: [][]byte{{14}}}.bytes())
		opens(t, wrong, cff{last: row(139, b, 139, 0), programs: [][]byte{{14}}}.bytes())
	}
	// 1200 + w isn't w, and an operator's second byte is none of its own.
	givesIn(t, cff{private: code(9, op(20), 8, op(1220), 7, op(1221)), programs: [][]byte{code(1, op(14))}}, nil, 1)
	opens(t, 0, small(5, op(1217), 5, op(1218), 5, op(6), op(20)))
	opens(t, 0, cff{private: code(-5, op(1219)), programs: [][]byte{{14}}}.bytes())
}

// MaxStack operands ahead of an operator, and one more; those behind the last one are passed over.
func TestDictMany(t *testing.T) {
	ten := row(139, 247, 0, 28, 1, 1, 29, 1, 1, 1, 1, 30, 0x1F, 251, 9, 141, 142, 143, 150) // the last one is 11
	if n := len(dictModel(join(ten, row(0)))[0]); n != 10 {
		t.Fatal(n)
	}
	for _, c := range []struct {
		bytes []byte
		fault api.Errno
	}{
		{repeat(3, 48), 0}, {repeat(3, 49), wrong}, {repeat(3, 100), wrong}, {join(bytes.Repeat(ten, 4), repeat(1, 8)), 0}, {join(repeat(1, 9), bytes.Repeat(ten, 4)), wrong},
	} {
		for _, o := range []op{20, 3, 1299} {
			opens(t, c.fault, cff{private: join(c.bytes, o.bytes()), programs: [][]byte{{14}}}.bytes())
			opens(t, c.fault, small(c.bytes, op(0), 1, op(2)))
		}
	}
	usual(t, join(repeat(3, 47), short(77)), 77)
	// Each operator has its own: 48 and 48 are not too many.
	givesIn(t, cff{private: code(repeat(5, 48), op(20), repeat(6, 48), op(21)), programs: [][]byte{code(1, op(14))}}, nil, 7)
	for _, n := range []int{1, 2, 48, 49, 100} {
		givesIn(t, cff{private: code(5, op(20), repeat(9, n)), programs: [][]byte{{14}}}, nil, 5)
		givesIn(t, cff{private: repeat(9, n), last: repeat(-9, n), programs: [][]byte{{14}}}, nil, 0)
	}
}

// An operator that comes twice, one with more operands than are used of it, and one with fewer.
func TestDictUse(t *testing.T) {
	end := [][]byte{code(100, op(14))}
	givesIn(t, cff{private: code(1, op(20), 2, op(20), 3, op(21), 4, op(21)), programs: end}, nil, 104)
	givesIn(t, cff{private: code(1, op(20), 2, op(20)), programs: [][]byte{{14}}}, nil, 2)
	givesIn(t, cff{private: code(1, 2, 3, op(20)), programs: [][]byte{{14}}}, nil, 3)
	givesIn(t, cff{private: code(1, 2, 3, op(21)), programs: end}, nil, 103)
	// The last one counts, though it has no operands; so it does, where only the first one has none.
	for _, o := range []op{19, 20, 21} {
		opens(t, wrong, cff{private: code(o), programs: end}.bytes())
		opens(t, wrong, cff{private: code(0, o, o), programs: end}.bytes())
	}
	for _, o := range []op{20, 21} {
		opens(t, 0, cff{private: code(o, 0, o), programs: end}.bytes())
	}
	opens(t, wrong, small(op(1206)))
	opens(t, wrong, small(2, op(1206), op(1206)))
	opens(t, 0, small(op(1206), 2, op(1206)))
	opens(t, 0, small(3, op(1206), 2, op(1206)))
	opens(t, kind, small(2, op(1206), 3, op(1206)))
	opens(t, 0, small(3, 2, op(1206)))
	opens(t, kind, small(2, 3, op(1206)))
	for _, last := range [][]byte{code(op(17)), code(op(18)), code(1, op(18)), code(0, 0, op(18), 0, op(18))} {
		opens(t, wrong, cff{last: last, programs: end}.bytes())
	}
	opens(t, 0, cff{top: code(op(17), op(18), 9, op(18)), private: []byte{}, programs: end}.bytes())
	// Operands beyond those that are used stand ahead of them.
	opens(t, 0, cff{top: code(-1, -2, -3), private: []byte{}, programs: end}.bytes())
	opens(t, 0, cff{last: code(-7, 0, 0, op(18)), programs: end}.bytes())
	opens(t, wrong, cff{last: code(0, 0, -7, op(18)), programs: end}.bytes())
}

// 1230 and 1206: other kinds of fonts.
func TestKinds(t *testing.T) {
	opens(t, kind, small(op(1230)))
	opens(t, kind, small(1, 2, 3, op(1230)))
	opens(t, kind, cff{last: code(op(1230)), programs: [][]byte{{14}}}.bytes())
	opens(t, 0, cff{private: code(op(1230), 3, op(1206)), programs: [][]byte{{14}}}.bytes()) // of the private DICT they aren't asked
	opens(t, 0, small(2, op(1206)))
	opens(t, 0, small(row(28, 0, 2), op(1206)))
	opens(t, 0, small(long(2), op(1206)))
	for _, n := range []int{0, 1, 3, -2, 107, -107, 1000, 32767} {
		opens(t, kind, small(n, op(1206)))
	}
	opens(t, kind, small(row(30, 0x2F), op(1206))) // a real is 0
}

// 17: where the programs are.
func TestPrograms(t *testing.T) {
	table := func(place []byte, behind ...byte) []byte {
		return join(row(1, 0, 4, 1), index(), index(place), index(), index(), behind)
	}
	opens(t, wrong, table(nil))
	opens(t, wrong, table(code(5, op(0))))
	n := len(table(code(long(0), op(17))))
	opens(t, 0, table(code(long(n), op(17)), 0, 1, 1, 1, 2, 14))
	opens(t, wrong, table(code(long(n), op(17)), 0, 0)) // of none
	for _, place := range []int{-1, -2, -2147483648, n - 1, n + 1, n + 6, 2147483647} {
		opens(t, wrong, table(code(long(place), op(17)), 0, 1, 1, 1, 2, 14))
	}
	// A place within what was read already is one, too: here that of the names.
	b := join(row(1, 0, 4, 1), index(row(14), nil), index(code(4, op(17))), index(), index())
	if p := opens(t, 0, b); p.font.Count() != 2 {
		t.Error(p.font.Count())
	}
	// A real counts as 0: there the INDEX has 256 pieces, with offsets of four bytes, of which the first isn't 1.
	opens(t, wrong, table(code(row(30, 0x5F), op(17)), 0, 1, 1, 1, 2, 14))
	for _, many := range []int{1, 2, 255, 256, 4096, 4097, 65535} {
		p := opens(t, 0, cff{programs: slices.Repeat([][]byte{{14}}, many)}.bytes())
		if p.font.Count() != many {
			t.Error(p.font.Count())
		}
		p.glyph(t, many-1)
		p.glyph(t, many)
	}
}

// 18: the private DICT's size and place.
func TestPrivate(t *testing.T) {
	table := func(size, place int, behind ...byte) []byte {
		return join(cff{last: code(long(size), long(place), op(18)), programs: [][]byte{code(100, op(14))}}.bytes(), behind)
	}
	n := len(table(0, 0))
	private := code(40, op(20), 60, op(21))
	for _, c := range []struct {
		size, place int
		fault       api.Errno
		width       int
	}{
		{4, n, 0, 160}, {3, n, 0, 100}, {2, n, 0, 100}, {2, n + 2, 0, 160}, {1, n + 1, wrong, 0}, {5, n, wrong, 0}, {4, n + 1, wrong, 0}, {3, n + 1, wrong, 0},
		{0, n, 0, 100}, {0, 0, 0, 100}, {0, n + 4, 0, 100}, {0, n + 5, wrong, 0}, {0, 2147483647, wrong, 0}, {1, n + 4, wrong, 0}, {1, n + 3, wrong, 0},
		{-1, n, wrong, 0}, {4, -1, wrong, 0}, {0, -1, wrong, 0}, {-1, -1, wrong, 0}, {-4, n + 4, wrong, 0}, {-2147483648, n, wrong, 0}, {4, -2147483648, wrong, 0},
		{2147483647, n, wrong, 0}, {2147483647, 2147483647, wrong, 0}, {4, 2147483647, wrong, 0}, {-2147483648, -2147483648, wrong, 0}, {n + 4, -n, wrong, 0},
	} {
		p := opens(t, c.fault, table(c.size, c.place, private...))
		if c.fault == 0 {
			if _, w, e := p.glyph(t, 0); e != 0 || w != c.width {
				t.Error(c, w, e)
			}
		}
	}
	opens(t, 0, cff{programs: [][]byte{{14}}}.bytes()) // none
}

// 19: the place of the local routines, from the private DICT's beginning.
func TestLocals(t *testing.T) {
	called := func(private []byte, behind ...byte) []byte {
		return join(cff{private: private, programs: [][]byte{code(5, op(22), -107, op(10), op(14))}}.bytes(), behind)
	}
	routines := index(code(7, op(6), op(11)))
	for _, gap := range []int{0, 1, 50} {
		for _, ahead := range []int{0, 3, 30} { // operators ahead of 19 don't move where places count from
			private := bytes.Repeat(code(9, op(6)), ahead)
			private = code(private, long(len(private)+6+gap), op(19))
			p := opens(t, 0, called(private, join(bytes.Repeat(row(0xA7), gap), routines)...))
			if o, _, e := p.glyph(t, 0); e != 0 || !same(o, outline(knots(on(5, 0), on(12, 0)))) {
				t.Error(o, e)
			}
		}
	}
	// Without 19 there are none; an INDEX of none is one.
	for _, b := range [][]byte{called(code(3, op(20)), routines...), called(code(long(6), op(19)), 0, 0)} {
		if _, _, e := opens(t, 0, b).glyph(t, 0); e != wrong {
			t.Error(e)
		}
	}
	for _, place := range []int{-1, -2, -6, -2147483648, 1000, 2147483647, 5, 7, 6 + len(routines)} {
		opens(t, wrong, called(code(long(place), op(19)), routines...))
	}
	opens(t, wrong, called(code(long(6), op(19)))) // it isn't there
	opens(t, wrong, called(code(long(6), op(19)), 0))
	// A place below 0 is refused, though an INDEX lies there: the private DICT's own place less it is that of the global routines.
	good := called(code(long(6), op(19)), routines...)
	at := len(good) - len(routines) - 6
	binary.BigEndian.PutUint32(good[at+1:], uint32(4-at)) // where the names are
	opens(t, wrong, good)
	// At the private DICT's beginning and one byte ahead of it lie INDEXES of none: 0 is a place, -1 is none.
	for place, fault := range map[int]api.Errno{0: 0, -1: wrong} {
		opens(t, fault, cff{private: code(row(0, 0), place, op(19)), programs: [][]byte{{14, 0}}}.bytes())
	}
}

// Two faults at once: the first in the chapter's order is answered.
func TestFirstFault(t *testing.T) {
	end := [][]byte{{14}}
	// The version ahead of all else, the top DICT's fault ahead of its kind, 1230 ahead of 1206, these ahead of 17, 17 ahead of 18.
	b := cff{last: row(255), programs: end}.bytes()
	b[0], b[2] = 2, 0
	opens(t, kind, b)
	opens(t, wrong, small(op(1230), row(255)))
	opens(t, wrong, cff{top: code(op(1230)), last: row(28), programs: end}.bytes())
	opens(t, wrong, cff{top: code(3, op(1206)), last: row(22), programs: end}.bytes())
	opens(t, wrong, small(op(1230), repeat(1, 49), op(0)))
	opens(t, kind, small(op(1206), op(1230)))
	opens(t, kind, cff{top: code(op(1230)), programs: nil}.bytes())
	opens(t, kind, cff{top: code(op(1230)), last: code(op(17), -1, -1, op(18)), programs: end}.bytes())
	opens(t, kind, cff{top: code(0, op(1206)), last: code(op(17)), programs: end}.bytes())
	opens(t, kind, cff{top: code(0, op(1206)), last: code(-1, op(17), op(18)), programs: nil}.bytes())
	// The INDEXES ahead of the kind: the strings and the global routines lie behind the top DICT.
	keyed := func(place int) []byte { return index(code(op(1230), long(place), op(17))) }
	opens(t, kind, lists(index(), keyed, index(), index()))
	bad := row(0, 1, 0, 1, 2, 9)
	opens(t, wrong, lists(bad, keyed, index(), index()))
	opens(t, wrong, lists(index(), keyed, bad, index()))
	opens(t, wrong, lists(index(), keyed, index(), bad))
}

// Programs aren't looked at by Open.
func TestOpenLeavesPrograms(t *testing.T) {
	opens(t, 0, cff{programs: [][]byte{nil, {255}, {0}, {12}, {28}}, globals: [][]byte{nil, {12}}, locals: [][]byte{{255}}}.bytes())
}

func TestGlyphNumber(t *testing.T) {
	p := opened(t, full())
	for _, g := range []int{-1, -2, 2, 3, 65535, 65536, math.MaxInt, math.MinInt, math.MinInt + 1, 1 << 32, 1<<32 + 1} {
		if _, _, e := p.glyph(t, g); e != none {
			t.Error(g, e)
		}
	}
	for _, g := range []int{0, 1} {
		if _, _, e := p.glyph(t, g); e != 0 {
			t.Error(g, e)
		}
	}
}

// What a call answers is new, hangs on its arguments alone, and nothing that was handed in is kept.
func TestAnswersAreNew(t *testing.T) {
	b := cff{programs: [][]byte{code(1, op(22), 2, 3, op(5), 4, op(22), 5, op(6), 6, op(4), op(14)), code(9)}}.bytes()
	f, e := type2.Open(peek.New(b))
	if e != 0 {
		t.Fatal(e)
	}
	clear(b)
	first, _, _ := f.Glyph(0)
	want := fmt.Sprint(first)
	if _, _, e := f.Glyph(1); e != wrong {
		t.Error(e)
	}
	second, _, _ := f.Glyph(0)
	third, _, _ := f.Glyph(0)
	// Each contour is written over, spare room too, and none of the others is.
	for i := range second {
		whole := second[i][:cap(second[i])]
		for j := range whole {
			whole[j] = api.Knot{X: -99 - i}
		}
	}
	for i := range second {
		for _, k := range second[i] {
			if k.X != -99-i {
				t.Error(i, "shares memory")
			}
		}
	}
	clear(second[:cap(second)])
	if fmt.Sprint(first) != want || fmt.Sprint(third) != want || f.Count() != 2 {
		t.Error(first, third)
	}
	again, _, _ := f.Glyph(0)
	for i := range again {
		_ = append(again[i], api.Knot{X: 77}, api.Knot{X: 78})
	}
	if fmt.Sprint(again) != want {
		t.Error(again)
	}
}
