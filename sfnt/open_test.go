package sfnt_test

import (
	"bytes"
	"math"
	"math/rand"
	"slices"
	"sync"
	"testing"

	"serif/api"
	"serif/sfnt"
)

const (
	glyfFirst = "\x00\x01\x00\x00"
	cffFirst  = "OTTO"
)

// wrong: Open of b answers this error, and no font.
func wrong(t *testing.T, name string, b []byte, face int, want api.Errno) {
	t.Helper()
	if s := differs(b, face, answer{e: want}); s != "" {
		t.Errorf("%s: %s", name, s)
	}
	if m := model(b, face); m.e != want {
		t.Errorf("%s: the test's own steps answer %v", name, m.e)
	}
}

// right: Open of b answers this font.
func right(t *testing.T, name string, b []byte, face, kind int, rows ...api.Table) {
	t.Helper()
	if s := differs(b, face, answer{kind: kind, rows: rows}); s != "" {
		t.Errorf("%s: %s", name, s)
	}
	if m := model(b, face); m.e != 0 || m.kind != kind || !slices.Equal(m.rows, rows) {
		t.Errorf("%s: the test's own steps answer %v", name, m)
	}
}

// single: a file of one font with three tables, one of them empty and one head with a sum that isn't right.
func single() []byte {
	return join(heading(glyfFirst, 3), lines(line{"abcd", 0x0A0B0C0D, 60, 4}, line{"head", 99, 64, 5}, line{"zero", 0, 72, 0}), []byte{10, 11, 12, 13, 1, 2, 3, 4, 5, 0, 0, 0})
}

func singleRows() []api.Table {
	return []api.Table{{Tag: "abcd", At: 60, Len: 4}, {Tag: "head", At: 64, Len: 5}, {Tag: "zero", At: 72, Len: 0}}
}

// several: a collection of two fonts that share a table; the second one's directory begins at a place that is no multiple of four.
func several() []byte {
	return join([]byte("ttcf"), words(0x00010000, 2, 20, 53),
		heading(glyfFirst, 1), lines(line{"abcd", 0x01020304, 100, 4}), make([]byte, 5),
		heading(cffFirst, 2), lines(line{"abcd", 0x01020304, 100, 4}, line{"efgh", 0xFF000000, 104, 1}), make([]byte, 3),
		[]byte{1, 2, 3, 4, 255})
}

func TestOpenSingle(t *testing.T) {
	right(t, "0 1 0 0", single(), 0, api.KindGlyf, singleRows()...)
	right(t, "true", join([]byte("true"), single()[4:]), 0, api.KindGlyf, singleRows()...)
	right(t, "OTTO", join([]byte("OTTO"), single()[4:]), 0, api.KindCff, singleRows()...)
	for _, first := range []string{"wOFF", "wOF2", "typ1", "otto", "TRUE", "TTCF", "OTTP", "\x00\x02\x00\x00", "\x00\x01\x00\x01", "\x01\x00\x00\x00", "\x00\x00\x00\x00", "\xff\xff\xff\xff", "tru\x00"} {
		wrong(t, first, join([]byte(first), single()[4:]), 0, api.ErrScaler)
		wrong(t, first+" alone", []byte(first), 0, api.ErrScaler)
		wrong(t, first+" of face 1", []byte(first), 1, api.ErrFace)
	}
}

func TestOpenCollection(t *testing.T) {
	first := []api.Table{{Tag: "abcd", At: 100, Len: 4}}
	second := []api.Table{{Tag: "abcd", At: 100, Len: 4}, {Tag: "efgh", At: 104, Len: 1}}
	right(t, "the first", several(), 0, api.KindGlyf, first...)
	right(t, "the last", several(), 1, api.KindCff, second...)
	for _, face := range []int{-1, -2, 2, 3, 64, 1 << 32, 1<<62 + 1, 1 << 62, -1 << 62, math.MaxInt, math.MinInt} {
		wrong(t, "a face that isn't there", several(), face, api.ErrFace)
	}
	next := several()
	next[5] = 2
	right(t, "of version 2", next, 1, api.KindCff, second...)
	for _, version := range []uint32{0, 1, 2, 65535, 65537, 131071, 131073, 196608, 0x01000000, math.MaxUint32} {
		b := several()
		copy(b[4:], words(version))
		wrong(t, "another version", b, 0, api.ErrScaler)
		wrong(t, "another version, and another face", b, 9, api.ErrScaler)
		wrong(t, "another version, and no more", b[:8], 0, api.ErrScaler)
	}
}

func TestFacesOfSingle(t *testing.T) {
	for _, face := range []int{-1, 1, 2, 64, 1 << 32, math.MaxInt, math.MinInt} {
		wrong(t, "of one font", single(), face, api.ErrFace)
		wrong(t, "of four bytes", single()[:4], face, api.ErrFace)
		wrong(t, "of three bytes", single()[:3], face, api.ErrSfnt)
	}
}

// Each step with the bytes it asks for just not there, and just there.
func TestOpenOfTooFewBytes(t *testing.T) {
	for n := range single() { // down to the last byte: the empty table lies at the end of the whole file
		wrong(t, "a file cut off", single()[:n], 0, api.ErrSfnt)
	}
	for _, c := range []struct {
		n, face int
		want    api.Errno
	}{
		{0, 0, 31}, {3, 0, 31}, {4, 0, 31}, {7, 0, 31}, {8, 0, 31}, {11, 0, 31}, {12, 0, 31}, {15, 0, 31}, {16, 0, 31},
		{0, 2, 31}, {3, 2, 31}, {4, 2, 31}, {7, 2, 31}, {8, 2, 31}, {11, 2, 31}, {12, 2, 35}, {12, -1, 35}, {12, 1, 31}, {16, 1, 31}, {19, 1, 31}, {20, 1, 31},
		{20, 0, 31}, {23, 0, 31}, {24, 0, 31}, {25, 0, 31}, {26, 0, 31}, {31, 0, 31}, {32, 0, 31}, {47, 0, 31}, {48, 0, 31}, {103, 0, 31},
		{56, 1, 31}, {58, 1, 31}, {80, 1, 31}, {96, 1, 31}, {97, 1, 31}, {104, 1, 31},
	} {
		wrong(t, "a collection cut off", several()[:c.n], c.face, c.want)
	}
	right(t, "what the first face needs", several()[:104], 0, api.KindGlyf, api.Table{Tag: "abcd", At: 100, Len: 4})
	for n := range len(several()) + 1 {
		for face := -1; face < 4; face++ {
			if s := differs(several()[:n], face, model(several()[:n], face)); s != "" {
				t.Errorf("%d bytes of a collection, face %d: %s", n, face, s)
			}
		}
	}
}

// Of two faults at once the first in the chapter's order is answered.
func TestFirstFaultIsAnswered(t *testing.T) {
	big := make([]byte, api.MaxFont+1)
	wrong(t, "too long, and begins with another thing", big, 0, api.ErrTables)
	wrong(t, "too long, and another face", big, 1, api.ErrTables)
	copy(big, several())
	wrong(t, "too long, and a face beyond", big, 2, api.ErrTables)
	copy(big[4:], words(3, 0))
	wrong(t, "too long, and another version", big, 0, api.ErrTables)

	set := func(b []byte, at int, with ...byte) []byte {
		b = slices.Clone(b)
		copy(b[at:], with)
		return b
	}
	wrong(t, "no first bytes, and another face", nil, 1, api.ErrSfnt)
	wrong(t, "another beginning, and another face", set(single(), 0, 'w'), 1, api.ErrFace)
	wrong(t, "another beginning, and no number of tables", set(single(), 0, 'w')[:4], 0, api.ErrScaler)
	wrong(t, "another beginning, and no tables", set(single(), 0, 'w', 0, 0, 0, 0, 0), 0, api.ErrScaler)
	wrong(t, "another beginning, and too many tables", set(single(), 0, 'w', 0, 0, 0, 0, 65), 0, api.ErrScaler)
	wrong(t, "too many tables, and no rows", set(single(), 4, 0, 65)[:6], 0, api.ErrTables)
	wrong(t, "too many tables, and another face", set(single(), 4, 0, 65), 1, api.ErrFace)
	wrong(t, "another version, and no fonts", set(several(), 4, 0, 3, 0, 0, 0, 0, 0, 0), 0, api.ErrScaler)
	wrong(t, "another version, and too many fonts", set(several(), 4, 0, 3, 0, 0, 0, 0, 0, 65), 0, api.ErrScaler)
	wrong(t, "no fonts, and another face", set(several(), 8, 0, 0, 0, 0), 1, api.ErrSfnt)
	wrong(t, "too many fonts, and another face", set(several(), 8, 0, 0, 0, 65), 65, api.ErrTables)
	wrong(t, "too many fonts, and no places", set(several(), 8, 0, 0, 0, 65)[:12], 0, api.ErrTables)
	wrong(t, "another face, and no places", several()[:12], 2, api.ErrFace)
	wrong(t, "no place of the face, and another scaler", several()[:16], 1, api.ErrSfnt)
	wrong(t, "a directory in a collection that begins with another thing, and too many tables", set(several(), 20, 'w', 0, 0, 0, 0, 65), 0, api.ErrScaler)
}

func TestNumberOfTables(t *testing.T) {
	for _, n := range []int{0, 1, 2, 63, 64, 65, 66, 255, 256, 257, 65535} {
		b := heading(cffFirst, n)
		var rows []api.Table
		for i := range min(n, 300) {
			l := line{string([]byte{'t', 'g', byte(i >> 8), byte(i)}), 0, 4, 0}
			rows = append(rows, api.Table{Tag: l.tag, At: 4})
			b = join(b, lines(l))
		}
		switch {
		case n == 0:
			wrong(t, "no tables", b, 0, api.ErrSfnt)
		case n > 64:
			wrong(t, "too many tables", b, 0, api.ErrTables)
		default:
			right(t, "tables", b, 0, api.KindCff, rows...)
			wrong(t, "the last row lacks a byte", b[:len(b)-1], 0, api.ErrSfnt)
		}
	}
	none := single()
	none[5] = 0
	wrong(t, "no tables, though there are rows", none, 0, api.ErrSfnt)
	one := single()
	one[5] = 1
	right(t, "rows beyond the number", one, 0, api.KindGlyf, singleRows()[0])
}

func TestNumberOfFonts(t *testing.T) {
	for _, n := range []uint32{1, 2, 63, 64} {
		b := join([]byte("ttcf"), words(131072, n))
		place := 12 + 4*n
		for i := range n {
			b = join(b, words(place+28*i))
		}
		for i := range n {
			b = join(b, heading(glyfFirst, 1), lines(line{string([]byte{'f', 'o', 'n', byte(i)}), 0, 0, 0}))
		}
		for i := range int(n) {
			right(t, "a font of the collection", b, i, api.KindGlyf, api.Table{Tag: string([]byte{'f', 'o', 'n', byte(i)})})
		}
		wrong(t, "one beyond", b, int(n), api.ErrFace)
		wrong(t, "one below", b, -1, api.ErrFace)
		wrong(t, "the last font lacks a byte", b[:len(b)-1], int(n)-1, api.ErrSfnt)
	}
	for _, n := range []uint32{0, 65, 66, 256, 65536, 1 << 31, math.MaxUint32 - 1, math.MaxUint32} {
		b := several()
		copy(b[8:], words(n))
		want := api.ErrTables
		if n == 0 {
			want = api.ErrSfnt
		}
		for _, face := range []int{0, 1, -1, 65} {
			wrong(t, "a number of fonts", b, face, want)
		}
	}
}

// The place of a face's directory may be any: what isn't there is no directory.
func TestPlaceOfDirectory(t *testing.T) {
	for _, place := range []uint32{102, 103, 105, 106, 1 << 20, 1 << 31, 1<<32 - 20, 1<<32 - 16, 1<<32 - 12, 1<<32 - 6, 1<<32 - 4, 1<<32 - 3, 1<<32 - 1} {
		b := several()
		copy(b[12:], words(place))
		wrong(t, "a place", b, 0, api.ErrSfnt)
	}
	b := several()
	copy(b[12:], words(0))
	wrong(t, "a collection within itself", b, 0, api.ErrScaler)
	copy(b[12:], words(53))
	right(t, "two faces of one directory", b, 0, api.KindCff, api.Table{Tag: "abcd", At: 100, Len: 4}, api.Table{Tag: "efgh", At: 104, Len: 1})
}

func TestTags(t *testing.T) {
	two := func(first, second string) []byte {
		return join(heading(glyfFirst, 2), lines(line{tag: first}, line{tag: second}))
	}
	for _, c := range [][2]string{{"aaaa", "aaab"}, {"aaaz", "aaba"}, {"AAAA", "aaaa"}, {"zzzz", "\x80   "}, {"\x7f\xff\xff\xff", "\x80\x00\x00\x00"}, {"\x00\x00\x00\x00", "\x00\x00\x00\x01"}, {"\xff\xff\xff\xfe", "\xff\xff\xff\xff"}, {"é  ", "ê  "}, {"a\x00zz", "a\x01aa"}} {
		if len(c[0]) != 4 || len(c[1]) != 4 {
			t.Fatal(c)
		}
		right(t, "rising", two(c[0], c[1]), 0, api.KindGlyf, api.Table{Tag: c[0]}, api.Table{Tag: c[1]})
		wrong(t, "falling", two(c[1], c[0]), 0, api.ErrSfnt)
		wrong(t, "equal", two(c[0], c[0]), 0, api.ErrSfnt)
		wrong(t, "equal", two(c[1], c[1]), 0, api.ErrSfnt)
	}
	third := join(heading(glyfFirst, 3), lines(line{tag: "aaaa"}, line{tag: "cccc"}, line{tag: "bbbb"}))
	wrong(t, "falling at the third", third, 0, api.ErrSfnt)
	again := join(heading(glyfFirst, 3), lines(line{tag: "aaaa"}, line{tag: "bbbb"}, line{tag: "bbbb"}))
	wrong(t, "equal at the third", again, 0, api.ErrSfnt)
}

// one: a file of one table, four bytes 1 2 3 4 at the place 28.
func one(l line) []byte {
	return join(heading(glyfFirst, 1), lines(l), []byte{1, 2, 3, 4})
}

func TestPlaceOfTable(t *testing.T) {
	right(t, "it ends at the file's end", one(line{"tabl", 0x01020304, 28, 4}), 0, 1, api.Table{Tag: "tabl", At: 28, Len: 4})
	right(t, "of three bytes", one(line{"tabl", 0x01020300, 28, 3}), 0, 1, api.Table{Tag: "tabl", At: 28, Len: 3})
	right(t, "over the directory", one(line{"tabl", 0x00010000, 0, 4}), 0, 1, api.Table{Tag: "tabl", At: 0, Len: 4})
	right(t, "empty, at the beginning", one(line{"tabl", 0, 0, 0}), 0, 1, api.Table{Tag: "tabl"})
	right(t, "empty, at the file's end", one(line{"tabl", 0, 32, 0}), 0, 1, api.Table{Tag: "tabl", At: 32})
	right(t, "head over all", one(line{"head", 7, 0, 32}), 0, 1, api.Table{Tag: "head", At: 0, Len: 32})
	for _, tag := range []string{"head", "tabl"} {
		for _, l := range []line{
			{tag, 0x01020304, 28, 5}, {tag, 0x03040000, 30, 2}, {tag, 0x02030400, 29, 3}, {tag, 0x04000000, 31, 1}, {tag, 0, 36, 0}, {tag, 0, 33, 0}, {tag, 0, 31, 0}, {tag, 0, 2, 0},
			{tag, 0, 32, 1}, {tag, 0, 32, 4}, {tag, 0, 1 << 20, 0}, {tag, 0, 1<<32 - 4, 0}, {tag, 0, 1<<32 - 4, 4}, {tag, 0x00010000, 1<<32 - 4, 8}, {tag, 0, 1<<32 - 1, 1},
			{tag, 0, 4, 1<<32 - 4}, {tag, 0, 28, 1<<32 - 28}, {tag, 0, 28, 1<<32 - 24}, {tag, 0, 0, 1<<32 - 1}, {tag, 0, 0, 1 << 31}, {tag, 0, 1 << 31, 1 << 31}, {tag, 0, 1<<32 - 4, 1<<32 - 1}, {tag, 0, 0, 33},
		} {
			wrong(t, "a place or a length", one(l), 0, api.ErrSfnt)
		}
	}
}

func TestSumOfTable(t *testing.T) {
	for _, sum := range []uint32{0, 1, 0x01020303, 0x01020305, 0x04030201, 0x81020304, math.MaxUint32} {
		wrong(t, "a sum that isn't right", one(line{"tabl", sum, 28, 4}), 0, api.ErrSfnt)
		right(t, "of head", one(line{"head", sum, 28, 4}), 0, 1, api.Table{Tag: "head", At: 28, Len: 4})
		for _, tag := range []string{"Head", "heae", "hea\x00", "HEAD", "hhea", "eadh"} {
			wrong(t, "nearly head", one(line{tag, sum, 28, 4}), 0, api.ErrSfnt)
		}
	}
	wrong(t, "an empty table with a sum", one(line{"tabl", 1, 28, 0}), 0, api.ErrSfnt)
	for n := range uint32(4) {
		// What lies behind the table's end isn't in its sum.
		whole := uint32(0x01020304)
		part := whole >> (32 - 8*n) << (32 - 8*n)
		right(t, "a sum of a part", one(line{"tabl", part, 28, n}), 0, 1, api.Table{Tag: "tabl", At: 28, Len: int(n)})
		wrong(t, "a sum of more than the part", one(line{"tabl", whole, 28, n}), 0, api.ErrSfnt)
	}
	late := join(heading(glyfFirst, 2), lines(line{"aaaa", 0, 0, 0}, line{"tabl", 0x01020305, 44, 4}), []byte{1, 2, 3, 4})
	wrong(t, "the sum of the second", late, 0, api.ErrSfnt)
	round := join(heading(cffFirst, 1), lines(line{"tabl", 1, 28, 8}), []byte{255, 255, 255, 255, 0, 0, 0, 2})
	right(t, "a sum that wraps round", round, 0, 2, api.Table{Tag: "tabl", At: 28, Len: 8})
}

func TestLongestFile(t *testing.T) {
	b := make([]byte, api.MaxFont)
	copy(b, one(line{"tabl", 0x01020304, 28, api.MaxFont - 28}))
	right(t, "MaxFont bytes", b, 0, 1, api.Table{Tag: "tabl", At: 28, Len: api.MaxFont - 28})
	wrong(t, "one byte more", append(b, 0), 0, api.ErrTables)
	wrong(t, "twice as many", make([]byte, 2*api.MaxFont), 0, api.ErrTables)
}

func TestKindTablesTable(t *testing.T) {
	f, e := sfnt.Open(single(), 0)
	if e != api.OK || f.Kind() != 1 || !slices.Equal(f.Tables(), singleRows()) {
		t.Fatal(e)
	}
	for _, tag := range []string{"", "abc", "abcde", "abce", "ABCD", "head ", " head", "HEAD", "zerp", "abcdhead", "\x00\x00\x00\x00", "\xff\xff\xff\xff"} {
		if v, ok := f.Table(tag); v != nil || ok {
			t.Errorf("%q: %v", tag, v)
		}
	}
	if v, ok := f.Table("zero"); !ok || v == nil || v.Len() != 0 {
		t.Error("an empty table is there all the same")
	}
	v, ok := f.Table("head")
	if !ok || !bytes.Equal(v.Bytes(), []byte{1, 2, 3, 4, 5}) {
		t.Fatal(ok)
	}
	if _, e := v.U8(5); e != api.ErrPeek {
		t.Error("the view goes beyond the table")
	}
}

// scribble: writes over all elements of a list, its spare room too.
func scribble[E any](list []E, with E) {
	list = list[:cap(list)]
	for i := range list {
		list[i] = with
	}
}

// What the font answers is its own still when the given slice or an answer is changed later.
func TestFontKeepsItsOwn(t *testing.T) {
	b := append(make([]byte, 0, 200), single()...)
	spare := b[:cap(b)]
	f, e := sfnt.Open(b, 0)
	if e != api.OK {
		t.Fatal(e)
	}
	if !bytes.Equal(b, single()) || !bytes.Equal(spare[len(b):], make([]byte, 200-len(b))) {
		t.Error("Open changed what it was given")
	}
	view, _ := f.Table("abcd")
	rows, other := f.Tables(), f.Tables()
	scribble(b, 77)
	if !slices.Equal(rows, singleRows()) || !bytes.Equal(view.Bytes(), []byte{10, 11, 12, 13}) {
		t.Error("an answer hangs on the given slice", rows, view.Bytes())
	}
	scribble(rows, api.Table{Tag: "xxxx", At: 1, Len: 2})
	scribble(view.Bytes(), 78)
	if !slices.Equal(other, singleRows()) || !slices.Equal(f.Tables(), singleRows()) || f.Kind() != 1 {
		t.Error("an answer hangs on another", other, f.Tables())
	}
	for _, r := range singleRows() {
		if v, ok := f.Table(r.Tag); !ok || !bytes.Equal(v.Bytes(), single()[r.At:r.At+r.Len]) {
			t.Error("the table is changed", r)
		}
	}
}

func TestFontsOfOneSliceAreApart(t *testing.T) {
	b := several()
	first, e := sfnt.Open(b, 0)
	if e != api.OK {
		t.Fatal(e)
	}
	b[20] = 'w'
	if f, e := sfnt.Open(b, 0); f != nil || e != api.ErrScaler {
		t.Error(e)
	}
	second, e := sfnt.Open(b, 1)
	if e != api.OK || first.Kind() != 1 || second.Kind() != 2 || len(first.Tables()) != 1 || len(second.Tables()) != 2 {
		t.Error(e)
	}
	if _, ok := first.Table("efgh"); ok {
		t.Error("a table of another face")
	}
}

// Files with some bytes changed, cut off or put in: Open does as the steps say.
func TestOpenOfChangedFiles(t *testing.T) {
	r := rand.New(rand.NewSource(3))
	seen := map[api.Errno]int{}
	for range 200000 {
		b := single()
		if r.Intn(2) == 0 {
			b = several()
		}
		for range r.Intn(3) {
			b[r.Intn(len(b))] = []byte{0, 1, 4, 28, 64, 65, 104, 128, 255, byte(r.Intn(256))}[r.Intn(10)]
		}
		if r.Intn(8) == 0 {
			b = b[:r.Intn(len(b)+1)]
		}
		face := []int{0, 0, 0, 1, 1, 2, -1}[r.Intn(7)]
		want := model(b, face)
		seen[want.e]++
		if s := differs(b, face, want); s != "" {
			t.Fatalf("%v, face %d: %s", b, face, s)
		}
	}
	for _, e := range []api.Errno{0, 31, 32, 33, 35} {
		if seen[e] < 100 {
			t.Errorf("%v was too rare: %d", e, seen[e])
		}
	}
}

func TestOpenOfAnyBytes(t *testing.T) {
	r := rand.New(rand.NewSource(4))
	for range 20000 {
		b := make([]byte, r.Intn(80))
		r.Read(b)
		copy(b, []string{"", "ttcf\x00\x01\x00\x00\x00\x00\x00\x02", "OTTO\x00", "true\x00\x02", glyfFirst}[r.Intn(5)])
		face := r.Intn(4) - 1
		if s := differs(b, face, model(b, face)); s != "" {
			t.Fatalf("%v, face %d: %s", b, face, s)
		}
	}
}

func TestManyAtOnce(t *testing.T) {
	b := several()
	var all sync.WaitGroup
	for i := range 8 {
		all.Go(func() {
			for range 100 {
				if s := differs(b, i%4, model(b, i%4)); s != "" {
					t.Error(s)
				}
			}
		})
	}
	all.Wait()
}

// The numbers and the fields that the chapter gives.
func TestNumbersOfTheChapter(t *testing.T) {
	if api.KindGlyf != 1 || api.KindCff != 2 || api.MaxFont != 1048576 || api.MaxSfnt != 64 {
		t.Error("a kind or a limit has another number")
	}
	if api.ErrSfnt != 31 || api.ErrScaler != 32 || api.ErrTables != 33 || api.ErrFace != 35 {
		t.Error("an error has another number")
	}
	var _ struct {
		Tag     string
		At, Len int
	} = api.Table{}
	var _ struct {
		Tag   string
		Bytes []byte
	} = api.Piece{}
}
