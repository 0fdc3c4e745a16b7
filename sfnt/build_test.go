package sfnt_test

import (
	"bytes"
	"math"
	"math/rand"
	"slices"
	"testing"

	"serif/api"
	"serif/peek"
	"serif/sfnt"
)

// The signatures that the chapter lists: another one doesn't compile.
var (
	_ func(b []byte, face int) (*sfnt.Font, api.Errno)               = sfnt.Open
	_ func(f *sfnt.Font) int                                         = (*sfnt.Font).Kind
	_ func(f *sfnt.Font) []api.Table                                 = (*sfnt.Font).Tables
	_ func(f *sfnt.Font, tag string) (*peek.View, bool)              = (*sfnt.Font).Table
	_ func(b []byte) int                                             = sfnt.Sum
	_ func(kind int, pieces []api.Piece) (b []byte, fault api.Errno) = sfnt.Build
)

func TestSum(t *testing.T) {
	full := func(n int) []byte { return bytes.Repeat([]byte{255}, n) }
	for _, c := range []struct {
		b    []byte
		want int
	}{
		{nil, 0}, {[]byte{}, 0}, {[]byte{0}, 0}, {[]byte{1}, 1 << 24}, {[]byte{0, 1}, 1 << 16}, {[]byte{0, 0, 1}, 1 << 8}, {[]byte{0, 0, 0, 1}, 1}, {[]byte{0, 0, 0, 0, 1}, 1 << 24},
		{[]byte{1, 2, 3, 4, 5}, 100795140}, {[]byte{1, 2, 3, 4}, 16909060}, {[]byte{5}, 83886080}, {[]byte{1, 2, 3}, 0x01020300}, {[]byte{1, 2}, 0x01020000},
		{full(4), 1<<32 - 1}, {full(8), 1<<32 - 2}, {full(5), 0xFEFFFFFF}, {full(3), 0xFFFFFF00}, {full(1), 0xFF000000},
		{append(full(4), 0, 0, 0, 1), 0}, {append(full(4), 0, 0, 0, 2), 1}, {append(full(4), 1), 0x00FFFFFF}, {[]byte{128, 0, 0, 0, 128}, 0}, {[]byte{127, 255, 255, 255, 128}, 1<<32 - 1},
		{full(api.MaxFont), 1<<32 - api.MaxFont/4}, {full(api.MaxFont + 4), 1<<32 - api.MaxFont/4 - 1},
	} {
		if n := sfnt.Sum(c.b); n != c.want {
			t.Errorf("%d bytes: %d; it is %d", len(c.b), n, c.want)
		}
	}
}

func TestSumOfAnyBytes(t *testing.T) {
	r := rand.New(rand.NewSource(5))
	for i := range 5000 {
		b := make([]byte, i%67, 100)
		r.Read(b)
		if r.Intn(2) == 0 {
			for i := range b {
				b[i] |= 0xF0
			}
		}
		was := slices.Clone(b[:cap(b)])
		if n := sfnt.Sum(b); n != int(check(b)) {
			t.Fatalf("%v: %d; it is %d", b, n, check(b))
		}
		if !bytes.Equal(was, b[:cap(b)]) {
			t.Fatal("Sum changed what it was given")
		}
	}
}

// built: Build answers just these bytes.
func built(t *testing.T, kind int, pieces []api.Piece, want []byte) {
	t.Helper()
	if b, e := sfnt.Build(kind, pieces); e != api.OK || !bytes.Equal(b, want) {
		t.Errorf("%v, %v; it is %v", b, e, want)
	}
}

func TestBuildByHand(t *testing.T) {
	built(t, 1, []api.Piece{{Tag: "abcd", Bytes: []byte{9}}},
		join([]byte{0, 1, 0, 0, 0, 1, 0, 0, 0, 0, 0, 0}, []byte("abcd"), words(9<<24, 28, 1), []byte{9, 0, 0, 0}))
	built(t, 2, []api.Piece{{Tag: "abcd", Bytes: []byte{1, 2, 3, 4, 5}}, {Tag: "head", Bytes: []byte{7}}, {Tag: "none"}, {Tag: "zzzz", Bytes: []byte{255, 255, 255, 255, 0, 0, 0, 3}}},
		join([]byte("OTTO"), []byte{0, 4, 0, 0, 0, 0, 0, 0},
			[]byte("abcd"), words(100795140, 76, 5), []byte("head"), words(7<<24, 84, 1), []byte("none"), words(0, 88, 0), []byte("zzzz"), words(2, 88, 8),
			[]byte{1, 2, 3, 4, 5, 0, 0, 0, 7, 0, 0, 0, 255, 255, 255, 255, 0, 0, 0, 3}))
	built(t, 1, []api.Piece{{Tag: "\x00\x00\x00\x00"}}, join([]byte{0, 1, 0, 0, 0, 1, 0, 0, 0, 0, 0, 0}, make([]byte, 4), words(0, 28, 0)))
}

// refused: Build answers this error, and no bytes.
func refused(t *testing.T, name string, kind int, pieces []api.Piece, want api.Errno) {
	t.Helper()
	if b, e := sfnt.Build(kind, pieces); len(b) != 0 || e != want {
		t.Errorf("%s: %d bytes, %v", name, len(b), e)
	}
}

// many: so many pieces with rising tags, each of these bytes.
func many(n int, b []byte) []api.Piece {
	var list []api.Piece
	for i := range n {
		list = append(list, api.Piece{Tag: string([]byte{'t', byte(i >> 16), byte(i >> 8), byte(i)}), Bytes: b})
	}
	return list
}

func TestBuildRefuses(t *testing.T) {
	good := []api.Piece{{Tag: "abcd", Bytes: []byte{1}}}
	for _, kind := range []int{0, 3, -1, -2, 4, 257, 1 << 32, 1<<32 + 1, 1<<32 + 2, math.MaxInt, math.MinInt, math.MinInt + 1, math.MinInt + 2} {
		refused(t, "a kind", kind, good, api.ErrFace)
	}
	refused(t, "nil", 1, nil, api.ErrFace)
	refused(t, "no pieces", 2, []api.Piece{}, api.ErrFace)
	for _, tag := range []string{"", "a", "abc", "abcde", "abcdefgh", "ééé", "éabc"} {
		refused(t, "a tag", 1, []api.Piece{{Tag: tag}}, api.ErrFace)
		refused(t, "a second tag", 1, []api.Piece{{Tag: "aaaa"}, {Tag: tag}}, api.ErrFace)
		refused(t, "a first tag", 1, []api.Piece{{Tag: tag}, {Tag: "zzzz"}}, api.ErrFace)
	}
	for _, tags := range [][]string{{"aaaa", "aaaa"}, {"aaab", "aaaa"}, {"b   ", "a   "}, {"\x80   ", "\x7f   "}, {"aaaa", "cccc", "bbbb"}, {"aaaa", "bbbb", "bbbb"}, {"\x00\x00\x00\x00", "\x00\x00\x00\x00"}} {
		var list []api.Piece
		for _, tag := range tags {
			list = append(list, api.Piece{Tag: tag})
		}
		refused(t, "tags that don't rise", 1, list, api.ErrFace)
	}
	for _, n := range []int{65, 66, 128, 1000, 65536, 65537} {
		refused(t, "too many", 1, many(n, nil), api.ErrTables)
	}
}

func TestBuildAtItsLimits(t *testing.T) {
	if b, e := sfnt.Build(1, []api.Piece{{Tag: "éé"}}); e != api.OK || string(b[12:16]) != "éé" {
		t.Error("a tag's length is that of its bytes", e)
	}
	for _, n := range []int{1, 2, 63, 64} {
		b, e := sfnt.Build(2, many(n, []byte{1, 2}))
		if e != api.OK || len(b) != 12+20*n || int(b[5]) != n || b[4] != 0 {
			t.Errorf("%d pieces: %d bytes, %v", n, len(b), e)
		}
	}
	zeros := make([]byte, api.MaxFont+1)
	zeros[0] = 3
	for n, want := range map[int]int{api.MaxFont - 28: api.MaxFont, api.MaxFont - 31: api.MaxFont, api.MaxFont - 32: api.MaxFont - 4} {
		b, e := sfnt.Build(1, []api.Piece{{Tag: "abcd", Bytes: zeros[:n]}})
		if e != api.OK || len(b) != want {
			t.Errorf("%d bytes: %d, %v", n, len(b), e)
		}
		right(t, "a long file", b, 0, 1, api.Table{Tag: "abcd", At: 28, Len: n})
	}
	for _, n := range []int{api.MaxFont - 27, api.MaxFont - 24, api.MaxFont, api.MaxFont + 1} {
		refused(t, "too long", 1, []api.Piece{{Tag: "abcd", Bytes: zeros[:n]}}, api.ErrTables)
	}
	refused(t, "too long in all", 1, many(64, zeros[:api.MaxFont/64]), api.ErrTables)
	// 64 rows and their tables of 16364 bytes each fill the file up to 12 bytes less than there may be.
	if b, e := sfnt.Build(1, many(64, zeros[:16364])); e != api.OK || len(b) != 12+64*(16+16364) {
		t.Error(len(b), e)
	}
	refused(t, "a piece too long behind a short one", 2, []api.Piece{{Tag: "abcd"}, {Tag: "bcde", Bytes: zeros}}, api.ErrTables)
}

// Where both errors apply, that of the tables which can't be built is answered.
func TestBuildFirstFault(t *testing.T) {
	long := make([]byte, api.MaxFont+1)
	refused(t, "a kind, and too many", 3, many(65, nil), api.ErrFace)
	refused(t, "a kind, and too long", 0, many(1, long), api.ErrFace)
	refused(t, "a tag, and too long", 1, []api.Piece{{Tag: "abc", Bytes: long}}, api.ErrFace)
	last := append(many(70, nil), api.Piece{Tag: "aaaa"})
	refused(t, "the last tag falls, and too many", 1, last, api.ErrFace)
	short := append(many(65, long), api.Piece{Tag: "zzz"})
	refused(t, "the last tag is short, and too many, and too long", 2, short, api.ErrFace)
	refused(t, "too many, and too long", 2, many(65, long), api.ErrTables)
}

func TestBuildKeepsItsArguments(t *testing.T) {
	room := append(make([]byte, 0, 20), 1, 2, 3, 4, 5)
	spare := room[5:20]
	scribble(spare, 66)
	pieces := make([]api.Piece, 2, 4)
	pieces[0], pieces[1] = api.Piece{Tag: "aaaa", Bytes: room}, api.Piece{Tag: "bbbb", Bytes: room}
	first, e := sfnt.Build(1, pieces)
	if e != api.OK {
		t.Fatal(e)
	}
	second, _ := sfnt.Build(1, pieces)
	was := slices.Clone(second)
	if !bytes.Equal(first, second) {
		t.Error("two answers for one thing")
	}
	scribble(first, 77)
	if !bytes.Equal(room, []byte{1, 2, 3, 4, 5}) || !bytes.Equal(spare, bytes.Repeat([]byte{66}, 15)) {
		t.Error("the piece's bytes are changed", room, spare)
	}
	if pieces[0].Tag != "aaaa" || pieces[1].Tag != "bbbb" || len(pieces[0].Bytes) != 5 || pieces[:4][2].Tag != "" {
		t.Error("the pieces are changed")
	}
	scribble(room, 88)
	if !bytes.Equal(second, was) {
		t.Error("an answer hangs on what was given, or on another answer")
	}
}

func TestOpenOfBuilt(t *testing.T) {
	r := rand.New(rand.NewSource(6))
	for i := range 3000 {
		kind := 1 + i%2
		var pieces []api.Piece
		for j := range 1 + r.Intn(64) {
			tag := []byte{byte(j * 4), byte(r.Intn(256)), byte(r.Intn(256)), byte(r.Intn(256))}
			b := make([]byte, r.Intn(20))
			r.Read(b)
			pieces = append(pieces, api.Piece{Tag: string(tag), Bytes: b})
		}
		if r.Intn(3) == 0 {
			pieces = []api.Piece{{Tag: "head", Bytes: pieces[0].Bytes}}
		}
		b, e := sfnt.Build(kind, pieces)
		if e != api.OK {
			t.Fatal(e)
		}
		f, e := sfnt.Open(b, 0)
		if e != api.OK || f.Kind() != kind || len(f.Tables()) != len(pieces) {
			t.Fatal(e)
		}
		at := 12 + 16*len(pieces)
		for j, row := range f.Tables() {
			if row != (api.Table{Tag: pieces[j].Tag, At: at, Len: len(pieces[j].Bytes)}) {
				t.Fatal(row)
			}
			if v, ok := f.Table(row.Tag); !ok || !bytes.Equal(v.Bytes(), pieces[j].Bytes) {
				t.Fatal(row)
			}
			at += (row.Len + 3) &^ 3
		}
		if at != len(b) || model(b, 0).e != api.OK {
			t.Fatal(at, len(b))
		}
		if f, e := sfnt.Open(b, 1); f != nil || e != api.ErrFace {
			t.Fatal(e)
		}
	}
}
