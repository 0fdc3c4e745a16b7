package peek_test

import (
	"bytes"
	"math"
	"math/big"
	"math/rand"
	"slices"
	"sync"
	"testing"

	"serif/api"
	"serif/peek"
)

// The signatures that the chapter lists: another one doesn't compile.
var (
	_ func(b []byte) *peek.View                                 = peek.New
	_ func(v *peek.View) int                                    = (*peek.View).Len
	_ func(v *peek.View, at int) (int, api.Errno)               = (*peek.View).U8
	_ func(v *peek.View, at int) (int, api.Errno)               = (*peek.View).U16
	_ func(v *peek.View, at int) (int, api.Errno)               = (*peek.View).I16
	_ func(v *peek.View, at int) (int, api.Errno)               = (*peek.View).U24
	_ func(v *peek.View, at int) (int, api.Errno)               = (*peek.View).U32
	_ func(v *peek.View, at int) (string, api.Errno)            = (*peek.View).Tag
	_ func(v *peek.View, at, n int) (*peek.View, api.Errno)     = (*peek.View).Cut
	_ func(v *peek.View) []byte                                 = (*peek.View).Bytes
	_ func(v *peek.View, at, n int) (list []int, err api.Errno) = (*peek.View).U16s
)

const (
	most  = math.MaxInt
	least = math.MinInt
)

// reader is one of the calls that read a number: how many bytes wide, and whether the number has a sign.
type reader struct {
	name   string
	call   func(v *peek.View, at int) (int, api.Errno)
	width  int
	signed bool
}

func readers() []reader {
	return []reader{
		{"U8", (*peek.View).U8, 1, false}, {"U16", (*peek.View).U16, 2, false}, {"I16", (*peek.View).I16, 2, true},
		{"U24", (*peek.View).U24, 3, false}, {"U32", (*peek.View).U32, 4, false},
	}
}

// wrongs: numbers that are neither a place nor a count in any view of these tests. Sums and doubles of them wrap round to small ones.
func wrongs() []int {
	return []int{-1, -2, -3, -4, -5, 1 << 31, 1 << 32, 1<<32 + 1, 1 << 62, 1<<62 + 1, 1<<63 - 5, most - 3, most - 2, most - 1, most,
		-1 << 31, -1 << 32, -1 << 62, -1<<62 + 1, -1<<62 - 1, least, least + 1, least + 2, least + 3, least + 4}
}

// rows: bytes of all lengths up to 12, the one of none among them, and some with the bits that signs hang on.
func rows() [][]byte {
	r := rand.New(rand.NewSource(2))
	out := [][]byte{nil, {}, {255, 254, 1}, {127, 255, 128, 0, 255, 255}, {0, 0, 0, 0, 0}, {255, 255, 255, 255, 255}, {128, 0, 0, 0}, {127, 255, 255, 255}}
	for n := range 13 {
		b := make([]byte, n)
		r.Read(b)
		out = append(out, b)
	}
	return out
}

// places: every place of a row, those one to five beyond its ends, and the wrong ones.
func places(row []byte) []int {
	out := wrongs()
	for at := range len(row) + 6 {
		out = append(out, at)
	}
	return out
}

// fits is the chapter's condition in whole numbers without an end.
func fits(at, n, width, length int) bool {
	if at < 0 || n < 0 {
		return false
	}
	end := new(big.Int).Mul(big.NewInt(int64(n)), big.NewInt(int64(width)))
	return end.Add(end, big.NewInt(int64(at))).Cmp(big.NewInt(int64(length))) <= 0
}

// value: the number of a row, reckoned from its lowest byte on.
func value(row []byte, signed bool) int {
	sum, weight := 0, 1
	for _, b := range slices.Backward(row) {
		sum += weight * int(b)
		weight *= 256
	}
	if signed && sum >= weight/2 {
		sum -= weight
	}
	return sum
}

func TestNewLenBytes(t *testing.T) {
	for _, row := range rows() {
		v := peek.New(row)
		if v.Len() != len(row) || !bytes.Equal(v.Bytes(), row) {
			t.Errorf("%v: Len %d, Bytes %v", row, v.Len(), v.Bytes())
		}
	}
	all := make([]byte, 1<<16)
	for i := range all {
		all[i] = byte(i * 7 >> 3)
	}
	if v := peek.New(all); v.Len() != 1<<16 || !bytes.Equal(v.Bytes(), all) {
		t.Error("a long row")
	}
}

// Of a slice with spare room the view has the slice's bytes alone.
func TestSpareRoomIsNotSeen(t *testing.T) {
	room := []byte{1, 2, 3, 4, 5, 6}
	v := peek.New(room[1:3])
	if n, e := v.U16(0); n != 515 || e != api.OK {
		t.Error(n, e)
	}
	if n, e := v.U8(2); n != 0 || e != api.ErrPeek {
		t.Error(n, e)
	}
	if v.Len() != 2 {
		t.Error(v.Len())
	}
	if !bytes.Equal(room, []byte{1, 2, 3, 4, 5, 6}) {
		t.Error("what was handed in is changed", room)
	}
}

// A view is of the bytes as they were at the call: what is written later is not seen, neither by it nor by its cuts.
func TestViewKeepsItsBytes(t *testing.T) {
	row := []byte{1, 2, 3, 4, 5}
	v := peek.New(row)
	c, e := v.Cut(1, 3)
	if e != api.OK {
		t.Fatal(e)
	}
	clear(row)
	row = append(row[:0], 9, 9)
	if !bytes.Equal(v.Bytes(), []byte{1, 2, 3, 4, 5}) || !bytes.Equal(c.Bytes(), []byte{2, 3, 4}) {
		t.Error(v.Bytes(), c.Bytes(), row)
	}
	if s, e := v.Tag(0); s != "\x01\x02\x03\x04" || e != api.OK {
		t.Errorf("%q %v", s, e)
	}
	if n, e := v.U32(1); n != 0x02030405 || e != api.OK {
		t.Error(n, e)
	}
}

// whole: a slice with its spare room.
func whole(b []byte) []byte { return b[:cap(b)] }

// scribble: writes over all bytes of a slice, its spare room too.
func scribble(b []byte) {
	for i := range whole(b) {
		whole(b)[i] = 77
	}
}

func TestBytesIsNewMemory(t *testing.T) {
	v := peek.New([]byte{1, 2, 3, 4, 5, 6, 7})
	c, _ := v.Cut(2, 2)
	first, second, part := v.Bytes(), v.Bytes(), c.Bytes()
	scribble(part)
	scribble(first)
	if !bytes.Equal(second, []byte{1, 2, 3, 4, 5, 6, 7}) || !bytes.Equal(v.Bytes(), second) || !bytes.Equal(c.Bytes(), []byte{3, 4}) {
		t.Error(second, v.Bytes(), c.Bytes())
	}
}

func TestU16sIsNewMemory(t *testing.T) {
	v := peek.New([]byte{0, 1, 0, 2, 0, 3})
	first, _ := v.U16s(0, 2)
	second, _ := v.U16s(0, 3)
	for i := range first[:cap(first)] {
		first[:cap(first)][i] = 77
	}
	third, _ := v.U16s(0, 3)
	if !slices.Equal(second, []int{1, 2, 3}) || !slices.Equal(third, second) {
		t.Error(second, third)
	}
}

func TestNumbers(t *testing.T) {
	for _, row := range rows() {
		v := peek.New(row)
		for _, r := range readers() {
			for _, at := range places(row) {
				want, fault := 0, api.ErrPeek
				if fits(at, 1, r.width, len(row)) {
					want, fault = value(row[at:at+r.width], r.signed), api.OK
				}
				if n, e := r.call(v, at); n != want || e != fault {
					t.Errorf("%s(%d) of %v: %d, %v; it is %d, %v", r.name, at, row, n, e, want, fault)
				}
			}
		}
	}
}

// The first and the last place at which all bytes lie within, and one beyond, written out.
func TestNumbersByHand(t *testing.T) {
	v := peek.New([]byte{1, 2, 3, 4, 5, 6})
	for _, c := range []struct {
		reader, at, want int
		fault            api.Errno
	}{
		{0, 0, 1, 0}, {0, 5, 6, 0}, {0, 6, 0, 21}, {0, -1, 0, 21},
		{1, 0, 0x0102, 0}, {1, 4, 0x0506, 0}, {1, 5, 0, 21}, {1, -1, 0, 21},
		{2, 0, 0x0102, 0}, {2, 4, 0x0506, 0}, {2, 5, 0, 21}, {2, -1, 0, 21},
		{3, 0, 0x010203, 0}, {3, 3, 0x040506, 0}, {3, 4, 0, 21}, {3, -1, 0, 21},
		{4, 0, 0x01020304, 0}, {4, 2, 0x03040506, 0}, {4, 3, 0, 21}, {4, -1, 0, 21},
	} {
		r := readers()[c.reader]
		if n, e := r.call(v, c.at); n != c.want || e != c.fault {
			t.Errorf("%s(%d): %d, %v", r.name, c.at, n, e)
		}
	}
}

func TestTopBits(t *testing.T) {
	for _, c := range []struct{ u16, i16 int }{{0, 0}, {1, 1}, {255, 255}, {256, 256}, {32767, 32767}, {32768, -32768}, {32769, -32767}, {65280, -256}, {65535, -1}} {
		v := peek.New([]byte{byte(c.u16 >> 8), byte(c.u16)})
		if n, e := v.U16(0); n != c.u16 || e != api.OK {
			t.Errorf("U16 of %d: %d, %v", c.u16, n, e)
		}
		if n, e := v.I16(0); n != c.i16 || e != api.OK {
			t.Errorf("I16 of %d: %d, %v", c.u16, n, e)
		}
		if l, e := v.U16s(0, 1); len(l) != 1 || l[0] != c.u16 || e != api.OK {
			t.Errorf("U16s of %d: %d, %v", c.u16, l, e)
		}
	}
	v := peek.New([]byte{255, 255, 255, 255})
	if n, e := v.U24(0); n != 16777215 || e != api.OK {
		t.Error(n, e)
	}
	if n, e := v.U32(0); n != 4294967295 || e != api.OK {
		t.Error(n, e)
	}
	if n, e := peek.New([]byte{128, 0, 0, 0}).U32(0); n != 2147483648 || e != api.OK {
		t.Error(n, e)
	}
}

func TestTag(t *testing.T) {
	for _, row := range rows() {
		v := peek.New(row)
		for _, at := range places(row) {
			want, fault := "", api.ErrPeek
			if fits(at, 1, 4, len(row)) {
				want, fault = string(row[at:at+4]), api.OK
			}
			if s, e := v.Tag(at); s != want || e != fault {
				t.Errorf("Tag(%d) of %v: %q, %v; it is %q, %v", at, row, s, e, want, fault)
			}
		}
	}
	if s, e := peek.New([]byte("xcmap")).Tag(1); s != "cmap" || e != api.OK {
		t.Error(s, e)
	}
	// The bytes are kept as they are, no matter whether they write characters.
	if s, e := peek.New([]byte{0, 255, 0xC3, 10}).Tag(0); s != "\x00\xff\xc3\n" || e != api.OK {
		t.Errorf("%q %v", s, e)
	}
}

func TestU16s(t *testing.T) {
	for _, row := range rows() {
		v := peek.New(row)
		for _, at := range places(row) {
			for _, n := range places(row) {
				var want []int
				fault := api.ErrPeek
				if fits(at, n, 2, len(row)) {
					fault = api.OK
					for i := range n {
						want = append(want, value(row[at+2*i:at+2*i+2], false))
					}
				}
				if l, e := v.U16s(at, n); !slices.Equal(l, want) || e != fault {
					t.Errorf("U16s(%d, %d) of %v: %v, %v; it is %v, %v", at, n, row, l, e, want, fault)
				}
			}
		}
	}
}

func TestU16sByHand(t *testing.T) {
	v := peek.New([]byte{1, 2, 3, 4, 5})
	for _, c := range []struct {
		at, n int
		want  []int
		fault api.Errno
	}{
		{0, 2, []int{0x0102, 0x0304}, 0}, {1, 2, []int{0x0203, 0x0405}, 0}, {0, 3, nil, 21}, {2, 2, nil, 21}, {3, 1, []int{0x0405}, 0}, {4, 1, nil, 21},
		{0, 0, nil, 0}, {5, 0, nil, 0}, {6, 0, nil, 21}, {-1, 0, nil, 21}, {0, -1, nil, 21}, {5, 1, nil, 21}, {-1, 1, nil, 21},
		{0, most, nil, 21}, {0, least, nil, 21}, {most, 0, nil, 21}, {least, 0, nil, 21}, {most, most, nil, 21}, {0, 1 << 62, nil, 21}, {2, most, nil, 21},
	} {
		if l, e := v.U16s(c.at, c.n); !slices.Equal(l, c.want) || e != c.fault {
			t.Errorf("U16s(%d, %d): %v, %v", c.at, c.n, l, e)
		}
	}
}

func TestCut(t *testing.T) {
	for _, row := range rows() {
		v := peek.New(row)
		for _, at := range places(row) {
			for _, n := range places(row) {
				c, e := v.Cut(at, n)
				if !fits(at, n, 1, len(row)) {
					if c != nil || e != api.ErrPeek {
						t.Errorf("Cut(%d, %d) of %v: %v, %v", at, n, row, c, e)
					}
					continue
				}
				if e != api.OK || c == nil || c.Len() != n || !bytes.Equal(c.Bytes(), row[at:at+n]) {
					t.Errorf("Cut(%d, %d) of %v: %v, %v", at, n, row, c, e)
				}
			}
		}
		if !bytes.Equal(v.Bytes(), row) {
			t.Errorf("%v: the cuts have changed their view", row)
		}
	}
}

// A cut ends where it ends, though its view goes on; places are counted from its own beginning.
func TestCutHasItsOwnEnds(t *testing.T) {
	v := peek.New([]byte{9, 9, 1, 2, 3, 4, 9, 9})
	c, e := v.Cut(2, 4)
	if e != api.OK {
		t.Fatal(e)
	}
	for _, at := range []int{-2, -1, 3, 4, 6} {
		if n, e := c.U16(at); n != 0 || e != api.ErrPeek {
			t.Errorf("U16(%d): %d, %v", at, n, e)
		}
	}
	if n, e := c.U32(0); n != 0x01020304 || e != api.OK {
		t.Error(n, e)
	}
	if d, e := c.Cut(0, 5); d != nil || e != api.ErrPeek {
		t.Error(d, e)
	}
	if l, e := c.U16s(0, 3); l != nil || e != api.ErrPeek {
		t.Error(l, e)
	}
	d, e := c.Cut(1, 2)
	if e != api.OK || !bytes.Equal(d.Bytes(), []byte{2, 3}) {
		t.Fatal(d, e)
	}
	if s, e := d.Tag(0); s != "" || e != api.ErrPeek {
		t.Error(s, e)
	}
}

func TestViewOfNoBytes(t *testing.T) {
	whole := peek.New([]byte{1})
	end, e := whole.Cut(1, 0)
	if e != api.OK {
		t.Fatal(e)
	}
	begin, e := whole.Cut(0, 0)
	if e != api.OK {
		t.Fatal(e)
	}
	for _, v := range []*peek.View{peek.New(nil), peek.New([]byte{}), begin, end} {
		if v == nil || v.Len() != 0 || len(v.Bytes()) != 0 {
			t.Fatal(v)
		}
		for _, r := range readers() {
			if n, e := r.call(v, 0); n != 0 || e != api.ErrPeek {
				t.Error(r.name, n, e)
			}
		}
		if l, e := v.U16s(0, 0); len(l) != 0 || e != api.OK {
			t.Error(l, e)
		}
		if l, e := v.U16s(1, 0); l != nil || e != api.ErrPeek {
			t.Error(l, e)
		}
		if c, e := v.Cut(0, 0); c == nil || c.Len() != 0 || e != api.OK {
			t.Error(c, e)
		}
		if c, e := v.Cut(1, 0); c != nil || e != api.ErrPeek {
			t.Error(c, e)
		}
	}
}

func TestChapterExamples(t *testing.T) {
	v := peek.New([]byte{255, 254, 1})
	if n, e := v.U16(0); n != 65534 || e != api.OK {
		t.Error(n, e)
	}
	if n, e := v.I16(0); n != -2 || e != api.OK {
		t.Error(n, e)
	}
	if n, e := v.U24(0); n != 16776705 || e != api.OK {
		t.Error(n, e)
	}
	if n, e := v.U16(2); n != 0 || e != 21 {
		t.Error(n, e)
	}
	if c, e := v.Cut(3, 0); c == nil || c.Len() != 0 || e != api.OK {
		t.Error(c, e)
	}
}

// P2: what a view answers doesn't hang on what was asked of it before.
func TestAsksLeaveNoTrace(t *testing.T) {
	v := peek.New([]byte{1, 2, 3, 4, 5})
	for range 3 {
		v.U16(4)
		v.Cut(3, 9)
		v.U16s(-1, 2)
		if n, e := v.U16(3); n != 0x0405 || e != api.OK || v.Len() != 5 {
			t.Fatal(n, e, v.Len())
		}
	}
}

// Two views of the same bytes have nothing in common that goroutines could meet at.
func TestViewsAreApart(t *testing.T) {
	row := []byte{1, 2, 3, 4}
	var all sync.WaitGroup
	for range 8 {
		v := peek.New(row)
		all.Go(func() {
			for range 100 {
				if n, e := v.U32(0); n != 0x01020304 || e != api.OK {
					t.Error(n, e)
				}
				scribble(v.Bytes())
			}
		})
	}
	all.Wait()
}
