package fixed_test

import (
	"math"
	"math/big"
	"sync"
	"testing"

	"serif/api"
	"serif/fixed"
)

// The signatures that the chapter lists: another one doesn't compile.
var (
	_ func(n int) api.Errno                     = fixed.Check
	_ func(a, b int) (int, api.Errno)           = fixed.Add
	_ func(a, b int) (int, api.Errno)           = fixed.Sub
	_ func(a, b, c int) (int, api.Errno)        = fixed.MulDiv
	_ func(a, b, shift int) (int, api.Errno)    = fixed.Mul
	_ func(ax, ay, bx, by int) (int, api.Errno) = fixed.Dot
	_ func(n int) int                           = fixed.Floor
	_ func(n int) int                           = fixed.Ceil
	_ func(n int) int                           = fixed.Round
	_ func(n int) int                           = fixed.Root
	_ func(a, b, c, d int) bool                 = fixed.Less
)

const (
	most  = math.MaxInt
	least = math.MinInt
	fix   = api.MaxFix
)

// edges: numbers around every bound that the chapter names, on both sides of 0.
func edges() []int {
	var ns []int
	for _, n := range []int{0, 31, 32, 63, 64, 1 << 14, 1 << 30, fix, 1<<32 + 1, 1 << 40, 3037000499, 3037000499 * 3037000499, 1 << 62} {
		ns = append(ns, n-1, n, n+1, 1-n, -n, -n-1)
	}
	return append(ns, 3, 7, 1000003, -3, -7, -1000003, most-1, most, least+1, least)
}

// few: so few that all fours of them are soon gone through.
func few() []int {
	return []int{0, 1, 2, 3, 5, 8191, 8192, 16384, fix - 1, fix, fix + 1, most - 1, most, -1, -2, -3, -8191, -8192, -16384, 1 - fix, -fix, -fix - 1, least + 1, least}
}

func large(n int) *big.Int { return big.NewInt(int64(n)) }

// nearest: the nearest of n by d, and whether it is a FIX. Reckoned otherwise than by the program: the floor of the size and a half.
func nearest(n, d *big.Int) (int, api.Errno) {
	if d.Sign() == 0 {
		return 0, api.ErrFixed
	}
	sign := int64(n.Sign() * d.Sign())
	size, by := new(big.Int).Abs(n), new(big.Int).Abs(d)
	size.Lsh(size, 1).Add(size, by)
	size.Div(size, by.Lsh(by, 1))
	if size.Cmp(large(fix)) > 0 {
		return 0, api.ErrFixed
	}
	return int(sign * size.Int64()), api.OK
}

func isFix(ns ...int) bool {
	for _, n := range ns {
		if n > 2147483647 || n < -2147483647 {
			return false
		}
	}
	return true
}

func TestCheck(t *testing.T) {
	for _, n := range []int{0, 1, -1, fix - 1, fix, 1 - fix, -fix} {
		if e := fixed.Check(n); e != api.OK {
			t.Errorf("Check(%d): %v", n, e)
		}
	}
	for _, n := range []int{fix + 1, -fix - 1, 1 << 32, 1<<32 + 5, -1 << 32, most, least} {
		if e := fixed.Check(n); e != api.ErrFixed {
			t.Errorf("Check(%d): %v", n, e)
		}
	}
}

func TestAddAndSubAtTheEdges(t *testing.T) {
	sums := []struct {
		a, b, sum int
		err       api.Errno
	}{
		{2, 3, 5, 0}, {2, -3, -1, 0}, {fix, 0, fix, 0}, {fix - 1, 1, fix, 0}, {fix, -fix, 0, 0}, {-fix + 1, -1, -fix, 0},
		{fix, 1, 0, 14}, {fix, fix, 0, 14}, {-fix, -1, 0, 14}, {-fix, -fix, 0, 14},
		{fix + 1, -1, 0, 14}, {-1, fix + 1, 0, 14}, {-fix - 1, 1, 0, 14}, {1, -fix - 1, 0, 14},
		{most, 1, 0, 14}, {least, -1, 0, 14}, {least, least, 0, 14}, {most, least, 0, 14}, {most, -most, 0, 14},
	}
	for _, c := range sums {
		if n, e := fixed.Add(c.a, c.b); n != c.sum || e != c.err {
			t.Errorf("Add(%d, %d): %d, %v", c.a, c.b, n, e)
		}
	}
	for _, c := range [][4]int{
		{2, 3, -1, 0}, {fix, 0, fix, 0}, {0, fix, -fix, 0}, {fix, fix, 0, 0}, {-fix, -fix, 0, 0}, {-1, -fix, fix - 1, 0},
		{fix, -1, 0, 14}, {-fix, 1, 0, 14}, {fix, -fix, 0, 14}, {fix + 1, 1, 0, 14}, {fix + 1, fix + 1, 0, 14}, {-1, -fix - 1, 0, 14},
		{most, most, 0, 14}, {least, least, 0, 14}, {least, 1, 0, 14}, {0, least, 0, 14}, {-2, most, 0, 14},
	} {
		if n, e := fixed.Sub(c[0], c[1]); n != c[2] || int(e) != c[3] {
			t.Errorf("Sub(%d, %d): %d, %v", c[0], c[1], n, e)
		}
	}
}

func TestAddAndSubEverywhere(t *testing.T) {
	for _, a := range edges() {
		for _, b := range edges() {
			sum, rest, err, errRest := 0, 0, api.ErrFixed, api.ErrFixed
			if isFix(a, b) && isFix(a+b) {
				sum, err = a+b, api.OK
			}
			if isFix(a, b) && isFix(a-b) {
				rest, errRest = a-b, api.OK
			}
			if n, e := fixed.Add(a, b); n != sum || e != err {
				t.Fatalf("Add(%d, %d): %d, %v", a, b, n, e)
			}
			if n, e := fixed.Sub(a, b); n != rest || e != errRest {
				t.Fatalf("Sub(%d, %d): %d, %v", a, b, n, e)
			}
		}
	}
}

func TestMulDivAtTheEdges(t *testing.T) {
	for _, c := range [][5]int{
		{7, 1, 2, 4, 0}, {-7, 1, 2, -4, 0}, {7, -1, 2, -4, 0}, {7, 1, -2, -4, 0}, {-7, -1, -2, -4, 0}, {-7, 1, -2, 4, 0}, {5, 1, 3, 2, 0}, {4, 1, 3, 1, 0},
		{1, 1, 2, 1, 0}, {-1, 1, 2, -1, 0}, {1, 1, 3, 0, 0}, {-1, 1, 3, 0, 0}, {0, -5, 7, 0, 0}, {0, 0, -1, 0, 0},
		{fix, 1, 1, fix, 0}, {-fix, 1, 1, -fix, 0}, {fix + 1, 1, 1, 0, 14}, {-fix - 1, 1, 1, 0, 14}, {fix + 1, -1, 1, 0, 14},
		{4*fix + 1, 1, 4, fix, 0}, {2*fix + 1, 1, 2, 0, 14}, {-2*fix - 1, 1, 2, 0, 14}, {2*fix - 1, 1, 2, fix, 0}, {3*fix + 1, 1, 3, fix, 0}, {3*fix + 2, 1, 3, 0, 14},
		{0, 0, 0, 0, 14}, {1, 1, 0, 0, 14}, {least, least, 0, 0, 14}, {0, 5, 0, 0, 14},
		{least, least, least, 0, 14}, {least, 1, least, 1, 0}, {least, most, least, 0, 14}, {least, 1, most, -1, 0}, {most, 1, least, -1, 0}, {most, fix, most, fix, 0}, {least, fix, least, fix, 0},
		{least, fix, most, -fix, 0}, {least, -fix, most, fix, 0}, {least, fix + 1, least, 0, 14}, {1 << 62, 1, least, -1, 0}, {1<<62 - 1, 1, least, 0, 0}, {most, most, 1, 0, 14}, {most, most, most, 0, 14}, {1 << 33, 1 << 33, 1 << 62, 16, 0},
	} {
		if n, e := fixed.MulDiv(c[0], c[1], c[2]); n != c[3] || int(e) != c[4] {
			t.Errorf("MulDiv(%d, %d, %d): %d, %v", c[0], c[1], c[2], n, e)
		}
	}
}

func TestMulDivEverywhere(t *testing.T) {
	for _, a := range edges() {
		for _, b := range edges() {
			p := new(big.Int).Mul(large(a), large(b))
			for _, c := range edges() {
				want, err := nearest(p, large(c))
				if n, e := fixed.MulDiv(a, b, c); n != want || e != err {
					t.Fatalf("MulDiv(%d, %d, %d): %d, %v, want %d, %v", a, b, c, n, e, want, err)
				}
			}
		}
	}
}

func TestMulDivRounds(t *testing.T) {
	for a := -300; a <= 300; a++ {
		for c := -40; c <= 40; c++ {
			want, err := nearest(large(a), large(c))
			if n, e := fixed.MulDiv(a, 1, c); n != want || e != err {
				t.Fatalf("MulDiv(%d, 1, %d): %d, %v, want %d, %v", a, c, n, e, want, err)
			}
		}
	}
}

func TestMul(t *testing.T) {
	shifts := []int{least, least + 1, -64, -1, 0, 1, 2, 6, 13, 14, 16, 29, 30, 31, 32, 62, 63, 64, 65, 1 << 32, 1<<32 + 14, most}
	for _, a := range edges() {
		for _, b := range edges() {
			p := new(big.Int).Mul(large(a), large(b))
			for _, s := range shifts {
				want, err := 0, api.ErrFixed
				if s >= 0 && s <= 30 {
					want, err = nearest(p, new(big.Int).Lsh(large(1), uint(s)))
				}
				if n, e := fixed.Mul(a, b, s); n != want || e != err {
					t.Fatalf("Mul(%d, %d, %d): %d, %v, want %d, %v", a, b, s, n, e, want, err)
				}
			}
		}
	}
	for _, c := range [][5]int{
		{3, 1 << 13, 14, 2, 0}, {-3, 1 << 13, 14, -2, 0}, {3, 5, 0, 15, 0}, {1 << 29, 1, 30, 1, 0}, {1<<29 - 1, 1, 30, 0, 0}, {-1 << 29, 1, 30, -1, 0}, {fix, 1 << 30, 30, fix, 0},
		{1, 1, 31, 0, 14}, {1, 1, -1, 0, 14}, {0, 0, 31, 0, 14}, {0, 0, -1, 0, 14}, {fix, 2, 0, 0, 14},
	} {
		if n, e := fixed.Mul(c[0], c[1], c[2]); n != c[3] || int(e) != c[4] {
			t.Errorf("Mul(%d, %d, %d): %d, %v", c[0], c[1], c[2], n, e)
		}
	}
}

func TestDotAtTheEdges(t *testing.T) {
	for _, c := range [][6]int{
		{1 << 14, 0, 5, 9, 5, 0}, {0, 1 << 14, 5, 9, 9, 0}, {3, 4, 1 << 14, 1 << 14, 7, 0}, {-3, 4, 1 << 14, -1 << 14, -7, 0},
		{1, 0, 8192, 0, 1, 0}, {1, 0, 8191, 0, 0, 0}, {-1, 0, 8192, 0, -1, 0}, {-1, 0, 8191, 0, 0, 0},
		{1, 1, 8191, 8191, 1, 0}, {1, 1, 8192, 8192, 1, 0}, {1, 1, 4096, 4096, 1, 0}, {1, -1, 8192, 8192, 0, 0},
		{fix, 0, 1 << 14, 0, fix, 0}, {-fix, 0, 1 << 14, 0, -fix, 0}, {fix, 1, 1 << 14, 8191, fix, 0}, {fix, 1, 1 << 14, 8192, 0, 14}, {-fix, -1, 1 << 14, 8192, 0, 14},
		{fix, fix, fix, fix, 0, 14}, {-fix, -fix, fix, fix, 0, 14}, {fix, fix, fix, -fix, 0, 0}, {fix, -fix, fix, fix, 0, 0},
		{fix + 1, 0, 0, 0, 0, 14}, {0, fix + 1, 0, 0, 0, 14}, {0, 0, fix + 1, 0, 0, 14}, {0, 0, 0, fix + 1, 0, 14},
		{-fix - 1, 0, 0, 0, 0, 14}, {0, -fix - 1, 0, 0, 0, 14}, {0, 0, -fix - 1, 0, 0, 14}, {0, 0, 0, -fix - 1, 0, 14},
	} {
		if n, e := fixed.Dot(c[0], c[1], c[2], c[3]); n != c[4] || int(e) != c[5] {
			t.Errorf("Dot(%d, %d, %d, %d): %d, %v", c[0], c[1], c[2], c[3], n, e)
		}
	}
}

func TestDotEverywhere(t *testing.T) {
	for _, ax := range few() {
		for _, bx := range few() {
			p := new(big.Int).Mul(large(ax), large(bx))
			for _, ay := range few() {
				for _, by := range few() {
					want, err := 0, api.ErrFixed
					if isFix(ax, ay, bx, by) {
						sum := new(big.Int).Mul(large(ay), large(by))
						want, err = nearest(sum.Add(sum, p), large(1<<14))
					}
					if n, e := fixed.Dot(ax, ay, bx, by); n != want || e != err {
						t.Fatalf("Dot(%d, %d, %d, %d): %d, %v, want %d, %v", ax, ay, bx, by, n, e, want, err)
					}
				}
			}
		}
	}
}

func TestRounding(t *testing.T) {
	for _, c := range []struct{ n, floor, ceil, round int }{
		{0, 0, 0, 0}, {1, 0, 64, 0}, {31, 0, 64, 0}, {32, 0, 64, 64}, {33, 0, 64, 64}, {63, 0, 64, 64}, {64, 64, 64, 64}, {95, 64, 128, 64}, {96, 64, 128, 128},
		{-1, -64, 0, 0}, {-31, -64, 0, 0}, {-32, -64, 0, 0}, {-33, -64, 0, -64}, {-63, -64, 0, -64}, {-64, -64, -64, -64}, {-65, -128, -64, -64}, {-96, -128, -64, -64}, {-97, -128, -64, -128},
		// n is a FIX; n + 32, and the answers, need not be one.
		{fix, fix - 63, fix + 1, fix + 1}, {fix - 31, fix - 63, fix + 1, fix + 1}, {fix - 32, fix - 63, fix + 1, fix - 63}, {fix - 63, fix - 63, fix - 63, fix - 63},
		{-fix, -fix - 1, -fix + 63, -fix - 1}, {-fix + 30, -fix - 1, -fix + 63, -fix - 1}, {-fix + 31, -fix - 1, -fix + 63, -fix + 63},
		{fix + 1, 0, 0, 0}, {-fix - 1, 0, 0, 0}, {1 << 32, 0, 0, 0}, {1<<40 + 64, 0, 0, 0}, {most, 0, 0, 0}, {most - 31, 0, 0, 0}, {least, 0, 0, 0}, {least + 1, 0, 0, 0},
	} {
		if f, u, r := fixed.Floor(c.n), fixed.Ceil(c.n), fixed.Round(c.n); f != c.floor || u != c.ceil || r != c.round {
			t.Errorf("of %d: Floor %d, Ceil %d, Round %d", c.n, f, u, r)
		}
	}
}

// TestRoundingByItsWords holds each answer against the promise's own words, about 0 and about the ends.
func TestRoundingByItsWords(t *testing.T) {
	for _, middle := range []int{0, 100000, fix - 200, 200 - fix} {
		for n := middle - 200; n <= middle+200; n++ {
			if f := fixed.Floor(n); f%64 != 0 || f > n || f+64 <= n {
				t.Fatalf("Floor(%d): %d", n, f)
			}
			if u := fixed.Ceil(n); u%64 != 0 || u < n || u-64 >= n {
				t.Fatalf("Ceil(%d): %d", n, u)
			}
			if r := fixed.Round(n); r%64 != 0 || r > n+32 || r+64 <= n+32 {
				t.Fatalf("Round(%d): %d", n, r)
			}
		}
	}
}

func TestRoot(t *testing.T) {
	for _, c := range [][2]int{
		{0, 0}, {1, 1}, {2, 1}, {3, 1}, {4, 2}, {99, 9}, {100, 10}, {fix, 46340}, {1 << 62, 1 << 31}, {1<<62 - 1, 1<<31 - 1}, {most, 3037000499}, {3037000499 * 3037000499, 3037000499}, {3037000499*3037000499 - 1, 3037000498},
		{-1, 0}, {-4, 0}, {-fix, 0}, {least, 0}, {least + 1, 0},
	} {
		if r := fixed.Root(c[0]); r != c[1] {
			t.Errorf("Root(%d): %d", c[0], r)
		}
	}
	for n := range 70000 {
		if r := fixed.Root(n); r*r > n || (r+1)*(r+1) <= n {
			t.Fatalf("Root(%d): %d", n, r)
		}
	}
	// Just about the squares, where a root of floats errs.
	for r := 2; r <= 3037000499; r += 1 + r/50 {
		if fixed.Root(r*r-1) != r-1 || fixed.Root(r*r) != r || fixed.Root(r*r+1) != r {
			t.Fatalf("Root about the square of %d", r)
		}
	}
}

func TestLessAtTheEdges(t *testing.T) {
	for _, c := range []struct {
		a, b, c, d int
		less       bool
	}{
		{1, 3, 2, 5, true}, {2, 5, 1, 3, false}, {2, 4, 1, 2, false}, {1, 2, 2, 4, false}, {-1, 2, -1, 3, true}, {-1, 3, -1, 2, false}, {-1, 5, 0, 7, true}, {0, 5, -1, 7, false}, {0, 1, 0, 9, false}, {-1, 1, 1, 1, true}, {1, 1, -1, 1, false},
		{1, 0, 2, 1, false}, {1, 1, 2, 0, false}, {1, -1, 2, 1, false}, {1, 1, 2, -1, false}, {-1, 1, 0, -1, false}, {1, -1, -2, -1, false}, {0, 0, 0, 0, false}, {1, least, 2, 1, false}, {1, 1, 2, least, false},
		{most - 1, most, 1, 1, true}, {most, most, 1, 1, false}, {most, most, most - 1, most, false}, {most - 1, most, most, most, true},
		{most - 2, most - 1, most - 1, most, true}, {most - 1, most, most - 2, most - 1, false}, {least, most, -1, 1, true}, {least, most, least, most, false}, {least, 1, most, 1, true}, {most, 1, least, 1, false}, {least, most, least, most - 1, false}, {least, most - 1, least, most, true},
	} {
		if fixed.Less(c.a, c.b, c.c, c.d) != c.less {
			t.Errorf("Less(%d, %d, %d, %d) is not %v", c.a, c.b, c.c, c.d, c.less)
		}
	}
}

func TestLessEverywhere(t *testing.T) {
	for _, a := range few() {
		for _, d := range few() {
			left := new(big.Int).Mul(large(a), large(d))
			for _, b := range few() {
				for _, c := range few() {
					want := b > 0 && d > 0 && left.Cmp(new(big.Int).Mul(large(c), large(b))) < 0
					if fixed.Less(a, b, c, d) != want {
						t.Fatalf("Less(%d, %d, %d, %d) is not %v", a, b, c, d, want)
					}
				}
			}
		}
	}
}

// answers: one of each call's at these arguments.
func answers(a, b, c, d int) [16]int {
	var out [16]int
	keep := func(at, n int, e api.Errno) { out[at], out[at+1] = n, int(e) }
	keep(0, 0, fixed.Check(a))
	sum, e := fixed.Add(a, b)
	keep(2, sum, e)
	rest, e := fixed.Sub(a, b)
	keep(4, rest, e)
	quotient, e := fixed.MulDiv(a, b, c)
	keep(6, quotient, e)
	scaled, e := fixed.Mul(a, b, d)
	keep(8, scaled, e)
	dot, e := fixed.Dot(a, b, c, d)
	keep(10, dot, e)
	out[12], out[13], out[14] = fixed.Floor(a), fixed.Ceil(a)^fixed.Round(b), fixed.Root(a)
	if fixed.Less(a, b, c, d) {
		out[15] = 1
	}
	return out
}

// TestAnswersHangOnArgumentsAlone asks the same of several goroutines, each with another order of calls (P1, P2).
func TestAnswersHangOnArgumentsAlone(t *testing.T) {
	ns := few()
	row := func(from int) map[int][16]int {
		out := map[int][16]int{}
		for i := range ns {
			at := (i*5 + from) % len(ns)
			out[at] = answers(ns[at], ns[(at+1)%len(ns)], ns[(at+7)%len(ns)], ns[(at+11)%len(ns)])
		}
		return out
	}
	want := row(0)
	if len(want) != len(ns) {
		t.Fatal("some arguments are left out")
	}
	var all sync.WaitGroup
	for from := range 8 {
		all.Go(func() {
			for at, got := range row(from) {
				if got != want[at] {
					t.Errorf("at %d: %v, and before %v", at, got, want[at])
				}
			}
		})
	}
	all.Wait()
}
