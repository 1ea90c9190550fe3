package fixed_test

import (
	"math"
	"math/big"
	"testing"

	"glazier/api"
	"glazier/fixed"
)

const (
	most  = math.MaxInt
	least = math.MinInt
)

// numbers are ordinary ones, the edges of an int, and those about its powers of two at which products begin not to fit.
func numbers() []int {
	l := []int{0, least, least + 1, least + 2, most, most - 1, most - 2, most / 3, least / 3}
	for _, n := range []int{1, 2, 3, 5, 7, 10, 127, 128, 254, 255, 256, 65025, 3037000499, 3037000500} {
		l = append(l, n, -n)
	}
	for _, shift := range []int{15, 16, 31, 32, 33, 47, 61, 62} {
		for d := -1; d <= 1; d++ {
			l = append(l, 1<<shift+d, -(1<<shift + d))
		}
	}
	return l
}

func whole(n int) *big.Int { return big.NewInt(int64(n)) }

// floor is a by b, rounded down, of numbers of any size.
func floor(a, b *big.Int) *big.Int {
	q, r := new(big.Int).QuoRem(a, b, new(big.Int))
	if r.Sign() != 0 && (r.Sign() < 0) != (b.Sign() < 0) {
		q.Sub(q, big.NewInt(1))
	}
	return q
}

// fits is what a call must answer whose exact answer is n.
func fits(n *big.Int) (int, api.Errno) {
	if !n.IsInt64() {
		return 0, api.ErrOver
	}
	return int(n.Int64()), api.OK
}

type call2 func(a, b int) (int, api.Errno)

func check2(t *testing.T, name string, f call2, a, b, want int, wantErr api.Errno) {
	t.Helper()
	if n, e := f(a, b); n != want || e != wantErr {
		t.Errorf("%s(%d, %d) = %d, %d; want %d, %d", name, a, b, n, e, want, wantErr)
	}
}

func checkMulDiv(t *testing.T, a, b, c, want int, wantErr api.Errno) {
	t.Helper()
	if n, e := fixed.MulDiv(a, b, c); n != want || e != wantErr {
		t.Errorf("MulDiv(%d, %d, %d) = %d, %d; want %d, %d", a, b, c, n, e, want, wantErr)
	}
}

// P1.1: ordinary sums, and those beside the edges.
func TestAdd(t *testing.T) {
	for _, x := range []struct {
		a, b, want int
		e          api.Errno
	}{
		{0, 0, 0, api.OK},
		{2, 3, 5, api.OK},
		{2, -5, -3, api.OK},
		{most, 0, most, api.OK},
		{most - 1, 1, most, api.OK},
		{most, 1, 0, api.ErrOver},
		{1, most, 0, api.ErrOver},
		{most, most, 0, api.ErrOver},
		{least, 0, least, api.OK},
		{least + 1, -1, least, api.OK},
		{least, -1, 0, api.ErrOver},
		{-1, least, 0, api.ErrOver},
		{least, least, 0, api.ErrOver},
		{least, most, -1, api.OK},
		{most, least, -1, api.OK},
	} {
		check2(t, "Add", fixed.Add, x.a, x.b, x.want, x.e)
	}
}

// P1.1: ordinary differences, and those beside the edges.
func TestSub(t *testing.T) {
	for _, x := range []struct {
		a, b, want int
		e          api.Errno
	}{
		{0, 0, 0, api.OK},
		{5, 2, 3, api.OK},
		{2, 5, -3, api.OK},
		{0, most, -most, api.OK},
		{-1, most, least, api.OK},
		{-2, most, 0, api.ErrOver},
		{-1, least, most, api.OK},
		{0, least, 0, api.ErrOver},
		{1, least, 0, api.ErrOver},
		{least, 1, 0, api.ErrOver},
		{most, -1, 0, api.ErrOver},
		{least, least, 0, api.OK},
		{most, most, 0, api.OK},
		{least, -1, least + 1, api.OK},
		{least, most, 0, api.ErrOver},
		{most, least, 0, api.ErrOver},
	} {
		check2(t, "Sub", fixed.Sub, x.a, x.b, x.want, x.e)
	}
}

// P1.1: ordinary products, and those beside the edges.
func TestMul(t *testing.T) {
	for _, x := range []struct {
		a, b, want int
		e          api.Errno
	}{
		{0, 0, 0, api.OK},
		{3, 5, 15, api.OK},
		{-3, 5, -15, api.OK},
		{-3, -5, 15, api.OK},
		{0, least, 0, api.OK},
		{least, 0, 0, api.OK},
		{-1, 0, 0, api.OK},
		{least, 1, least, api.OK},
		{1, least, least, api.OK},
		{least, -1, 0, api.ErrOver},
		{-1, least, 0, api.ErrOver},
		{most, -1, -most, api.OK},
		{1 << 31, 1 << 31, 1 << 62, api.OK},
		{1 << 32, 1 << 31, 0, api.ErrOver},
		{-1 << 32, 1 << 31, least, api.OK},
		{1 << 32, -1 << 31, least, api.OK},
		{-1 << 32, -1 << 31, 0, api.ErrOver},
		{1 << 32, 1 << 32, 0, api.ErrOver},
		{least, 2, 0, api.ErrOver},
		{most, 2, 0, api.ErrOver},
		{most, most, 0, api.ErrOver},
		{least, least, 0, api.ErrOver},
		{7, most / 7, most, api.OK},
	} {
		check2(t, "Mul", fixed.Mul, x.a, x.b, x.want, x.e)
	}
}

// P1.1: numbers below 0 are rounded down, not towards 0; nothing divides by 0.
func TestFloor(t *testing.T) {
	for _, x := range []struct {
		a, b, want int
		e          api.Errno
	}{
		{7, 2, 3, api.OK},
		{-7, 2, -4, api.OK},
		{7, -2, -4, api.OK},
		{-7, -2, 3, api.OK},
		{-8, 2, -4, api.OK},
		{8, -2, -4, api.OK},
		{-1, most, -1, api.OK},
		{1, least, -1, api.OK},
		{-1, least, 0, api.OK},
		{0, -3, 0, api.OK},
		{0, least, 0, api.OK},
		{least, 1, least, api.OK},
		{least, -1, 0, api.ErrOver},
		{least + 1, -1, most, api.OK},
		{most, -1, -most, api.OK},
		{least, least, 1, api.OK},
		{most, least, -1, api.OK},
		{least, most, -2, api.OK},
		{least, -2, 1 << 62, api.OK},
		{7, 0, 0, api.ErrZero},
		{0, 0, 0, api.ErrZero},
		{least, 0, 0, api.ErrZero},
	} {
		check2(t, "Floor", fixed.Floor, x.a, x.b, x.want, x.e)
	}
}

// P1.1: the product may be any; it is rounded once; nothing divides by 0, whatever the product.
func TestMulDiv(t *testing.T) {
	for _, x := range []struct {
		a, b, c, want int
		e             api.Errno
	}{
		{6, 4, 3, 8, api.OK},
		{7, 3, 2, 10, api.OK},
		{-7, 3, 2, -11, api.OK},
		{7, -3, 2, -11, api.OK},
		{7, 3, -2, -11, api.OK},
		{-7, -3, 2, 10, api.OK},
		{-7, -3, -2, -11, api.OK},
		{-1, 1, 2, -1, api.OK},
		{0, 5, -3, 0, api.OK},
		{-5, 0, 3, 0, api.OK},
		{1 << 62, 8, 4, 0, api.ErrOver},
		{1 << 62, 6, 24, 1 << 60, api.OK},
		{1 << 62, -8, 4, least, api.OK},
		{most, most, most, most, api.OK},
		{least, most, most, least, api.OK},
		{least, least, least, least, api.OK},
		{least, least, most, 0, api.ErrOver},
		{least, most, least, most, api.OK},
		{least, least, 1, 0, api.ErrOver},
		{least, 1, -1, 0, api.ErrOver},
		{least, 1, 1, least, api.OK},
		{most, most, 1 << 62, 0, api.ErrOver},
		{most, 3, -2, 0, api.ErrOver},
		{-1, 1, most, -1, api.OK},
		{-1, most, least, 0, api.OK},
		{1, 1, 0, 0, api.ErrZero},
		{0, 0, 0, 0, api.ErrZero},
		{most, most, 0, 0, api.ErrZero},
		{least, least, 0, 0, api.ErrZero},
	} {
		checkMulDiv(t, x.a, x.b, x.c, x.want, x.e)
	}
}

// P1.1: it is the rounding down that takes these beyond the edge.
func TestMulDivRoundedBeyondTheEdge(t *testing.T) {
	// 274177 times 67280421310721 is 2^64 + 1: less than 0, by 2, it is a half below -2^63.
	checkMulDiv(t, 274177, -67280421310721, 2, 0, api.ErrOver)
	checkMulDiv(t, 274177, 67280421310721, -2, 0, api.ErrOver)
	checkMulDiv(t, 274177, -67280421310721, 3, -6148914691236517206, api.OK)
	// 253921 times 145295143558111 is 2^65 - 1: its half, without the rest, has all of 64 bits set.
	checkMulDiv(t, 253921, -145295143558111, 2, 0, api.ErrOver)
	checkMulDiv(t, 253921, 145295143558111, -2, 0, api.ErrOver)
}

// P1.1: all calls of two numbers against exact ones.
func TestPairsAreExact(t *testing.T) {
	l := numbers()
	for _, a := range l {
		for _, b := range l {
			x, y := whole(a), whole(b)
			want, e := fits(new(big.Int).Add(x, y))
			check2(t, "Add", fixed.Add, a, b, want, e)
			want, e = fits(new(big.Int).Sub(x, y))
			check2(t, "Sub", fixed.Sub, a, b, want, e)
			want, e = fits(new(big.Int).Mul(x, y))
			check2(t, "Mul", fixed.Mul, a, b, want, e)
			want, e = 0, api.ErrZero
			if b != 0 {
				want, e = fits(floor(x, y))
			}
			check2(t, "Floor", fixed.Floor, a, b, want, e)
		}
	}
}

// P1.1: MulDiv against exact numbers.
func TestTriplesAreExact(t *testing.T) {
	l := numbers()
	for _, a := range l {
		for _, b := range l {
			product := new(big.Int).Mul(whole(a), whole(b))
			for _, c := range l {
				want, e := 0, api.ErrZero
				if c != 0 {
					want, e = fits(floor(product, whole(c)))
				}
				checkMulDiv(t, a, b, c, want, e)
			}
		}
	}
}

// P1.2: of each n that is divided no other number is as near.
func TestDiv255IsTheNearest(t *testing.T) {
	for n := 0; n <= 65025; n++ {
		k := fixed.Div255(n)
		if d := n - 255*k; d < -127 || d > 127 {
			t.Fatalf("Div255(%d) = %d", n, k)
		}
	}
}

// P1.2: what is below 0 or above 65025 is not divided.
func TestDiv255Edges(t *testing.T) {
	for _, x := range []struct{ n, want int }{
		{least, 0}, {-65025, 0}, {-256, 0}, {-255, 0}, {-128, 0}, {-1, 0},
		{0, 0}, {127, 0}, {128, 1}, {255, 1}, {382, 1}, {383, 2}, {128 * 255, 128},
		{65025 - 128, 254}, {65025 - 127, 255}, {65024, 255}, {65025, 255},
		{65026, 255}, {65025 + 127, 255}, {65025 + 128, 255}, {65280, 255}, {1 << 32, 255}, {most, 255},
	} {
		if k := fixed.Div255(x.n); k != x.want {
			t.Errorf("Div255(%d) = %d; want %d", x.n, k, x.want)
		}
	}
}

// P1.2: it is 0 also of those below 0 of which a quotient would not be.
func TestDiv255BelowZero(t *testing.T) {
	for n := -1024; n < 0; n++ {
		if k := fixed.Div255(n); k != 0 {
			t.Errorf("Div255(%d) = %d; want 0", n, k)
		}
	}
}

// P1.2: a byte is itself; what is beside is held, not wrapped round.
func TestSat(t *testing.T) {
	for n := range 256 {
		if k := fixed.Sat(n); int(k) != n {
			t.Errorf("Sat(%d) = %d", n, k)
		}
	}
	for _, n := range []int{-1, -2, -255, -256, -257, -1 << 32, least, least + 1} {
		if k := fixed.Sat(n); k != 0 {
			t.Errorf("Sat(%d) = %d; want 0", n, k)
		}
	}
	for _, n := range []int{256, 257, 511, 512, 1 << 32, most, most - 255} {
		if k := fixed.Sat(n); k != 255 {
			t.Errorf("Sat(%d) = %d; want 255", n, k)
		}
	}
}

// P1.3: what was added is taken away again, and what was taken away added.
func TestAddedIsTakenAway(t *testing.T) {
	l := numbers()
	for _, a := range l {
		for _, b := range l {
			if sum, e := fixed.Add(a, b); e == api.OK {
				check2(t, "Sub", fixed.Sub, sum, b, a, api.OK)
				check2(t, "Sub", fixed.Sub, sum, a, b, api.OK)
			}
			if less, e := fixed.Sub(a, b); e == api.OK {
				check2(t, "Add", fixed.Add, less, b, a, api.OK)
			}
		}
	}
}

// P1.3: what was multiplied is divided again, also if the product did not fit.
func TestMultipliedIsDivided(t *testing.T) {
	l := numbers()
	for _, a := range l {
		for _, b := range l {
			if b == 0 {
				continue
			}
			checkMulDiv(t, a, b, b, a, api.OK)
			checkMulDiv(t, b, a, b, a, api.OK)
			if product, e := fixed.Mul(a, b); e == api.OK {
				check2(t, "Floor", fixed.Floor, product, b, a, api.OK)
			}
		}
	}
}
