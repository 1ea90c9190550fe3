package vec_test

import (
	"math"
	"math/big"
	"math/rand"
	"testing"

	"glazier/api"
	"glazier/vec"
)

// asked is up to which number, without its sign, Dist and Between are asked.
const asked = 1 << 20

// vert is a vertex of its eight numbers, list is the other way round: spelt out apart from package vec.
func vert(n ...int) api.Vec {
	var l [8]int
	copy(l[:], n)
	return api.Vec{X: l[0], Y: l[1], Z: l[2], W: l[3], A: [4]int{l[4], l[5], l[6], l[7]}}
}

func list(v api.Vec) []int {
	return []int{v.X, v.Y, v.Z, v.W, v.A[0], v.A[1], v.A[2], v.A[3]}
}

// wantDist is what the document says of each plane, as what each of X, Y, Z and W is multiplied with.
func wantDist(plane int, v api.Vec) int {
	of := [5][4]int{{0, 0, 1, 1}, {1, 0, 0, 4}, {-1, 0, 0, 4}, {0, 1, 0, 4}, {0, -1, 0, 4}}
	d := 0
	for i, n := range list(v)[:4] {
		d += of[plane][i] * n
	}
	return d
}

// wantBetween reckons a number without bounds: big.Int's Div rounds down where what divides is above 0.
func wantBetween(in, out, d, e int) int {
	n := new(big.Int).Mul(big.NewInt(int64(out-in)), big.NewInt(int64(d)))
	n.Div(n, big.NewInt(int64(d-e)))
	return in + int(n.Int64())
}

// P4.1: ordinary vertices, those with W of 0 and of 1, and none at all.
func TestRight(t *testing.T) {
	for _, x := range []struct {
		v    api.Vec
		want bool
	}{
		{vert(0, 0, 0, 1), true},
		{vert(3, -5, 7, 2, 100, -100, 0, 7), true},
		{vert(-1000, 2000, -3000, 4000, -4000, 3000, -2000, 1000), true},
		{vert(), false},
		{vert(0, 0, 0, 0, 1, 1, 1, 1), false},
		{vert(5, 5, 5, 0), false},
		{vert(5, 5, 5, -1), false},
		{vert(5, 5, 5, -100), false},
	} {
		if got := vec.Right(x.v); got != x.want {
			t.Errorf("Right(%v) = %v", x.v, got)
		}
	}
}

// P4.1: each number at its bounds, one too far, and as far as a number goes; it alone, and with all others at theirs.
func TestRightAtBounds(t *testing.T) {
	least := []int{-1 << 15, -1 << 15, -1 << 15, 1, -1 << 12, -1 << 12, -1 << 12, -1 << 12}
	most := []int{1 << 15, 1 << 15, 1 << 15, 1 << 15, 1 << 12, 1 << 12, 1 << 12, 1 << 12}
	for _, rest := range [][]int{{0, 0, 0, 1, 0, 0, 0, 0}, least, most} {
		for i := range rest {
			for _, x := range []struct {
				n    int
				want bool
			}{
				{least[i], true}, {least[i] + 1, true}, {most[i] - 1, true}, {most[i], true},
				{least[i] - 1, false}, {most[i] + 1, false}, {math.MinInt, false}, {math.MaxInt, false},
				{-1 << 32, false}, {1<<32 + 1, false},
			} {
				l := append([]int{}, rest...)
				l[i] = x.n
				if got := vec.Right(vert(l...)); got != x.want {
					t.Errorf("number %d of %v: Right = %v", i, l, got)
				}
			}
		}
	}
}

// P4.1: no bound of one kind is taken for one of the other.
func TestRightOfEachKind(t *testing.T) {
	for i := range 8 {
		l := []int{0, 0, 0, 1, 0, 0, 0, 0}
		l[i] = 1<<12 + 1
		if got, want := vec.Right(vert(l...)), i < 4; got != want {
			t.Errorf("number %d of 2^12 + 1: Right = %v", i, got)
		}
	}
}

// P4.2: what each plane asks of a vertex; the attributes are nothing to it.
func TestDist(t *testing.T) {
	for _, x := range []struct {
		v    api.Vec
		want [5]int
	}{
		{vert(3, -5, 7, 2), [5]int{9, 11, 5, 3, 13}},
		{vert(3, -5, 7, 2, 1, 2, 3, 4), [5]int{9, 11, 5, 3, 13}},
		{vert(0, 0, 0, 1), [5]int{1, 4, 4, 4, 4}},
		{vert(0, 0, 0, 0), [5]int{0, 0, 0, 0, 0}},
		{vert(8, 8, -2, 2), [5]int{0, 16, 0, 16, 0}},
		{vert(-8, -8, 2, 2), [5]int{4, 0, 16, 0, 16}},
		{vert(9, 9, -3, 2), [5]int{-1, 17, -1, 17, -1}},
		{vert(-9, -9, -3, 2), [5]int{-1, -1, 17, -1, 17}},
		{vert(asked, asked, asked, asked), [5]int{2 * asked, 5 * asked, 3 * asked, 5 * asked, 3 * asked}},
		{vert(-asked, asked, -asked, -asked), [5]int{-2 * asked, -5 * asked, -3 * asked, -3 * asked, -5 * asked}},
	} {
		for p, want := range x.want {
			if got := vec.Dist(p, x.v); got != want {
				t.Errorf("Dist(%d, %v) = %d; want %d", p, x.v, got, want)
			}
		}
	}
}

// P4.2: of what is no plane 0, whatever the vertex.
func TestDistOfNoPlane(t *testing.T) {
	for _, p := range []int{-1, 5, 6, -5, 256, 1 << 32, math.MinInt, math.MaxInt} {
		for _, v := range []api.Vec{vert(), vert(3, -5, 7, 2, 1, 2, 3, 4), vert(-asked, asked, -asked, asked)} {
			if got := vec.Dist(p, v); got != 0 {
				t.Errorf("Dist(%d, %v) = %d", p, v, got)
			}
		}
	}
}

// P4.3: the document's example, and vertices across each of the planes; below 0 and above it rounded down alike.
func TestBetween(t *testing.T) {
	for _, x := range []struct {
		in, out api.Vec
		plane   int
		want    api.Vec
	}{
		{vert(0, 0, 0, 2), vert(0, 0, -6, 2), 0, vert(0, 0, -2, 2)},
		{vert(10, 0, 1, 3, 100, -100, 0, 7), vert(0, 9, -9, 1, 0, 100, 5, 7), 0, vert(6, 3, -3, 2, 66, -34, 1, 7)},
		// d 4 and e -2: two thirds of the way.
		{vert(0, 0, 0, 1, 0, 0, 10, -10), vert(-6, 3, -3, 1, 1, -1, 0, 0), 1, vert(-4, 2, -2, 1, 0, -1, 3, -4)},
		{vert(0, 0, 0, 1, 0, 0, 10, -10), vert(6, 3, -3, 1, 1, -1, 0, 0), 2, vert(4, 2, -2, 1, 0, -1, 3, -4)},
		{vert(0, 0, 0, 1, 0, 0, 10, -10), vert(3, -6, -3, 1, 1, -1, 0, 0), 3, vert(2, -4, -2, 1, 0, -1, 3, -4)},
		{vert(0, 0, 0, 1, 0, 0, 10, -10), vert(3, 6, -3, 1, 1, -1, 0, 0), 4, vert(2, 4, -2, 1, 0, -1, 3, -4)},
		// d 1 and e -1: half of 7 up, and down.
		{vert(0, 7, 0, 1, 7, 0, -7, 0), vert(7, 0, -2, 1, 0, 7, 0, -7), 0, vert(3, 3, -1, 1, 3, 3, -4, -4)},
		// A W of 0, and one below it.
		{vert(0, 0, 0, 0, 9), vert(5, 5, 0, -1, 1), 0, vert(0, 0, 0, 0, 9)},
		{vert(0, 0, 3, 1, 9), vert(8, -8, -4, 0, 1), 0, vert(4, -4, -1, 0, 5)},
	} {
		if got, ok := vec.Between(x.in, x.out, x.plane); !ok || got != x.want {
			t.Errorf("Between(%v, %v, %d) = %v, %v; want %v", x.in, x.out, x.plane, got, ok, x.want)
		}
	}
}

// P4.3: a plane that is none; in that is not inside; out that is, or lies on the plane; both; and those the wrong way round.
func TestBetweenOfNothing(t *testing.T) {
	in, on, out := vert(1, 2, 3, 4, 5, 6, 7, 8), vert(1, 2, -4, 4, 5, 6, 7, 8), vert(1, 2, -5, 4, 5, 6, 7, 8)
	for _, x := range []struct {
		in, out api.Vec
		plane   int
	}{
		{in, out, -1}, {in, out, 5}, {in, out, 6}, {in, out, math.MinInt}, {in, out, math.MaxInt}, {in, out, 1 << 32},
		{on, out, -1}, {on, out, 5}, {vert(), vert(), 5},
		{out, in, 0}, {out, out, 0}, {in, in, 0}, {on, on, 0}, {in, on, 0}, {on, in, 0}, {out, on, 0},
		// Inside of all others.
		{in, out, 1}, {in, out, 2}, {in, out, 3}, {in, out, 4},
		{vert(), vert(), 0}, {vert(), vert(), 3},
	} {
		if got, ok := vec.Between(x.in, x.out, x.plane); ok || got != (api.Vec{}) {
			t.Errorf("Between(%v, %v, %d) = %v, %v", x.in, x.out, x.plane, got, ok)
		}
	}
}

// P4.3: one just outside is out, one on the plane is in, of each plane.
func TestBetweenAtEdges(t *testing.T) {
	on := []api.Vec{vert(0, 0, -5, 5), vert(-20, 0, 0, 5), vert(20, 0, 0, 5), vert(0, -20, 0, 5), vert(0, 20, 0, 5)}
	out := []api.Vec{vert(0, 0, -6, 5), vert(-21, 0, 0, 5), vert(21, 0, 0, 5), vert(0, -21, 0, 5), vert(0, 21, 0, 5)}
	middle := vert(0, 0, 0, 5)
	for p := range 5 {
		for q := range 5 {
			if _, ok := vec.Between(middle, out[q], p); ok != (p == q) {
				t.Errorf("plane %d: out of %d: %v", p, q, ok)
			}
			if v, ok := vec.Between(middle, on[q], p); ok || v != (api.Vec{}) {
				t.Errorf("plane %d: on %d is out: %v, %v", p, q, v, ok)
			}
		}
		if v, ok := vec.Between(on[p], out[p], p); !ok || v != on[p] {
			t.Errorf("plane %d: of one on it: %v, %v", p, v, ok)
		}
	}
}

// some is a vertex of numbers up to most without their sign; each now and then at its edge.
func some(r *rand.Rand, most int) api.Vec {
	var l [8]int
	for i := range l {
		switch r.Intn(8) {
		case 0:
			l[i] = most
		case 1:
			l[i] = -most
		default:
			l[i] = r.Intn(2*most+1) - most
		}
	}
	return vert(l[:]...)
}

// P4.2, P4.3 and P4.4: of many, small and as great as is asked: the Dist, the number without bounds, and that it lies between both.
func TestBetweenOfMany(t *testing.T) {
	r := rand.New(rand.NewSource(4))
	for _, most := range []int{3, 20, 1 << 12, 1 << 15, asked} {
		cut := 0
		for range 4000 {
			in, out, p := some(r, most), some(r, most), r.Intn(5)
			d, e := wantDist(p, in), wantDist(p, out)
			if got := vec.Dist(p, in); got != d {
				t.Fatalf("Dist(%d, %v) = %d; want %d", p, in, got, d)
			}
			got, ok := vec.Between(in, out, p)
			if ok != (d >= 0 && e < 0) {
				t.Fatalf("Between(%v, %v, %d): %v", in, out, p, ok)
			}
			if !ok {
				if got != (api.Vec{}) {
					t.Fatalf("Between(%v, %v, %d) = %v and false", in, out, p, got)
				}
				continue
			}
			cut++
			from, to := list(in), list(out)
			for i, n := range list(got) {
				if want := wantBetween(from[i], to[i], d, e); n != want {
					t.Fatalf("Between(%v, %v, %d), number %d: %d; want %d", in, out, p, i, n, want)
				}
				if n < min(from[i], to[i]) || n > max(from[i], to[i]) {
					t.Fatalf("Between(%v, %v, %d), number %d: %d is not between", in, out, p, i, n)
				}
			}
			if d == 0 && got != in {
				t.Fatalf("Between(%v, %v, %d) = %v", in, out, p, got)
			}
		}
		if cut < 400 {
			t.Errorf("numbers up to %d: only %d were cut", most, cut)
		}
	}
}

// P4.4: one on the plane stays where it is, its attributes with it, as great as is asked.
func TestBetweenOfOneOnThePlane(t *testing.T) {
	for p, in := range []api.Vec{
		vert(asked, -asked, -asked, asked, asked, -asked, 1, -1),
		vert(-asked, asked, asked, asked/4, asked, -asked, 1, -1),
		vert(asked, asked, asked, asked/4, asked, -asked, 1, -1),
		vert(asked, -asked, asked, asked/4, asked, -asked, 1, -1),
		vert(asked, asked, asked, asked/4, asked, -asked, 1, -1),
	} {
		out := vert(3, 4, -asked, -asked, -asked, asked, 2, 2)
		if got, ok := vec.Between(in, out, p); !ok || got != in {
			t.Errorf("plane %d: %v, %v; want %v", p, got, ok, in)
		}
	}
}

// R1: numbers beyond those that are asked end too, and a false tells nothing.
func TestNoPanic(t *testing.T) {
	edges := []int{math.MinInt, math.MinInt + 1, -1, 0, 1, math.MaxInt - 1, math.MaxInt}
	for _, a := range edges {
		for _, b := range edges {
			for _, c := range edges {
				for p := -1; p < 6; p++ {
					in, out := vert(a, b, c, a, b, c, a, b), vert(b, c, a, c, a, b, c, a)
					if got, ok := vec.Between(in, out, p); !ok && got != (api.Vec{}) {
						t.Fatalf("Between(%v, %v, %d) = %v", in, out, p, got)
					}
				}
			}
		}
	}
}
