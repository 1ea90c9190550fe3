package view_test

import (
	"math"
	"math/big"
	"math/rand"
	"slices"
	"testing"

	"glazier/api"
	"glazier/view"
)

// asked is up to which number, without its sign, Point and Points are asked.
const asked = 1 << 20

// vert is a vertex of X, Y, Z and W, with attributes that are told apart.
func vert(x, y, z, w int) api.Vec {
	return api.Vec{X: x, Y: y, Z: z, W: w, A: [4]int{3, -4, asked, -asked}}
}

// spot is a point with the attributes of vert.
func spot(x, y, z int) api.Point {
	return api.Point{X: x, Y: y, Z: z, A: [4]int{3, -4, asked, -asked}}
}

// along is n times most by w, rounded down, and most, in numbers without a bound: Div rounds down where what divides is above 0.
func along(n, most, w int) int {
	part := new(big.Int).Mul(big.NewInt(int64(n)), big.NewInt(int64(most)))
	part.Div(part, big.NewInt(int64(w)))
	return int(part.Int64()) + most
}

// want is what P6.2 says of a vertex whose W is from 1 on.
func want(w, h int, v api.Vec) api.Point {
	return api.Point{X: along(v.X, 8*w, v.W), Y: along(v.Y, 8*h, v.W), Z: along(v.Z, 32768, v.W), A: v.A}
}

// P6.1: each part of a pixel is its own, on both sides of 0, and the ones beside are not.
func TestPixel(t *testing.T) {
	for n, pixel := range map[int]int{
		0: 0, 1: 0, 8: 0, 15: 0, 16: 1, 17: 1, 31: 1, 32: 2, 1023: 63, 1024: 64,
		-1: -1, -8: -1, -15: -1, -16: -1, -17: -2, -31: -2, -32: -2, -33: -3,
		asked - 1: 65535, asked: 65536, -asked: -65536, -asked - 1: -65537,
		math.MaxInt: 1<<59 - 1, math.MinInt: -1 << 59, math.MinInt + 15: -1 << 59, math.MinInt + 16: -1<<59 + 1,
	} {
		if got := view.Pixel(n); got != pixel {
			t.Errorf("Pixel(%d) = %d; want %d", n, got, pixel)
		}
	}
	for pixel := -70; pixel <= 70; pixel++ {
		for n := 16 * pixel; n < 16*pixel+16; n++ {
			if got := view.Pixel(n); got != pixel {
				t.Errorf("Pixel(%d) = %d; want %d", n, got, pixel)
			}
		}
	}
}

// P6.1: the centre has as many parts of its pixel ahead of it as from it on.
func TestCentre(t *testing.T) {
	for n, part := range map[int]int{0: 8, 1: 24, 3: 56, 63: 1016, 64: 1032, -1: -8, -2: -24, -64: -1016, asked: 16*asked + 8, -asked: 8 - 16*asked} {
		if got := view.Centre(n); got != part {
			t.Errorf("Centre(%d) = %d; want %d", n, got, part)
		}
	}
	for n := -70; n <= 70; n++ {
		c := view.Centre(n)
		if view.Pixel(c-8) != n || view.Pixel(c+7) != n || view.Pixel(c-9) != n-1 || view.Pixel(c+8) != n+1 {
			t.Errorf("Centre(%d) = %d is not in its middle", n, c)
		}
	}
}

type row struct {
	name string
	w, h int
	v    api.Vec
	want api.Point
}

func checkPoint(t *testing.T, rows []row) {
	t.Helper()
	for _, x := range rows {
		if got, ok := view.Point(x.w, x.h, x.v); !ok || got != x.want {
			t.Errorf("%s: Point(%d, %d, %v) = %v, %v; want %v", x.name, x.w, x.h, x.v, got, ok, x.want)
		}
		if l, ok := view.Points(x.w, x.h, []api.Vec{x.v}); !ok || !slices.Equal(l, []api.Point{x.want}) {
			t.Errorf("%s: Points(%d, %d, %v) = %v, %v; want %v", x.name, x.w, x.h, x.v, l, ok, x.want)
		}
	}
}

// P6.2: the document's example, sides of 1 and of 64, a W of 1, and what W does not divide, on both sides of 0.
func TestPoint(t *testing.T) {
	checkPoint(t, []row{
		{"example", 2, 2, api.Vec{Y: 1, W: 1}, api.Point{X: 16, Y: 32, Z: 32768}},
		{"the least", 1, 1, vert(-1, -1, -1, 1), spot(0, 0, 0)},
		{"the least screen, its other end", 1, 1, vert(1, 1, 1, 1), spot(16, 16, 65536)},
		{"the greatest", 64, 64, vert(-1, 1, -1, 1), spot(0, 1024, 0)},
		{"the widest", 64, 1, vert(1, 1, 0, 1), spot(1024, 16, 32768)},
		{"the highest", 1, 64, vert(1, 1, 0, 1), spot(16, 1024, 32768)},
		{"a W of 1", 10, 6, vert(2, -3, 5, 1), spot(240, -96, 196608)},
		{"divided", 10, 6, vert(1, -1, 1, 2), spot(120, 24, 49152)},
		{"not divided", 10, 6, vert(1, 2, 1, 3), spot(106, 80, 43690)},
		{"not divided below 0", 10, 6, vert(-1, -1, -1, 7), spot(68, 41, 28086)},
		{"X alone below 0", 10, 6, vert(-1, 1, 1, 7), spot(68, 54, 37449)},
		{"Y alone below 0", 10, 6, vert(1, -1, 1, 7), spot(91, 41, 37449)},
		{"Z alone below 0", 10, 6, vert(1, 1, -1, 7), spot(91, 54, 28086)},
		{"just below 0", 1, 1, vert(-1, -1, -1, asked), spot(7, 7, 32767)},
		{"just above 0", 1, 1, vert(1, 1, 1, asked), spot(8, 8, 32768)},
		{"out of the screen", 4, 4, vert(-5, 9, 0, 2), spot(-48, 176, 32768)},
	})
}

// P6.2: numbers as great as are asked.
func TestPointOfGreat(t *testing.T) {
	checkPoint(t, []row{
		{"by 1", 64, 64, vert(asked, -asked, asked, 1), spot(1<<29+512, 512-1<<29, 1<<35+32768)},
		{"by 1 below 0", 64, 64, vert(-asked, asked, -asked, 1), spot(512-1<<29, 1<<29+512, 32768-1<<35)},
		{"by as great", 64, 1, vert(asked, -asked, asked, asked), spot(1024, 0, 65536)},
		{"by one less", 64, 64, vert(-asked, asked, -asked, asked-1), spot(-1, 1024, -1)},
		{"great attributes", 1, 1, api.Vec{W: 1, A: [4]int{math.MaxInt, math.MinInt, asked, -asked}}, api.Point{X: 8, Y: 8, Z: 32768, A: [4]int{math.MaxInt, math.MinInt, asked, -asked}}},
	})
}

// some is a number up to most without its sign, now and then the greatest, the least, or near 0.
func some(r *rand.Rand, most int) int {
	return []int{most, -most, r.Intn(3) - 1, r.Intn(2*most+1) - most, r.Intn(2*most+1) - most}[r.Intn(5)]
}

// anyOf is a vertex of such numbers, whose W is from 1 on.
func anyOf(r *rand.Rand, most int) api.Vec {
	v := api.Vec{X: some(r, most), Y: some(r, most), Z: some(r, most), W: max(1, some(r, most))}
	for i := range v.A {
		v.A[i] = some(r, most)
	}
	return v
}

// P6.2: of many vertices and all sides what the document's words say, of each alone and of all in order.
func TestOfMany(t *testing.T) {
	r := rand.New(rand.NewSource(6))
	for _, most := range []int{4, 1 << 8, 1 << 15, asked} {
		for w := 1; w <= 64; w++ {
			for h := 1; h <= 64; h++ {
				l := make([]api.Vec, r.Intn(5))
				wanted := make([]api.Point, len(l))
				for i := range l {
					l[i] = anyOf(r, most)
					wanted[i] = want(w, h, l[i])
					if got, ok := view.Point(w, h, l[i]); !ok || got != wanted[i] {
						t.Fatalf("Point(%d, %d, %v) = %v, %v; want %v", w, h, l[i], got, ok, wanted[i])
					}
				}
				if got, ok := view.Points(w, h, l); !ok || !slices.Equal(got, wanted) {
					t.Fatalf("Points(%d, %d, %v) = %v, %v; want %v", w, h, l, got, ok, wanted)
				}
			}
		}
	}
}

// refused holds a vertex's Point, and Points of it ahead of, between and behind others, against none and false.
func refused(t *testing.T, w, h int, v api.Vec) {
	t.Helper()
	if got, ok := view.Point(w, h, v); ok || got != (api.Point{}) {
		t.Errorf("Point(%d, %d, %v) = %v, %v; want none", w, h, v, got, ok)
	}
	good := vert(1, 2, 3, 4)
	for _, l := range [][]api.Vec{{v}, {v, good, good}, {good, v, good}, {good, good, v}, {good, v, v}, {v, v, v}} {
		if got, ok := view.Points(w, h, l); ok || len(got) != 0 {
			t.Errorf("Points(%d, %d, %v) = %v, %v; want none", w, h, l, got, ok)
		}
	}
}

// P6.2, R2: of a side that may not be, and of a W that is not from 1 on, nothing is told; the ones beside them are right.
func TestRefused(t *testing.T) {
	for _, n := range []int{0, -1, -64, 65, 128, 1 << 32, 1<<32 + 1, math.MinInt, math.MinInt + 1, math.MaxInt} {
		for _, good := range []int{1, 2, 64} {
			refused(t, n, good, vert(1, 2, 3, 4))
			refused(t, good, n, vert(1, 2, 3, 4))
		}
		refused(t, n, n, vert(1, 2, 3, 4))
		refused(t, n, n, api.Vec{})
	}
	for _, w := range []int{0, -1, -2, -asked, math.MinInt} {
		for _, side := range []int{1, 10, 64} {
			refused(t, side, side, vert(1, 2, 3, w))
			refused(t, side, side, vert(0, 0, 0, w))
		}
	}
}

// P6.2: of no vertices there is none that is none, whatever the sides are.
func TestPointsOfNone(t *testing.T) {
	for _, side := range []int{1, 64, 0, 65, -1} {
		for _, l := range [][]api.Vec{nil, {}} {
			if got, ok := view.Points(side, side, l); !ok || len(got) != 0 {
				t.Errorf("Points(%d, %d, %v) = %v, %v; want no points, and true", side, side, l, got, ok)
			}
		}
	}
}

// P6.2: in order, and each as often as it is told.
func TestPointsInOrder(t *testing.T) {
	a, b, c := vert(0, 0, 0, 1), api.Vec{X: 1, Y: -1, W: 2, A: [4]int{1, 2, 3, 4}}, vert(-1, 1, 1, 4)
	at := map[api.Vec]api.Point{a: spot(16, 32, 32768), b: {X: 24, Y: 16, Z: 32768, A: [4]int{1, 2, 3, 4}}, c: spot(12, 40, 40960)}
	for _, l := range [][]api.Vec{{a}, {a, b}, {b, a}, {a, b, c}, {c, b, a}, {b, b, a, c, b}} {
		var wanted []api.Point
		for _, v := range l {
			wanted = append(wanted, at[v])
		}
		if got, ok := view.Points(2, 4, l); !ok || !slices.Equal(got, wanted) {
			t.Errorf("Points(2, 4, %v) = %v, %v; want %v", l, got, ok, wanted)
		}
	}
}

// P6.3: a vertex in the middle is in the middle of each screen, whatever its W is.
func TestMiddle(t *testing.T) {
	for w := 1; w <= 64; w++ {
		for h := 1; h <= 64; h++ {
			for _, by := range []int{1, 2, 3, 1 << 15, asked} {
				checkPoint(t, []row{{"the middle", w, h, vert(0, 0, 0, by), spot(8*w, 8*h, 32768)}})
			}
		}
	}
}

// P6.3: of one W, a greater X is not farther to the left, a greater Y not farther up, a greater Z not nearer; and one that is greater by W is farther by half a side.
func TestRising(t *testing.T) {
	for _, side := range []int{1, 7, 64} {
		for _, w := range []int{1, 2, 3, 100, 1000, asked} {
			starts := []int{-asked, -w - 50, -50, w - 50, asked - 100}
			for _, start := range starts {
				last, _ := view.Point(side, side, vert(start, start, start, w))
				for n := start + 1; n <= start+100; n++ {
					p, ok := view.Point(side, side, vert(n, n, n, w))
					if !ok || p.X < last.X || p.Y < last.Y || p.Z < last.Z {
						t.Fatalf("side %d, W %d: of %d %v, of one less %v", side, w, n, p, last)
					}
					last = p
				}
				a, _ := view.Point(side, side, vert(start, start, start, w))
				b, _ := view.Point(side, side, vert(start+w, start+w, start+w, w))
				if b.X-a.X != 8*side || b.Y-a.Y != 8*side || b.Z-a.Z != 32768 {
					t.Fatalf("side %d, W %d: of %d %v, of W more %v", side, w, start, a, b)
				}
			}
		}
	}
}

// R7: what is handed in, and the memory behind it, is not changed; and neither sees what becomes of the other's.
func TestOwn(t *testing.T) {
	whole := []api.Vec{vert(1, 2, 3, 4), vert(-1, -2, -3, 4), vert(0, 0, 0, 1), vert(9, 9, 9, 9), vert(8, 7, 6, 0)}
	for n := range len(whole) + 1 {
		kept := slices.Clone(whole)
		told, _ := view.Points(5, 6, kept[:n])
		again, _ := view.Points(5, 6, kept[:n])
		was := slices.Clone(told)
		if !slices.Equal(kept, whole) {
			t.Fatalf("Points of %v changed them to %v", whole, kept)
		}
		clear(kept)
		if !slices.Equal(told, was) {
			t.Fatalf("with what was handed in, what was told became %v", told)
		}
		copy(kept, whole)
		clear(told[:cap(told)])
		if !slices.Equal(kept, whole) {
			t.Fatalf("with what was told, what was handed in became %v", kept)
		}
		if !slices.Equal(again, was) {
			t.Fatalf("with what was told, what was told again became %v", again)
		}
	}
}

// R6: what was put onto one screen does not hang on the screens ahead of it.
func TestOtherScreens(t *testing.T) {
	v := vert(1, 1, 0, 1)
	before, _ := view.Point(3, 5, v)
	view.Point(64, 64, vert(-9, 9, 9, 2))
	view.Points(0, 65, []api.Vec{v})
	if after, ok := view.Point(3, 5, v); !ok || after != before || after != spot(48, 80, 32768) {
		t.Errorf("first %v, then %v, %v", before, after, ok)
	}
}

// R1: numbers beyond those that are asked end too.
func TestNoPanic(t *testing.T) {
	edges := []int{math.MinInt, math.MinInt + 1, -1, 0, 1, math.MaxInt - 1, math.MaxInt}
	for _, a := range edges {
		view.Pixel(a)
		view.Centre(a)
		for _, b := range edges {
			for _, c := range edges {
				v := vert(a, b, c, max(a, 1))
				view.Point(64, 64, v)
				view.Point(a, b, v)
				view.Points(b, c, []api.Vec{v, vert(c, a, b, b)})
			}
		}
	}
}
