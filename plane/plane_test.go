package plane_test

import (
	"math"
	"math/big"
	"math/rand"
	"testing"

	"glazier/api"
	"glazier/edge"
	"glazier/plane"
	"glazier/view"
)

const (
	// places is up to which place, and numbers up to which number, without their sign, the calls are asked; pixels up to which pixel its centre is such a place.
	places  = 1 << 14
	numbers = 1<<31 - 1
	pixels  = 1<<10 - 1
)

type triangle = [3]api.Point

// at is a point with a depth and attributes that hang on its place, so that they are told apart.
func at(x, y int) api.Point {
	return api.Point{X: x, Y: y, Z: 5*x - 7*y + 1, A: [4]int{x + 1, y + 2, x - y, x + y + 3}}
}

// tri is a triangle of its places.
func tri(ax, ay, bx, by, cx, cy int) triangle {
	return triangle{at(ax, ay), at(bx, by), at(cx, cy)}
}

// deep is a triangle with these depths.
func deep(t triangle, z ...int) triangle {
	for i := range t {
		t[i].Z = z[i]
	}
	return t
}

// with is a triangle with these numbers as the attribute i of its points.
func with(t triangle, i int, n [3]int) triangle {
	for p := range t {
		t[p].A[i] = n[p]
	}
	return t
}

// depths and attribute are such numbers of a triangle's points.
func depths(t triangle) [3]int {
	return [3]int{t[0].Z, t[1].Z, t[2].Z}
}

func attribute(t triangle, i int) [3]int {
	return [3]int{t[0].A[i], t[1].A[i], t[2].A[i]}
}

// back is a triangle told the other way about.
func back(t triangle) triangle {
	return triangle{t[0], t[2], t[1]}
}

func whole(n int) *big.Int { return big.NewInt(int64(n)) }

// determinant is that of the three places with a 1 beside each, by its six products in numbers without a bound.
func determinant(ax, ay, bx, by, x, y int) *big.Int {
	sum := new(big.Int)
	for _, p := range [][2]int{{ax, by}, {bx, y}, {x, ay}} {
		sum.Add(sum, new(big.Int).Mul(whole(p[0]), whole(p[1])))
	}
	for _, p := range [][2]int{{ay, bx}, {by, x}, {y, ax}} {
		sum.Sub(sum, new(big.Int).Mul(whole(p[0]), whole(p[1])))
	}
	return sum
}

// wantBig is what P9.1 says, in numbers without a bound: each point of the triangle is put at the place in its turn, and weighs as much as what is left.
func wantBig(t triangle, n [3]int, x, y int) *big.Int {
	a, b, c := t[0], t[1], t[2]
	area := determinant(a.X, a.Y, b.X, b.Y, c.X, c.Y)
	if area.Sign() <= 0 {
		return new(big.Int)
	}
	sum := new(big.Int)
	for i, weight := range []*big.Int{
		determinant(x, y, b.X, b.Y, c.X, c.Y),
		determinant(a.X, a.Y, x, y, c.X, c.Y),
		determinant(a.X, a.Y, b.X, b.Y, x, y),
	} {
		sum.Add(sum, weight.Mul(weight, whole(n[i])))
	}
	// Div of numbers without a bound leaves a rest that is not below 0: of an Area above 0 it is rounded down.
	return new(big.Int).Div(sum, area)
}

func wantAt(t *testing.T, x triangle, n [3]int, px, py int) int {
	t.Helper()
	want := wantBig(x, n, px, py)
	if !want.IsInt64() {
		t.Fatalf("At(%v, %v, %d, %d) would be %v, which is no int", x, n, px, py, want)
	}
	return int(want.Int64())
}

// wantDepth is what P9.2 says, as words: below the least the least, above the greatest the greatest.
func wantDepth(t *testing.T, x triangle, px, py int) int {
	t.Helper()
	if edge.Area(x) <= 0 {
		return 0
	}
	z := depths(x)
	least, most := z[0], z[0]
	for _, one := range z {
		if one < least {
			least = one
		}
		if one > most {
			most = one
		}
	}
	n := wantAt(t, x, z, 16*px+8, 16*py+8)
	switch {
	case n < least:
		return least
	case n > most:
		return most
	}
	return n
}

func checkAt(t *testing.T, x triangle, n [3]int, px, py, want int) {
	t.Helper()
	if got := plane.At(x, n, px, py); got != want {
		t.Errorf("At(%v, %v, %d, %d) = %d; want %d", x, n, px, py, got, want)
	}
}

// some is a number up to most without its sign, now and then the greatest, the least, or near 0.
func some(r *rand.Rand, most int) int {
	return []int{most, -most, r.Intn(3) - 1, r.Intn(2*most+1) - most, r.Intn(2*most+1) - most}[r.Intn(5)]
}

func someThree(r *rand.Rand, most int) [3]int {
	return [3]int{some(r, most), some(r, most), some(r, most)}
}

// anyOf is a triangle of places up to far, whose depths and attributes are up to most.
func anyOf(r *rand.Rand, far, most int) triangle {
	var t triangle
	for i := range t {
		t[i] = api.Point{X: some(r, far), Y: some(r, far), Z: some(r, most)}
		for a := range t[i].A {
			t[i].A[a] = some(r, most)
		}
	}
	return t
}

// turned is such a triangle whose Area is above 0.
func turned(r *rand.Rand, far, most int) triangle {
	for {
		if t, ok := edge.Turned(anyOf(r, far, most)); ok {
			return t
		}
	}
}

// P9.1: by hand: the chapter's example, each of the three points, each edge, inside, and outside; of numbers below 0 too.
func TestAt(t *testing.T) {
	half := tri(0, 0, 16, 0, 0, 16)
	odd := tri(1, 2, 8, 3, 4, 9) // its Area is 46
	for _, x := range []struct {
		name string
		t    triangle
		n    [3]int
		x, y int
		want int
	}{
		{"example", half, [3]int{0, 16, 32}, 8, 4, 16},
		{"the first point", half, [3]int{3, 70, -900}, 0, 0, 3},
		{"the second point", half, [3]int{3, 70, -900}, 16, 0, 70},
		{"the third point", half, [3]int{3, 70, -900}, 0, 16, -900},
		{"on the first edge", half, [3]int{-8, 8, 1000}, 12, 0, 4},
		{"on the second edge", half, [3]int{1000, -16, 48}, 12, 4, 0},
		{"on the third edge", half, [3]int{100, 1000, 36}, 0, 4, 84},
		{"inside", half, [3]int{10, 26, 42}, 4, 8, 30},
		{"inside, below 0", half, [3]int{-10, -26, -42}, 4, 8, -30},
		{"outside, along an edge", half, [3]int{0, 16, 32}, 32, 0, 32},
		{"outside, along an edge, backwards", half, [3]int{0, 16, 32}, -5, 0, -5},
		{"outside, across an edge", half, [3]int{0, 16, 32}, 16, 16, 48},
		{"outside, ahead of the first point", half, [3]int{0, 16, 32}, -4, -4, -12},
		{"far outside", half, [3]int{0, 16, 32}, 16000, -3000, 10000},
		{"far outside, the other way", half, [3]int{0, 16, 32}, -16000, 3000, -10000},
		{"the first alone weighs", half, [3]int{256, 0, 0}, 3, 4, 144},
		{"the second alone weighs", half, [3]int{0, 256, 0}, 3, 4, 48},
		{"the third alone weighs", half, [3]int{0, 0, 256}, 3, 4, 64},
		{"the first weighs below 0", half, [3]int{256, 0, 0}, 13, 14, -176},
		{"the second weighs below 0", half, [3]int{0, 256, 0}, -3, 4, -48},
		{"the third weighs below 0", half, [3]int{0, 0, 256}, 3, -4, -64},
		{"odd: each of its points, the first", odd, [3]int{10, -5, 7}, 1, 2, 10},
		{"odd: the second", odd, [3]int{10, -5, 7}, 8, 3, -5},
		{"odd: the third", odd, [3]int{10, -5, 7}, 4, 9, 7},
		{"odd: the first weighs 10", odd, [3]int{46, 0, 0}, 5, 5, 10},
		{"odd: the second weighs 19", odd, [3]int{0, 46, 0}, 5, 5, 19},
		{"odd: the third weighs 17", odd, [3]int{0, 0, 46}, 5, 5, 17},
	} {
		if got := plane.At(x.t, x.n, x.x, x.y); got != x.want {
			t.Errorf("%s: At = %d; want %d", x.name, got, x.want)
		}
	}
}

// P9.1: sums that Area does not divide are rounded down: once, behind the sum, and below 0 too.
func TestAtIsRoundedDown(t *testing.T) {
	half := tri(0, 0, 16, 0, 0, 16)
	odd := tri(1, 2, 8, 3, 4, 9) // at 5, 5 its points weigh 10, 19 and 17, of 46
	for _, x := range []struct {
		t          triangle
		n          [3]int
		x, y, want int
	}{
		{half, [3]int{0, 1, 0}, 7, 0, 0},
		{half, [3]int{0, -1, 0}, 7, 0, -1},
		{half, [3]int{0, 1, 0}, 15, 0, 0},
		{half, [3]int{0, -1, 0}, 1, 0, -1},
		{half, [3]int{0, 1, 0}, -1, 0, -1},
		{half, [3]int{0, 1, 0}, -15, 0, -1},
		{half, [3]int{0, 1, 0}, -16, 0, -1},
		{half, [3]int{0, 1, 0}, -17, 0, -2},
		{half, [3]int{0, -1, 0}, -1, 0, 0},
		{half, [3]int{0, -1, 0}, -17, 0, 1},
		{half, [3]int{1, 1, 0}, 5, 5, 0},
		{half, [3]int{-1, -1, 0}, 5, 5, -1},
		{odd, [3]int{10, -5, 7}, 5, 5, 2},   // 124
		{odd, [3]int{-10, 5, -7}, 5, 5, -3}, // -124
		{odd, [3]int{1, 0, 0}, 5, 5, 0},
		{odd, [3]int{-1, 0, 0}, 5, 5, -1},
		{odd, [3]int{0, 0, 1}, 5, 5, 0},
		{odd, [3]int{0, 0, -1}, 5, 5, -1},
		{odd, [3]int{3, 2, -4}, 5, 5, 0},    // exactly 0
		{odd, [3]int{3, 2, -5}, 5, 5, -1},   // -17
		{odd, [3]int{7, 5, 7}, 5, 5, 6},     // 284, of which each product alone leaves a rest
		{odd, [3]int{0, 3, 10}, 5, 5, 4},    // 227
		{odd, [3]int{0, -3, -10}, 5, 5, -5}, // -227
		{odd, [3]int{5, 5, 5}, 5, 5, 5},
	} {
		checkAt(t, x.t, x.n, x.x, x.y, x.want)
	}
}

// P9.1: of one number three times it is that number, wherever.
func TestAtOfOneNumber(t *testing.T) {
	r := rand.New(rand.NewSource(91))
	for _, n := range []int{0, 1, -1, 7, -7, 4096, -4096, 1 << 30, numbers, -numbers} {
		for range 300 {
			x := turned(r, places, 9)
			checkAt(t, x, [3]int{n, n, n}, some(r, places), some(r, places), n)
		}
	}
}

// P9.1: numbers that are the same plane's at each point are that plane's everywhere, exactly, whatever the triangle is.
func TestAtOfAPlane(t *testing.T) {
	r := rand.New(rand.NewSource(92))
	for _, far := range []int{3, 40, 1000, places} {
		for range 1000 {
			right, down, first := some(r, 60), some(r, 60), some(r, 1000)
			of := func(x, y int) int { return right*x + down*y + first }
			u := turned(r, far, 9)
			n := [3]int{of(u[0].X, u[0].Y), of(u[1].X, u[1].Y), of(u[2].X, u[2].Y)}
			for range 5 {
				x, y := some(r, places), some(r, places)
				checkAt(t, u, n, x, y, of(x, y))
			}
		}
	}
}

// P9.1: places and numbers as great as are asked, all of them at once, by hand.
func TestAtOfGreat(t *testing.T) {
	const p, n = places, numbers
	corner := tri(-p, -p, p, -p, -p, p)
	tiny := tri(0, 0, 1, 0, 0, 1)
	for _, x := range []struct {
		name string
		t    triangle
		n    [3]int
		x, y int
		want int
	}{
		{"at a point", corner, [3]int{n, -n, n}, p, -p, -n},
		{"on an edge", corner, [3]int{n, -n, n}, 0, 0, 0},
		{"outside: all three products the greatest", corner, [3]int{-n, n, n}, p, p, 3 * n},
		{"outside: all three products the least", corner, [3]int{n, -n, -n}, p, p, -3 * n},
		{"outside: one number", corner, [3]int{n, n, n}, p, p, n},
		{"outside: one number below 0", corner, [3]int{-n, -n, -n}, p, p, -n},
		{"outside of a tiny one", tiny, [3]int{-n, n, n}, p, p, n * (4*p - 1)},
		{"outside of a tiny one, below 0", tiny, [3]int{n, -n, -n}, p, p, -n * (4*p - 1)},
		{"ahead of a tiny one", tiny, [3]int{n, -n, -n}, -p, -p, n * (4*p + 1)},
		{"ahead of a tiny one, below 0", tiny, [3]int{-n, n, n}, -p, -p, -n * (4*p + 1)},
		{"a rest of one part, below 0", corner, [3]int{-1, 0, 0}, -p + 1, -p, -1},
		{"a rest of one part", corner, [3]int{1, 0, 0}, -p + 1, -p, 0},
	} {
		if got := plane.At(x.t, x.n, x.x, x.y); got != x.want {
			t.Errorf("%s: At = %d; want %d", x.name, got, x.want)
		}
	}
	// As thin as may be: its Area is 1, so that what is far from it is as great as it can be.
	thin := tri(-p, -p, p, p-1, 1-p, 1-p)
	if a := edge.Area(thin); a != 1 {
		t.Fatalf("Area(%v) = %d", thin, a)
	}
	for _, y := range []int{-p, 0, p} {
		for _, x := range []int{-p, 0, p} {
			for _, l := range [][3]int{{n, n, n}, {n, -n, n}, {-n, n, -n}, {n, -n, -n}, {-n, n, n}, {-n, -n, n}, {n, n, -n}} {
				checkAt(t, thin, l, x, y, wantAt(t, thin, l, x, y))
			}
		}
	}
}

// P9.1: all kinds of triangles, numbers and places, against numbers without a bound; those whose Area is not above 0 too.
func TestAtOfMany(t *testing.T) {
	r := rand.New(rand.NewSource(93))
	for _, far := range []int{2, 20, 1000, places} {
		for _, most := range []int{1, 300, 1 << 20, numbers} {
			for range 1000 {
				u, n := anyOf(r, far, 9), someThree(r, most)
				for _, to := range []int{far, places} {
					x, y := some(r, to), some(r, to)
					checkAt(t, u, n, x, y, wantAt(t, u, n, x, y))
				}
			}
		}
	}
}

// P9.1: a triangle told from each of its points on, its numbers with it, has the same number everywhere.
func TestAtFromEachPointOn(t *testing.T) {
	r := rand.New(rand.NewSource(94))
	for _, far := range []int{10, 500, places} {
		for range 1000 {
			u, n := turned(r, far, 9), someThree(r, numbers)
			x, y := some(r, places), some(r, places)
			want := plane.At(u, n, x, y)
			checkAt(t, triangle{u[1], u[2], u[0]}, [3]int{n[1], n[2], n[0]}, x, y, want)
			checkAt(t, triangle{u[2], u[0], u[1]}, [3]int{n[2], n[0], n[1]}, x, y, want)
		}
	}
}

// P9.1: a number that is one more at each point is one more everywhere; so it is with any other, rest or not.
func TestAtOneMore(t *testing.T) {
	r := rand.New(rand.NewSource(95))
	for _, far := range []int{10, 500, places} {
		for range 1000 {
			u, n := turned(r, far, 9), someThree(r, 1<<30)
			x, y := some(r, places), some(r, places)
			first := plane.At(u, n, x, y)
			for _, more := range []int{1, -1, 2, -3, 1000, 1 << 29, -1 << 29} {
				checkAt(t, u, [3]int{n[0] + more, n[1] + more, n[2] + more}, x, y, first+more)
			}
		}
	}
}

// P9.1: a triangle moved, and the place with it, has the same number there; depths and attributes of its points do not matter.
func TestAtHangsOnPlacesAlone(t *testing.T) {
	r := rand.New(rand.NewSource(96))
	for range 2000 {
		u, n := turned(r, places/4, numbers), someThree(r, numbers)
		x, y := some(r, places/4), some(r, places/4)
		want := plane.At(u, n, x, y)
		right, down := some(r, places/2), some(r, places/2)
		bare, moved := u, u
		for i, p := range u {
			bare[i] = api.Point{X: p.X, Y: p.Y}
			moved[i].X, moved[i].Y = p.X+right, p.Y+down
		}
		checkAt(t, bare, n, x, y, want)
		checkAt(t, moved, n, x+right, y+down, want)
	}
}

// none are triangles whose Area is 0, or below. Their depths and attributes are all above 0, or all below, so that a 0 that was held within them would be another.
func none() []triangle {
	const p = places
	var l []triangle
	for _, t := range []triangle{
		{}, tri(5, 5, 5, 5, 5, 5), tri(0, 0, 16, 0, 16, 0), tri(0, 0, 0, 0, 16, 0), tri(0, 0, 16, 0, 0, 0),
		tri(0, 0, 16, 0, 32, 0), tri(0, 0, 0, 16, 0, 48), tri(-16, -8, 0, 0, 16, 8), tri(-p, -p, 0, 0, p, p), tri(p, -p, 0, 0, -p, p),
		tri(0, 0, 0, 16, 16, 0), tri(0, 0, 0, 1, 1, 0), tri(-p, -p, -p, p, p, -p), tri(p, p, p, -p, -p, p), tri(1, 2, 4, 9, 8, 3),
	} {
		for _, n := range []int{1, -1, 70, -70, numbers - 2, 2 - numbers} {
			for i := range t {
				t[i].Z, t[i].A = n, [4]int{n, n, n, n}
				if n > 1 || n < -1 {
					t[i].Z, t[i].A[1] = n+i%2, n-i%2
				}
			}
			l = append(l, t)
		}
	}
	return l
}

// P9.1, P9.2: a triangle whose Area is 0 or below has 0 everywhere, held within nothing.
func TestNone(t *testing.T) {
	for _, u := range none() {
		if a := edge.Area(u); a > 0 {
			t.Fatalf("Area(%v) = %d, which is not wrong", u, a)
		}
		for y := -3; y <= 3; y++ {
			for x := -3; x <= 3; x++ {
				checkAt(t, u, [3]int{4, 5, 6}, 8*x, 8*y, 0)
				checkAt(t, u, [3]int{-6, -6, -6}, 8*x, 8*y, 0)
				checkAt(t, u, [3]int{numbers, numbers, numbers}, 5000*x, -5000*y, 0)
				if z := plane.Depth(u, x, y); z != 0 {
					t.Errorf("Depth(%v, %d, %d) = %d", u, x, y, z)
				}
				if a := plane.Attrs(u, x, y); a != [4]int{} {
					t.Errorf("Attrs(%v, %d, %d) = %v", u, x, y, a)
				}
			}
		}
	}
}

// P9.2: by hand: the depth in the middle of the pixel, inside, and outside on both sides, where it is held; and with the same numbers the attributes, which are not.
func TestDepthAndAttrs(t *testing.T) {
	half := tri(0, 0, 16, 0, 0, 16)
	wide := tri(-64, -64, 192, -64, -64, 192)
	for _, x := range []struct {
		name        string
		t           triangle
		n           [3]int
		x, y        int
		depth, free int
	}{
		{"in the middle of an edge", half, [3]int{100, 200, 400}, 0, 0, 300, 300},
		{"beyond, above the greatest", half, [3]int{100, 200, 400}, 3, 3, 400, 1500},
		{"beyond, one to the right", half, [3]int{100, 200, 400}, 1, 0, 400, 400},
		{"ahead, below the least", half, [3]int{100, 200, 400}, -1, -1, 100, -100},
		{"far ahead", half, [3]int{100, 200, 400}, -3, -3, 100, -900},
		{"falling: beyond, below the least", half, [3]int{400, 200, 100}, 2, 2, 100, -850},
		{"falling: ahead, above the greatest", half, [3]int{400, 200, 100}, -1, -1, 400, 650},
		{"outside, and yet between", half, [3]int{100, 200, 400}, -1, 1, 400, 500},
		{"outside, and between", half, [3]int{0, 100, 100}, 1, -1, 100, 100},
		{"outside, and between, rounded down", half, [3]int{-1, 4, 2}, 1, -1, 4, 5},
		{"below 0: ahead", half, [3]int{-100, -200, -400}, -1, -1, -100, 100},
		{"below 0: beyond", half, [3]int{-100, -200, -400}, 1, 1, -400, -700},
		{"one number", half, [3]int{7, 7, 7}, 60, -60, 7, 7},
		{"one number below 0", half, [3]int{-7, -7, -7}, -60, 60, -7, -7},
		{"the first is the least, the second the greatest", half, [3]int{0, 160, 80}, 9, 0, 160, 1560},
		{"the second is the least, the third the greatest", half, [3]int{0, -160, 160}, 9, -4, -160, -2080},
		{"the third is the least, the first the greatest", half, [3]int{160, 0, -160}, 0, 9, -160, -2960},
		{"the first is the greatest, ahead of it", half, [3]int{160, 0, -160}, 0, -9, 160, 2800},
		{"inside", wide, [3]int{0, 256, 512}, 2, 1, 280, 280},
		{"inside, of a pixel below 0", wide, [3]int{0, 256, 512}, -2, -3, 88, 88},
		{"inside, of a pixel below 0, rounded down", wide, [3]int{0, -255, 0}, -2, 0, -40, -40},
		{"inside, rounded down", wide, [3]int{0, 255, 0}, -2, 0, 39, 39},
		{"outside, of a pixel below 0", wide, [3]int{0, 256, 512}, -9, -9, 0, -216},
	} {
		if got := plane.Depth(deep(x.t, x.n[:]...), x.x, x.y); got != x.depth {
			t.Errorf("%s: Depth = %d; want %d", x.name, got, x.depth)
		}
		for i := range 4 {
			got := plane.Attrs(with(x.t, i, x.n), x.x, x.y)
			if got[i] != x.free {
				t.Errorf("%s: Attrs[%d] = %d; want %d", x.name, i, got[i], x.free)
			}
		}
	}
}

// P9.2: both are asked at the middle of a pixel, to the right and downwards apart, also below 0 and as far as is asked.
func TestAtTheCentre(t *testing.T) {
	for _, p := range []struct{ pixel, centre int }{
		{0, 8}, {1, 24}, {2, 40}, {63, 1016}, {-1, -8}, {-2, -24}, {-64, -1016}, {pixels, 16376}, {-pixels - 1, -16376},
	} {
		// Its numbers are as many as parts, so that they tell the place.
		u := tri(-places, -places, places, -places, -places, places)
		u = deep(u, -places, places, -places)
		for i := range u {
			u[i].A = [4]int{u[i].X, u[i].Y, -u[i].X, u[i].X + 2*u[i].Y}
		}
		for _, other := range []int{-3, 0, 5, 700} {
			y := 16*other + 8
			if got := plane.Depth(u, p.pixel, other); got != p.centre {
				t.Errorf("to the right Depth at %d, %d = %d; want %d", p.pixel, other, got, p.centre)
			}
			if got := plane.Depth(deep(u, -places, -places, places), other, p.pixel); got != p.centre {
				t.Errorf("downwards Depth at %d, %d = %d; want %d", other, p.pixel, got, p.centre)
			}
			if got, want := plane.Attrs(u, p.pixel, other), ([4]int{p.centre, y, -p.centre, p.centre + 2*y}); got != want {
				t.Errorf("Attrs at %d, %d = %v; want %v", p.pixel, other, got, want)
			}
			if got, want := plane.Attrs(u, other, p.pixel), ([4]int{y, p.centre, -y, y + 2*p.centre}); got != want {
				t.Errorf("Attrs at %d, %d = %v; want %v", other, p.pixel, got, want)
			}
		}
	}
}

// P9.2: as great as is asked, all at once, by hand: held, and not.
func TestDepthAndAttrsOfGreat(t *testing.T) {
	const n = numbers
	tiny := tri(0, 0, 1, 0, 0, 1)
	for _, x := range []struct {
		z          [3]int
		pixel      int
		depth, any int
	}{
		{[3]int{-n, n, n}, pixels, n, n * (4*16376 - 1)},
		{[3]int{n, -n, -n}, pixels, -n, -n * (4*16376 - 1)},
		{[3]int{-n, n, n}, -pixels - 1, -n, -n * (4*16376 + 1)},
		{[3]int{n, -n, -n}, -pixels - 1, n, n * (4*16376 + 1)},
		{[3]int{n, n, n}, pixels, n, n},
		{[3]int{-n, -n, -n}, -pixels - 1, -n, -n},
	} {
		u := deep(tiny, x.z[:]...)
		if got := plane.Depth(u, x.pixel, x.pixel); got != x.depth {
			t.Errorf("Depth of %v at %d = %d; want %d", x.z, x.pixel, got, x.depth)
		}
		for i := range 4 {
			u = with(u, i, x.z)
		}
		if got := plane.Attrs(u, x.pixel, x.pixel); got != [4]int{x.any, x.any, x.any, x.any} {
			t.Errorf("Attrs of %v at %d = %v; want %d", x.z, x.pixel, got, x.any)
		}
	}
}

// P9.2: all kinds of triangles and pixels, against numbers without a bound; inside and held on both sides are all seen.
func TestDepthAndAttrsOfMany(t *testing.T) {
	r := rand.New(rand.NewSource(97))
	for _, far := range []int{40, 1000, places} {
		for _, most := range []int{50, 1 << 16, numbers} {
			below, between, above := 0, 0, 0
			for range 2000 {
				u := anyOf(r, far, most)
				x, y := some(r, min(far/8, pixels)), some(r, min(far/8, pixels))
				want := wantDepth(t, u, x, y)
				if got := plane.Depth(u, x, y); got != want {
					t.Fatalf("Depth(%v, %d, %d) = %d; want %d", u, x, y, got, want)
				}
				switch free := wantAt(t, u, depths(u), 16*x+8, 16*y+8); {
				case free < want:
					below++
				case free > want:
					above++
				case want != 0:
					between++
				}
				got := plane.Attrs(u, x, y)
				for i := range got {
					if want := wantAt(t, u, attribute(u, i), 16*x+8, 16*y+8); got[i] != want {
						t.Fatalf("Attrs(%v, %d, %d) = %v; want %d at %d", u, x, y, got, want, i)
					}
				}
			}
			if below < 50 || between < 50 || above < 50 {
				t.Errorf("up to %d, %d: only %d held from below, %d between, %d held from above", far, most, below, between, above)
			}
		}
	}
}

// P9.2: each attribute is on its own, and so is the depth: where one is another, the others stay.
func TestEachOnItsOwn(t *testing.T) {
	r := rand.New(rand.NewSource(98))
	for range 1000 {
		u := turned(r, 300, 5000)
		x, y := some(r, 30), some(r, 30)
		z, a := plane.Depth(u, x, y), plane.Attrs(u, x, y)
		for i := range 4 {
			// A number that is so much more at each point is so much more at each place.
			n := attribute(u, i)
			other := with(u, i, [3]int{n[0] + 77, n[1] + 77, n[2] + 77})
			want := a
			want[i] += 77
			if got := plane.Attrs(other, x, y); got != want {
				t.Fatalf("the attribute %d 77 more: Attrs(%v, %d, %d) = %v; want %v", i, other, x, y, got, want)
			}
			if got := plane.Depth(other, x, y); got != z {
				t.Fatalf("the attribute %d 77 more: Depth(%v, %d, %d) = %d; want %d", i, other, x, y, got, z)
			}
		}
		deeper := deep(u, u[0].Z+77, u[1].Z+77, u[2].Z+77)
		if got := plane.Depth(deeper, x, y); got != z+77 {
			t.Fatalf("77 deeper: Depth(%v, %d, %d) = %d; want %d", deeper, x, y, got, z+77)
		}
		if got := plane.Attrs(deeper, x, y); got != a {
			t.Fatalf("77 deeper: Attrs(%v, %d, %d) = %v; want %v", deeper, x, y, got, a)
		}
	}
}

// P9.2: a triangle told from each of its points on has the same depth and attributes.
func TestDepthAndAttrsFromEachPointOn(t *testing.T) {
	r := rand.New(rand.NewSource(99))
	for _, far := range []int{40, 1000, places} {
		for range 1000 {
			u := turned(r, far, numbers)
			x, y := some(r, min(far/8, pixels)), some(r, min(far/8, pixels))
			z, a := plane.Depth(u, x, y), plane.Attrs(u, x, y)
			for _, other := range []triangle{{u[1], u[2], u[0]}, {u[2], u[0], u[1]}} {
				if got := plane.Depth(other, x, y); got != z {
					t.Fatalf("Depth(%v, %d, %d) = %d; want %d", other, x, y, got, z)
				}
				if got := plane.Attrs(other, x, y); got != a {
					t.Fatalf("Attrs(%v, %d, %d) = %v; want %v", other, x, y, got, a)
				}
			}
		}
	}
}

// P9.3: at each point of a triangle it is that point's number, whatever the others are.
func TestAtItsPoints(t *testing.T) {
	r := rand.New(rand.NewSource(910))
	for _, far := range []int{2, 100, places} {
		for range 1000 {
			u, n := turned(r, far, 9), someThree(r, numbers)
			for i, p := range u {
				checkAt(t, u, n, p.X, p.Y, n[i])
			}
		}
	}
}

// P9.3: a pixel whose middle is a point of a triangle has that point's depth and attributes.
func TestPixelsAtItsPoints(t *testing.T) {
	r := rand.New(rand.NewSource(911))
	for range 1000 {
		var pixel [3][2]int
		u := anyOf(r, 1, numbers)
		for i := range u {
			pixel[i] = [2]int{some(r, pixels), some(r, pixels)}
			u[i].X, u[i].Y = view.Centre(pixel[i][0]), view.Centre(pixel[i][1])
		}
		if edge.Area(u) < 0 {
			u, pixel[1], pixel[2] = back(u), pixel[2], pixel[1]
		}
		if edge.Area(u) == 0 {
			continue
		}
		for i, p := range pixel {
			if got := plane.Depth(u, p[0], p[1]); got != u[i].Z {
				t.Fatalf("Depth(%v, %v) = %d; want %d", u, p, got, u[i].Z)
			}
			if got := plane.Attrs(u, p[0], p[1]); got != u[i].A {
				t.Fatalf("Attrs(%v, %v) = %v; want %v", u, p, got, u[i].A)
			}
		}
	}
}

// isIn tells whether a place is in a triangle, or on one of its edges.
func isIn(t triangle, x, y int) bool {
	return edge.Cross(t[0], t[1], x, y) >= 0 && edge.Cross(t[1], t[2], x, y) >= 0 && edge.Cross(t[2], t[0], x, y) >= 0
}

// P9.3: within a triangle, and on its edges, it lies between the least and the greatest.
func TestWithin(t *testing.T) {
	r := rand.New(rand.NewSource(912))
	for _, far := range []int{6, 100, places} {
		for _, most := range []int{2, 500, numbers} {
			seen := 0
			for range 300 {
				u, n := turned(r, far, 9), someThree(r, most)
				for range 20 {
					x, y := r.Intn(2*far+1)-far, r.Intn(2*far+1)-far
					if !isIn(u, x, y) {
						continue
					}
					seen++
					if got := plane.At(u, n, x, y); got < min(n[0], n[1], n[2]) || got > max(n[0], n[1], n[2]) {
						t.Fatalf("At(%v, %v, %d, %d) = %d, which is not between", u, n, x, y, got)
					}
				}
			}
			if seen < 100 {
				t.Errorf("up to %d only %d places were within", far, seen)
			}
		}
	}
}

// P9.3: of a pixel whose middle is within nothing needs to be held, so that an attribute of the same numbers is the depth.
func TestWithinNothingIsHeld(t *testing.T) {
	r := rand.New(rand.NewSource(913))
	seen := 0
	for range 2000 {
		u := turned(r, 800, numbers)
		u = with(u, 2, depths(u))
		x, y := r.Intn(101)-50, r.Intn(101)-50
		if !isIn(u, view.Centre(x), view.Centre(y)) {
			continue
		}
		seen++
		if z, a := plane.Depth(u, x, y), plane.Attrs(u, x, y); z != a[2] {
			t.Fatalf("Depth(%v, %d, %d) = %d; its Attrs are %v", u, x, y, z, a)
		}
	}
	if seen < 100 {
		t.Errorf("only %d pixels were within", seen)
	}
}

// R7, R6: what is handed in is not changed; what was told is the caller's own; and asked again, it is the same.
func TestOwn(t *testing.T) {
	r := rand.New(rand.NewSource(914))
	for range 300 {
		u, n := anyOf(r, 300, 5000), someThree(r, 5000)
		keptU, keptN := u, n
		x, y := some(r, 30), some(r, 30)
		first, z, a := plane.At(u, n, x, y), plane.Depth(u, x, y), plane.Attrs(u, x, y)
		if u != keptU || n != keptN {
			t.Fatalf("%v and %v became %v and %v", keptU, keptN, u, n)
		}
		keptA := a
		a[0], a[3] = a[0]+1, a[3]-1
		other := anyOf(r, 300, 5000)
		plane.At(other, someThree(r, 5000), y, x)
		plane.Depth(other, y, x)
		plane.Attrs(other, y, x)
		if plane.At(u, n, x, y) != first || plane.Depth(u, x, y) != z || plane.Attrs(u, x, y) != keptA {
			t.Fatalf("%v, %v at %d, %d is another, asked again", u, n, x, y)
		}
	}
}

// R1: numbers beyond those that are asked end too, and none panics.
func TestNoPanic(t *testing.T) {
	edges := []int{math.MinInt, math.MinInt + 1, -1, 0, 1, math.MaxInt - 1, math.MaxInt}
	for _, a := range edges {
		for _, b := range edges {
			for _, c := range edges {
				for _, u := range []triangle{tri(a, b, b, c, c, a), tri(0, 0, 1, 0, 0, 1), tri(0, 0, a, b, c, 1)} {
					u = deep(u, a, b, c)
					plane.At(u, [3]int{a, b, c}, b, c)
					plane.Depth(u, c, a)
					plane.Attrs(u, a, b)
				}
			}
		}
	}
}
