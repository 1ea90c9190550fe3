package edge_test

import (
	"math"
	"math/big"
	"math/rand"
	"testing"

	"glazier/api"
	"glazier/edge"
)

// asked is up to which number, without its sign, the calls are asked.
const asked = 1 << 20

type triangle = [3]api.Point

// at is a point with a depth and attributes that hang on its place, so that they are told apart.
func at(x, y int) api.Point {
	return api.Point{X: x, Y: y, Z: 5*x - 7*y + 1, A: [4]int{x + 1, y + 2, x - y, x + y + 3}}
}

// tri is a triangle of its places.
func tri(ax, ay, bx, by, cx, cy int) triangle {
	return triangle{at(ax, ay), at(bx, by), at(cx, cy)}
}

// told are the six ways to tell one triangle: three from each of its points on, and then three the other way about.
func told(t triangle) [6]triangle {
	a, b, c := t[0], t[1], t[2]
	return [6]triangle{{a, b, c}, {b, c, a}, {c, a, b}, {a, c, b}, {c, b, a}, {b, a, c}}
}

// determinant is that of the three places with a 1 beside each, which Cross must be, by its six products in numbers without a bound.
func determinant(ax, ay, bx, by, x, y *big.Int) *big.Int {
	sum := new(big.Int)
	for _, p := range [][2]*big.Int{{ax, by}, {bx, y}, {x, ay}} {
		sum.Add(sum, new(big.Int).Mul(p[0], p[1]))
	}
	for _, p := range [][2]*big.Int{{ay, bx}, {by, x}, {y, ax}} {
		sum.Sub(sum, new(big.Int).Mul(p[0], p[1]))
	}
	return sum
}

func whole(n int) *big.Int { return big.NewInt(int64(n)) }

// wantCross is what P7.1 says of an edge and a place.
func wantCross(a, b api.Point, x, y int) int {
	return int(determinant(whole(a.X), whole(a.Y), whole(b.X), whole(b.Y), whole(x), whole(y)).Int64())
}

// wantIn is what P7.2 says, reckoned without looking at edges: what lies on one is in the triangle that a place moved least to the right, and yet less downwards, is inside of. All is made greater by scale, so that the moves are whole numbers, and too small to leave one side of a line for the other.
func wantIn(t triangle, x, y int) bool {
	const scale, right, down = 1 << 50, 1 << 24, 1
	great := func(n, move int) *big.Int {
		m := whole(n)
		m.Mul(m, whole(scale))
		return m.Add(m, whole(move))
	}
	for i, a := range t {
		b := t[(i+1)%3]
		if determinant(great(a.X, 0), great(a.Y, 0), great(b.X, 0), great(b.Y, 0), great(x, right), great(y, down)).Sign() <= 0 {
			return false
		}
	}
	return true
}

// some is a number up to most without its sign, now and then the greatest, the least, or near 0.
func some(r *rand.Rand, most int) int {
	return []int{most, -most, r.Intn(3) - 1, r.Intn(2*most+1) - most, r.Intn(2*most+1) - most}[r.Intn(5)]
}

func anyOf(r *rand.Rand, most int) api.Point {
	return at(some(r, most), some(r, most))
}

// P7.1: on both sides of an edge, on it, at its ends, and beyond them; from the other end on it is the other side.
func TestCross(t *testing.T) {
	for _, x := range []struct {
		name           string
		ax, ay, bx, by int
		x, y, want     int
	}{
		{"below one to the right", 0, 0, 16, 0, 5, 3, 48},
		{"above one to the right", 0, 0, 16, 0, 5, -3, -48},
		{"on one to the right", 0, 0, 16, 0, 5, 0, 0},
		{"right of one downwards", 0, 0, 0, 16, 5, 3, -80},
		{"left of one downwards", 0, 0, 0, 16, -5, 3, 80},
		{"on one downwards", 0, 0, 0, 16, 0, 7, 0},
		{"below one that slopes", 2, 3, 10, 7, 6, 6, 8},
		{"above one that slopes", 2, 3, 10, 7, 6, 4, -8},
		{"on one that slopes", 2, 3, 10, 7, 6, 5, 0},
		{"its first end", 2, 3, 10, 7, 2, 3, 0},
		{"its second end", 2, 3, 10, 7, 10, 7, 0},
		{"ahead of its first end", 2, 3, 10, 7, 0, 2, 0},
		{"behind its second end", 2, 3, 10, 7, 12, 8, 0},
		{"below 0", -9, -4, -2, -6, -5, -5, 1},
		{"below 0, the other side", -9, -4, -2, -6, -6, -5, -1},
		{"ends that are one", 4, 5, 4, 5, 90, -80, 0},
	} {
		a, b := at(x.ax, x.ay), at(x.bx, x.by)
		if got := edge.Cross(a, b, x.x, x.y); got != x.want {
			t.Errorf("%s: Cross = %d; want %d", x.name, got, x.want)
		}
		if got := edge.Cross(b, a, x.x, x.y); got != -x.want {
			t.Errorf("%s: Cross the other way = %d; want %d", x.name, got, -x.want)
		}
	}
}

// P7.1: numbers as great as are asked.
func TestCrossOfGreat(t *testing.T) {
	low, high := at(-asked, -asked), at(asked, asked)
	for _, x := range []struct{ x, y, want int }{
		{-asked, asked, 1 << 42}, {asked, -asked, -1 << 42}, {0, 0, 0},
		{asked, asked, 0}, {-asked, -asked, 0}, {asked - 1, asked, 1 << 21}, {asked, asked - 1, -1 << 21},
	} {
		if got := edge.Cross(low, high, x.x, x.y); got != x.want {
			t.Errorf("Cross at %d, %d = %d; want %d", x.x, x.y, got, x.want)
		}
	}
}

// P7.1: of many edges and places what the document's words say, and the same whatever the depths and attributes are.
func TestCrossOfMany(t *testing.T) {
	r := rand.New(rand.NewSource(7))
	for _, most := range []int{3, 100, asked} {
		for range 5000 {
			a, b := anyOf(r, most), anyOf(r, most)
			x, y := some(r, most), some(r, most)
			want := wantCross(a, b, x, y)
			if got := edge.Cross(a, b, x, y); got != want {
				t.Fatalf("Cross(%v, %v, %d, %d) = %d; want %d", a, b, x, y, got, want)
			}
			bare := edge.Cross(api.Point{X: a.X, Y: a.Y}, api.Point{X: b.X, Y: b.Y}, x, y)
			if bare != want {
				t.Fatalf("without depths Cross(%v, %v, %d, %d) = %d; want %d", a, b, x, y, bare, want)
			}
		}
	}
}

// P7.1: the same from each point on, and less than 0 by as much the other way about.
func TestArea(t *testing.T) {
	for _, x := range []struct {
		t    triangle
		want int
	}{
		{tri(0, 0, 16, 0, 0, 16), 256},
		{tri(2, 3, 10, 3, 2, 9), 48},
		{tri(0, 0, 1, 0, 0, 1), 1},
		{tri(-9, -4, -2, -6, -5, -5), 1},
		{tri(-8, -8, 8, -4, -2, 8), 232},
		{tri(-asked, -asked, asked, -asked, asked, asked), 1 << 42},
		{tri(-asked, -asked, asked, asked, asked-1, asked), 1 << 21},
		{tri(-asked, -asked, asked, asked-1, 0, 0), 1 << 20},
		{tri(1, 1, 5, 5, -3, -3), 0},
		{tri(4, 4, 4, 4, 9, 1), 0},
		{tri(4, 4, 4, 4, 4, 4), 0},
	} {
		for i, way := range told(x.t) {
			want := x.want
			if i >= 3 {
				want = -want
			}
			if got := edge.Area(way); got != want {
				t.Errorf("Area(%v) = %d; want %d", way, got, want)
			}
		}
	}
}

// P7.1: what is above 0 stays, what is below has its second and third one changed about, whole; and what is told is above 0.
func TestTurned(t *testing.T) {
	for _, x := range []triangle{
		tri(0, 0, 16, 0, 0, 16), tri(2, 3, 10, 3, 2, 9), tri(0, 0, 1, 0, 0, 1), tri(-9, -4, -2, -6, -5, -5),
		tri(-asked, -asked, asked, -asked, asked, asked), tri(-asked, -asked, asked, asked-1, 0, 0),
	} {
		for i, way := range told(x) {
			want := way
			if i >= 3 {
				want = triangle{way[0], way[2], way[1]}
			}
			got, ok := edge.Turned(way)
			if !ok || got != want {
				t.Errorf("Turned(%v) = %v, %v; want %v", way, got, ok, want)
			}
			if again, ok := edge.Turned(got); !ok || again != got || edge.Area(got) <= 0 {
				t.Errorf("Turned(%v) = %v, of Area %d, which turned is %v", way, got, edge.Area(got), again)
			}
		}
	}
}

// flat are triangles whose Area is 0: on one line, two points that are one, and all three.
func flat() []triangle {
	apart := tri(4, 5, 4, 5, 4, 5)
	apart[1].Z, apart[2].A[3] = 99, -99
	return []triangle{
		{}, apart,
		tri(4, 5, 4, 5, 4, 5), tri(4, 5, 4, 5, 9, 1), tri(9, 1, 4, 5, 4, 5), tri(4, 5, 9, 1, 4, 5),
		tri(0, 0, 3, 0, 9, 0), tri(0, 0, 9, 0, 3, 0), tri(0, 0, 0, 3, 0, 9), tri(0, 9, 0, 3, 0, 0),
		tri(1, 1, 5, 5, -3, -3), tri(-6, 3, -2, 1, 4, -2), tri(2, 6, 0, 0, -1, -3),
		tri(-asked, -asked, 0, 0, asked, asked), tri(-asked, asked, asked, -asked, 0, 0), tri(asked, -asked, asked, asked, asked, 0),
	}
}

// P7.1, P7.2, R2: of an Area of 0 there is nothing, and nothing is in it: neither what lies on it nor what is beside.
func TestFlat(t *testing.T) {
	for _, x := range flat() {
		for _, way := range told(x) {
			if got, ok := edge.Turned(way); ok || got != (triangle{}) {
				t.Errorf("Turned(%v) = %v, %v; want nothing", way, got, ok)
			}
			for _, p := range way {
				for dy := -10; dy <= 10; dy++ {
					for dx := -10; dx <= 10; dx++ {
						if edge.In(way, p.X+dx, p.Y+dy) {
							t.Fatalf("In(%v, %d, %d)", way, p.X+dx, p.Y+dy)
						}
					}
				}
			}
		}
	}
}

// P7.2: what goes up, whichever way beside, or straight to the right; and never from a point to where it is, whatever its depth.
func TestFirst(t *testing.T) {
	for _, from := range []api.Point{at(0, 0), at(5, 7), at(-5, -7), at(3-asked, asked-3), at(asked-3, 3-asked)} {
		for _, far := range []int{1, 2, 3} {
			for _, x := range []struct {
				name   string
				dx, dy int
				want   bool
			}{
				{"up", 0, -far, true}, {"up and right", far, -1, true}, {"up and left", -far, -1, true},
				{"right", far, 0, true}, {"left", -far, 0, false},
				{"down", 0, far, false}, {"down and right", far, 1, false}, {"down and left", -far, 1, false},
				{"nowhere", 0, 0, false},
			} {
				to := at(from.X+x.dx, from.Y+x.dy)
				if got := edge.First(from, to); got != x.want {
					t.Errorf("%s: First(%v, %v) = %v", x.name, from, to, got)
				}
				to.Z, to.A = from.Z-1, [4]int{-9, 9, -9, 9}
				if got := edge.First(from, to); got != x.want {
					t.Errorf("%s, other depths: First(%v, %v) = %v", x.name, from, to, got)
				}
			}
		}
	}
}

// P7.2: of two points that are not one just one way is First.
func TestFirstOneWay(t *testing.T) {
	r := rand.New(rand.NewSource(71))
	for _, most := range []int{2, 50, asked} {
		for range 3000 {
			a, b := anyOf(r, most), anyOf(r, most)
			same := a.X == b.X && a.Y == b.Y
			if one, other := edge.First(a, b), edge.First(b, a); one && other || !same && one == other || same && one {
				t.Fatalf("First of %v and %v: %v, %v", a, b, one, other)
			}
		}
	}
}

// P7.2: the document's example, and places inside, outside, on each of three edges and at each of three points.
func TestIn(t *testing.T) {
	example := tri(0, 0, 16, 0, 0, 16)
	other := tri(0, 16, 16, 0, 16, 16)
	slim := tri(-12, -8, 4, -4, -4, 8)
	for _, x := range []struct {
		name string
		t    triangle
		x, y int
		want bool
	}{
		{"example: the first point", example, 0, 0, true}, {"example: the second", example, 16, 0, false}, {"example: its slope", example, 8, 8, false},
		{"the third point", example, 0, 16, false}, {"inside", example, 5, 5, true},
		{"the upper edge", example, 8, 0, true}, {"the left edge", example, 0, 8, true},
		{"inside by one of the slope", example, 8, 7, true}, {"outside by one of it", example, 8, 9, false},
		{"above", example, 8, -1, false}, {"to the left", example, -1, 8, false},
		{"right of the upper edge", example, 17, 0, false}, {"left of it", example, -1, 0, false}, {"below the left edge", example, 0, 17, false},
		{"the other: its slope", other, 8, 8, true}, {"the other: the lower edge", other, 8, 16, false}, {"the other: the right edge", other, 16, 8, false},
		{"the other: its points", other, 0, 16, false}, {"the other: its points", other, 16, 0, false}, {"the other: its points", other, 16, 16, false},
		{"the other: inside", other, 12, 12, true}, {"the other: outside", other, 7, 8, false},
		{"below 0: an edge downwards right", slim, -4, -6, false}, {"below 0: an edge downwards left", slim, 0, 2, false}, {"below 0: an edge upwards", slim, -8, 0, true},
		{"below 0: its points", slim, -12, -8, false}, {"below 0: its points", slim, 4, -4, false}, {"below 0: its points", slim, -4, 8, false},
		{"below 0: inside", slim, -4, -5, true}, {"below 0: outside", slim, -9, 0, false},
	} {
		for i, way := range told(x.t) {
			want := x.want && i < 3
			if got := edge.In(way, x.x, x.y); got != want {
				t.Errorf("%s: In(%v, %d, %d) = %v", x.name, way, x.x, x.y, got)
			}
		}
	}
}

// P7.2: of all triangles of a small grid, each told in all its ways, all places in and around it.
func TestInOfSmall(t *testing.T) {
	const side = 3
	for n := range side * side * side * side * side * side {
		var l [6]int
		for i := range l {
			l[i], n = n%side-1, n/side
		}
		x := tri(l[0], l[1], l[2], l[3], l[4], l[5])
		for py := -2; py <= 2; py++ {
			for px := -2; px <= 2; px++ {
				if got, want := edge.In(x, px, py), wantIn(x, px, py); got != want {
					t.Fatalf("In(%v, %d, %d) = %v", x, px, py, got)
				}
			}
		}
	}
}

// around are places by which a triangle's edges are held: its points, what is between two of them, the middle, and what is one beside each.
func around(x triangle) [][2]int {
	var l [][2]int
	beside := func(px, py int) {
		for i := range 9 {
			l = append(l, [2]int{px + i%3 - 1, py + i/3 - 1})
		}
	}
	for i, a := range x {
		b := x[(i+1)%3]
		beside(a.X, a.Y)
		beside((a.X+b.X)/2, (a.Y+b.Y)/2)
	}
	beside((x[0].X+x[1].X+x[2].X)/3, (x[0].Y+x[1].Y+x[2].Y)/3)
	return l
}

// P7.2: of many triangles, up to numbers as great as are asked.
func TestInOfMany(t *testing.T) {
	r := rand.New(rand.NewSource(72))
	for _, most := range []int{8, 1000, asked - 1} {
		for range 200 {
			x := triangle{anyOf(r, most), anyOf(r, most), anyOf(r, most)}
			for _, way := range told(x) {
				for _, p := range around(way) {
					if got, want := edge.In(way, p[0], p[1]), wantIn(way, p[0], p[1]); got != want {
						t.Fatalf("In(%v, %d, %d) = %v", way, p[0], p[1], got)
					}
				}
			}
		}
	}
}

// turned is a triangle of three points whose Area is above 0.
func turned(t *testing.T, a, b, c api.Point) triangle {
	t.Helper()
	x, ok := edge.Turned(triangle{a, b, c})
	if !ok {
		t.Fatalf("Turned(%v, %v, %v) is none", a, b, c)
	}
	return x
}

// beside is a point on that side of an edge where Cross is above 0.
func beside(r *rand.Rand, from, to api.Point) api.Point {
	for {
		if p := anyOf(r, asked); wantCross(from, to, p.X, p.Y) > 0 {
			return p
		}
	}
}

// had is in how many of some triangles a place is.
func had(l []triangle, x, y int) int {
	n := 0
	for _, one := range l {
		if edge.In(one, x, y) {
			n++
		}
	}
	return n
}

// P7.3: each place on an edge, between its ends, is in just one of two triangles on both sides of it, whichever way the edge goes and wherever their third points are.
func TestOneOfTwo(t *testing.T) {
	r := rand.New(rand.NewSource(73))
	for dy := -3; dy <= 3; dy++ {
		for dx := -3; dx <= 3; dx++ {
			if dx == 0 && dy == 0 {
				continue
			}
			for _, far := range []int{4, 1000, asked/4 - 8} {
				from := at(some(r, asked/4), some(r, asked/4))
				to := at(from.X+far*dx, from.Y+far*dy)
				for range 10 {
					c, d := beside(r, from, to), beside(r, to, from)
					both := []triangle{turned(t, from, to, c), turned(t, to, from, d)}
					for _, step := range []int{1, 2, far / 2, far - 2, far - 1} {
						if n := had(both, from.X+step*dx, from.Y+step*dy); n != 1 {
							t.Fatalf("%v: the place %d of %d from %v on is in %d of them", both, step, far, from, n)
						}
					}
				}
			}
		}
	}
}

// P7.3: a four-sided figure without a bay has, cut in two either way, the same places, none of them twice; and those between its sides.
func TestFourSided(t *testing.T) {
	for _, l := range [][4]api.Point{
		{at(0, 0), at(6, 0), at(6, 6), at(0, 6)},
		{at(0, -5), at(5, 0), at(0, 5), at(-5, 0)},
		{at(-4, -6), at(5, -3), at(6, 5), at(-7, 2)},
		{at(-3, -3), at(7, -1), at(5, 7), at(-5, 5)},
	} {
		one := []triangle{turned(t, l[0], l[1], l[2]), turned(t, l[2], l[3], l[0])}
		other := []triangle{turned(t, l[1], l[2], l[3]), turned(t, l[3], l[0], l[1])}
		for y := -9; y <= 9; y++ {
			for x := -9; x <= 9; x++ {
				inner, outer := true, false
				for i, a := range l {
					c := wantCross(a, l[(i+1)%4], x, y)
					inner, outer = inner && c > 0, outer || c < 0
				}
				n, m := had(one, x, y), had(other, x, y)
				if n != m || n > 1 || inner && n != 1 || outer && n != 0 {
					t.Errorf("%v: %d, %d is in %d, and cut the other way in %d", l, x, y, n, m)
				}
			}
		}
	}
}

// P7.3: triangles around one point, which all have it, have each place between their outer points once, the one in the middle too.
func TestAround(t *testing.T) {
	ring := []api.Point{at(8, 0), at(5, 7), at(0, 8), at(-6, 6), at(-8, 0), at(-5, -7), at(0, -8), at(7, -5)}
	for _, middle := range []api.Point{at(0, 0), at(1, 2), at(-3, -1)} {
		var l []triangle
		for i, a := range ring {
			l = append(l, turned(t, middle, a, ring[(i+1)%len(ring)]))
		}
		for y := -4; y <= 4; y++ {
			for x := -4; x <= 4; x++ {
				if n := had(l, x, y); n != 1 {
					t.Errorf("around %v: %d, %d is in %d of them", middle, x, y, n)
				}
			}
		}
		if n := had(l, middle.X, middle.Y); n != 1 {
			t.Errorf("the middle %v is in %d of them", middle, n)
		}
	}
}

// R7: what is handed in is not changed, and what was told is not with what becomes of it.
func TestOwn(t *testing.T) {
	for _, x := range append(flat(), tri(0, 0, 16, 0, 0, 16), tri(0, 0, 0, 16, 16, 0)) {
		kept := x
		got, _ := edge.Turned(kept)
		was := got
		edge.Area(kept)
		edge.In(kept, 5, 5)
		edge.Cross(kept[0], kept[1], 5, 5)
		edge.First(kept[1], kept[2])
		if kept != x {
			t.Errorf("%v became %v", x, kept)
		}
		kept[1], kept[2] = at(70, 80), at(90, 60)
		if again, _ := edge.Turned(x); got != was || again != was {
			t.Errorf("Turned(%v) was %v, became %v, and is again %v", x, was, got, again)
		}
	}
}

// R1: numbers beyond those that are asked end too.
func TestNoPanic(t *testing.T) {
	edges := []int{math.MinInt, math.MinInt + 1, -1, 0, 1, math.MaxInt - 1, math.MaxInt}
	for _, a := range edges {
		for _, b := range edges {
			for _, c := range edges {
				x := tri(a, b, b, c, c, a)
				edge.Cross(x[0], x[1], c, a)
				edge.Area(x)
				edge.Turned(x)
				edge.First(x[0], x[1])
				edge.In(x, a, b)
			}
		}
	}
}
