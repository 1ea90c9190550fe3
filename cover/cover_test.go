package cover_test

import (
	"iter"
	"math"
	"math/rand"
	"slices"
	"testing"

	"glazier/api"
	"glazier/cover"
	"glazier/edge"
)

const (
	// pixels is up to which pixel, and asked up to which point, without their sign, the calls are asked.
	pixels = 1 << 10
	asked  = 1 << 20
)

type triangle = [3]api.Point

// spots are where the document says that the samples are, in their pixel.
var spots = [4][2]int{{2, 6}, {6, 14}, {10, 2}, {14, 10}}

// at is a point with a depth and attributes that hang on its place, so that they are told apart.
func at(x, y int) api.Point {
	return api.Point{X: x, Y: y, Z: 5*x - 7*y + 1, A: [4]int{x + 1, y + 2, x - y, x + y + 3}}
}

// tri is a triangle of its places.
func tri(ax, ay, bx, by, cx, cy int) triangle {
	return triangle{at(ax, ay), at(bx, by), at(cx, cy)}
}

// moved is a triangle so many pixels farther.
func moved(t triangle, x, y int) triangle {
	for i, p := range t {
		t[i] = at(p.X+16*x, p.Y+16*y)
	}
	return t
}

// told are the six ways to tell one triangle: three from each of its points on, and then three the other way about.
func told(t triangle) [6]triangle {
	a, b, c := t[0], t[1], t[2]
	return [6]triangle{{a, b, c}, {b, c, a}, {c, a, b}, {a, c, b}, {c, b, a}, {b, a, c}}
}

// wantMask is what P8.2 says, of samples written out here.
func wantMask(t triangle, x, y int) uint8 {
	m, worth := uint8(0), uint8(1)
	for _, s := range spots {
		if edge.In(t, 16*x+s[0], 16*y+s[1]) {
			m += worth
		}
		worth *= 2
	}
	return m
}

// wantBits are the numbers of a mask's bits 0 to 3.
func wantBits(m uint8) []int {
	var l []int
	for i, worth := range []uint8{1, 2, 4, 8} {
		if m/worth%2 == 1 {
			l = append(l, i)
		}
	}
	return l
}

// some is a number up to most without its sign, now and then the greatest, the least, or near 0.
func some(r *rand.Rand, most int) int {
	return []int{most, -most, r.Intn(3) - 1, r.Intn(2*most+1) - most, r.Intn(2*most+1) - most}[r.Intn(5)]
}

func anyOf(r *rand.Rand, most int) api.Point {
	return at(some(r, most), some(r, most))
}

// anySample is where a sample of any pixel is, up to most pixels without their sign.
func anySample(r *rand.Rand, most int) api.Point {
	s := spots[r.Intn(4)]
	return at(16*some(r, most)+s[0], 16*some(r, most)+s[1])
}

// held is the nearest pixel that is asked.
func held(n int) int {
	return min(max(n, -pixels), pixels)
}

// around are pixels by which figures of these points are held: those of the points, of what is between two of them, and of the middle, and those beside; none twice.
func around(l ...api.Point) [][2]int {
	var out [][2]int
	beside := func(x, y int) {
		for i := range 9 {
			p := [2]int{held(x/16 + i%3 - 1), held(y/16 + i/3 - 1)}
			if !slices.Contains(out, p) {
				out = append(out, p)
			}
		}
	}
	sumX, sumY := 0, 0
	for i, a := range l {
		sumX, sumY = sumX+a.X, sumY+a.Y
		beside(a.X, a.Y)
		for _, b := range l[:i] {
			beside((a.X+b.X)/2, (a.Y+b.Y)/2)
		}
	}
	beside(sumX/len(l), sumY/len(l))
	return out
}

// P8.1: each of the four, and what is none of them, as the last; of pixels below 0, and of the greatest that are asked.
func TestSample(t *testing.T) {
	numbers := []struct{ i, right, down int }{
		{0, 2, 6}, {1, 6, 14}, {2, 10, 2}, {3, 14, 10},
		{4, 14, 10}, {5, 14, 10}, {7, 14, 10}, {8, 14, 10}, {15, 14, 10}, {16, 14, 10}, {256, 14, 10}, {258, 14, 10}, {1 << 32, 14, 10}, {math.MaxInt, 14, 10},
		{-1, 14, 10}, {-2, 14, 10}, {-3, 14, 10}, {-4, 14, 10}, {-256, 14, 10}, {math.MinInt, 14, 10}, {math.MinInt + 1, 14, 10},
	}
	places := []struct{ pixel, from int }{
		{0, 0}, {1, 16}, {2, 32}, {3, 48}, {63, 1008}, {-1, -16}, {-2, -32}, {-64, -1024}, {1023, 16368}, {pixels, 16384}, {-pixels, -16384},
	}
	for _, n := range numbers {
		for _, x := range places {
			for _, y := range places {
				gotX, gotY := cover.Sample(x.pixel, y.pixel, n.i)
				if gotX != x.from+n.right || gotY != y.from+n.down {
					t.Errorf("Sample(%d, %d, %d) = %d, %d; want %d, %d", x.pixel, y.pixel, n.i, gotX, gotY, x.from+n.right, y.from+n.down)
				}
			}
		}
	}
}

// shapes are triangles whose mask of the pixel 0, 0 was found by hand: each of the sixteen, and samples on edges and at points.
func shapes() []struct {
	name string
	t    triangle
	want uint8
} {
	return []struct {
		name string
		t    triangle
		want uint8
	}{
		{"example", tri(0, 0, 16, 0, 0, 16), 5},
		{"the other half", tri(16, 0, 16, 16, 0, 16), 10},
		{"none: a corner", tri(0, 0, 7, 0, 0, 7), 0},
		{"none: the middle", tri(7, 6, 10, 8, 7, 10), 0},
		{"none: beside it", tri(17, 0, 33, 0, 17, 16), 0},
		{"none: thin, between all four", tri(8, -90, 9, -90, 8, 99), 0},
		{"all four: great", tri(-90, -90, 199, -90, -90, 199), 15},
		{"all four: close by", tri(-4, 1, 28, 1, 5, 26), 15},
		{"the first alone", tri(1, 5, 4, 5, 1, 8), 1},
		{"the second alone", tri(5, 13, 8, 13, 5, 16), 2},
		{"the third alone", tri(9, 1, 12, 1, 9, 4), 4},
		{"the last alone", tri(13, 9, 16, 9, 13, 12), 8},
		{"left half", tri(8, -90, 8, 99, -90, 8), 3},
		{"right half", tri(8, 99, 8, -90, 99, 8), 12},
		{"upper half", tri(-90, 8, 8, -90, 99, 8), 5},
		{"lower half", tri(99, 8, 8, 99, -90, 8), 10},
		{"thin, from the first to the last", tri(-4, 4, 20, 11, 20, 13), 9},
		{"thin, from the second to the third", tri(11, -2, 13, -2, 4, 19), 6},
		{"all but the first", tri(4, -2, 40, 16, 4, 34), 14},
		{"all but the second", tri(-30, 12, 10, -28, 50, 12), 13},
		{"all but the third", tri(-30, 4, 46, 4, 8, 90), 11},
		{"all but the last", tri(12, -30, 12, 46, -90, 8), 7},
		{"on the upper edge: had", tri(0, 6, 16, 6, 0, 22), 3},
		{"on the lower edge: not", tri(16, 6, 0, 6, 0, -10), 4},
		{"on the left edge: had", tri(2, 0, 18, 0, 2, 16), 5},
		{"on the right edge: not", tri(2, 16, -14, 0, 2, 0), 0},
		{"on an edge upwards to the right: had", tri(4, 18, 12, 2, 30, 18), 10},
		{"on that edge, downwards to the left: not", tri(12, 2, 4, 18, -20, 3), 1},
		{"on an edge downwards to the right: not", tri(-1, 3, 5, 9, -1, 9), 0},
		{"on that edge, upwards to the left: had", tri(5, 9, -1, 3, 5, 3), 1},
		{"three at its points: that from which on it goes both upwards and downwards is had", tri(2, 6, 10, 2, 14, 10), 1},
		{"three at its points: so here", tri(2, 6, 10, 2, 6, 14), 1},
		{"three at its points: both downwards, not", tri(2, 6, 14, 10, 6, 14), 0},
		{"three at its points: both upwards, not", tri(10, 2, 14, 10, 6, 14), 0},
	}
}

// P8.2: none, one, some and all of a pixel's samples, and those on edges, of pixels wherever they are; told the other way about, none.
func TestMask(t *testing.T) {
	var seen [16]bool
	for _, x := range shapes() {
		seen[x.want] = true
		for _, to := range [][2]int{{0, 0}, {1, 0}, {0, 1}, {-1, -1}, {5, -3}, {-7, 63}, {pixels, pixels}, {-pixels, -pixels}, {pixels, -pixels}} {
			for i, way := range told(moved(x.t, to[0], to[1])) {
				want := x.want
				if i >= 3 {
					want = 0
				}
				if got := cover.Mask(way, to[0], to[1]); got != want {
					t.Errorf("%s: Mask(%v, %d, %d) = %d; want %d", x.name, way, to[0], to[1], got, want)
				}
			}
		}
	}
	for m, ok := range seen {
		if !ok {
			t.Errorf("no shape has the mask %d", m)
		}
	}
}

// P8.2: the pixels that a triangle has whole, those that an edge goes through, and those beside.
func TestMaskOfPixelsBeside(t *testing.T) {
	for _, x := range []struct {
		name string
		t    triangle
		want [5][5]uint8 // of the pixels from -1, -1 on, row by row
	}{
		{"its edges along pixels", tri(0, 0, 48, 0, 0, 48), [5][5]uint8{
			{},
			{0, 15, 15, 5, 0},
			{0, 15, 5, 0, 0},
			{0, 5, 0, 0, 0},
			{},
		}},
		{"its edges through pixels", tri(-8, -8, 24, -8, -8, 24), [5][5]uint8{
			{8, 10, 0, 0, 0},
			{12, 5, 0, 0, 0},
			{4, 0, 0, 0, 0},
			{},
			{},
		}},
		{"within one pixel", tri(17, 17, 31, 17, 17, 31), [5][5]uint8{{}, {}, {0, 0, 5, 0, 0}, {}, {}}},
		{"its edges through samples", tri(2, 6, 34, 6, 2, 38), [5][5]uint8{
			{},
			{0, 11, 3, 0, 0},
			{0, 7, 0, 0, 0},
			{},
			{},
		}},
	} {
		for row, l := range x.want {
			for column, want := range l {
				for i, way := range told(x.t) {
					if i >= 3 {
						want = 0
					}
					if got := cover.Mask(way, column-1, row-1); got != want {
						t.Errorf("%s, told in the way %d: Mask at %d, %d = %d; want %d", x.name, i, column-1, row-1, got, want)
					}
				}
			}
		}
	}
}

// P8.2: each sample is asked for itself: a triangle that is just around one of a pixel has that bit there, and nothing anywhere else.
func TestMaskOfOneSample(t *testing.T) {
	for i, s := range spots {
		for _, to := range [][2]int{{0, 0}, {3, 2}, {-4, 1}, {-pixels, pixels}} {
			x, y := 16*to[0]+s[0], 16*to[1]+s[1]
			one := tri(x-1, y-1, x+2, y-1, x-1, y+2)
			for dy := -2; dy <= 2; dy++ {
				for dx := -2; dx <= 2; dx++ {
					want := uint8(0)
					if dx == 0 && dy == 0 {
						want = []uint8{1, 2, 4, 8}[i]
					}
					if got := cover.Mask(one, to[0]+dx, to[1]+dy); got != want {
						t.Errorf("around the sample %d of %v: Mask at %d, %d beside = %d; want %d", i, to, dx, dy, got, want)
					}
				}
			}
		}
	}
}

// P8.2: what edge.In says of each sample, of all kinds of triangles, up to points and pixels as great as are asked; whatever the depths and attributes are.
func TestMaskOfMany(t *testing.T) {
	r := rand.New(rand.NewSource(82))
	for _, most := range []int{24, 200, 16 * pixels, asked} {
		var seen [16]bool
		for range 1000 {
			x := triangle{anyOf(r, most), anyOf(r, most), anyOf(r, most)}
			bare := x
			for i, p := range x {
				bare[i] = api.Point{X: p.X, Y: p.Y}
			}
			for _, p := range around(x[:]...) {
				want := wantMask(x, p[0], p[1])
				seen[want] = true
				if got := cover.Mask(x, p[0], p[1]); got != want {
					t.Fatalf("Mask(%v, %d, %d) = %d; want %d", x, p[0], p[1], got, want)
				}
				if got := cover.Mask(bare, p[0], p[1]); got != want {
					t.Fatalf("without depths Mask(%v, %d, %d) = %d; want %d", bare, p[0], p[1], got, want)
				}
			}
		}
		if !seen[0] || !seen[3] || !seen[10] || !seen[15] {
			t.Errorf("up to %d too few masks were seen: %v", most, seen)
		}
	}
}

// P8.2: a triangle whose Area is 0, or below, has no sample: neither those that lie on it nor those beside.
func TestMaskOfNone(t *testing.T) {
	wrong := []triangle{
		{}, tri(2, 6, 2, 6, 2, 6), tri(2, 6, 2, 6, 14, 10), tri(14, 10, 2, 6, 2, 6), tri(2, 6, 14, 10, 2, 6),
		tri(2, 6, 14, 10, 26, 14), tri(-90, 6, 0, 6, 99, 6), tri(10, -90, 10, 0, 10, 99), tri(99, 99, 0, 0, -90, -90),
		tri(-asked, -asked, 0, 0, asked, asked), tri(asked, 6, 0, 6, -asked, 6),
		tri(0, 0, 0, 16, 16, 0), tri(-90, -90, -90, 99, 99, -90), tri(1, 5, 1, 8, 4, 5),
		tri(-asked, -asked, 0, asked, asked, -asked), tri(asked, asked, asked, -asked, -asked, asked),
	}
	for _, x := range wrong {
		if a := edge.Area(x); a > 0 {
			t.Fatalf("Area(%v) = %d, which is not wrong", x, a)
		}
		for y := -7; y <= 7; y++ {
			for right := -7; right <= 7; right++ {
				if got := cover.Mask(x, right, y); got != 0 {
					t.Errorf("Mask(%v, %d, %d) = %d", x, right, y, got)
				}
			}
		}
	}
}

// P8.2: a triangle as great as is asked has all samples of each pixel that is.
func TestMaskOfGreat(t *testing.T) {
	whole := tri(-asked, -asked, asked, -asked, -asked/8, asked)
	edges := []int{-pixels, -pixels + 1, -1, 0, 1, pixels - 1, pixels}
	for _, y := range edges {
		for _, x := range edges {
			if got := cover.Mask(whole, x, y); got != 15 {
				t.Errorf("Mask at %d, %d = %d; want 15", x, y, got)
			}
		}
	}
	// Its slope goes through the pixels whose y is x, and through none of their samples.
	half := tri(-asked, -asked, asked, asked, -asked, asked)
	for _, y := range edges {
		for _, x := range edges {
			want := uint8(0)
			switch {
			case y == x:
				want = 3
			case y > x:
				want = 15
			}
			if got := cover.Mask(half, x, y); got != want {
				t.Errorf("under the slope Mask at %d, %d = %d; want %d", x, y, got, want)
			}
		}
	}
}

// P8.2: of each mask how many of its four bits are 1; the bits above are not counted.
func TestCount(t *testing.T) {
	for m, want := range []int{0, 1, 1, 2, 1, 2, 2, 3, 1, 2, 2, 3, 2, 3, 3, 4} {
		for above := range 16 {
			if got := cover.Count(uint8(16*above + m)); got != want {
				t.Errorf("Count(%d) = %d; want %d", 16*above+m, got, want)
			}
		}
	}
}

// P8.2: of each mask the numbers of its four bits, rising; the bits above are not gone through; it is never nil.
func TestBits(t *testing.T) {
	for m, want := range [][]int{
		nil, {0}, {1}, {0, 1}, {2}, {0, 2}, {1, 2}, {0, 1, 2},
		{3}, {0, 3}, {1, 3}, {0, 1, 3}, {2, 3}, {0, 2, 3}, {1, 2, 3}, {0, 1, 2, 3},
	} {
		for above := range 16 {
			bits := cover.Bits(uint8(16*above + m))
			if bits == nil {
				t.Fatalf("Bits(%d) is nil", 16*above+m)
			}
			for range 3 {
				if got := slices.Collect(bits); !slices.Equal(got, want) {
					t.Errorf("Bits(%d) went through %v; want %v", 16*above+m, got, want)
				}
			}
		}
	}
}

// upTo is what is gone through if it is left at its number place.
func upTo(bits iter.Seq[int], place int) []int {
	var l []int
	for i := range bits {
		l = append(l, i)
		if len(l) > place {
			break
		}
	}
	return l
}

// P8.2: left early at each place, and gone over again behind that, from the first on.
func TestBitsLeftEarly(t *testing.T) {
	for m := range 256 {
		bits, want := cover.Bits(uint8(m)), wantBits(uint8(m))
		for place := range want {
			if got := upTo(bits, place); !slices.Equal(got, want[:place+1]) {
				t.Errorf("Bits(%d), left at %d, went through %v; want %v", m, place, got, want[:place+1])
			}
			if got := slices.Collect(bits); !slices.Equal(got, want) {
				t.Errorf("Bits(%d), left at %d, went again through %v; want %v", m, place, got, want)
			}
		}
	}
}

// P8.2: a function that said that it leaves is not called again.
func TestBitsStop(t *testing.T) {
	for m := range 256 {
		want := wantBits(uint8(m))
		for place := range want {
			calls := 0
			cover.Bits(uint8(m))(func(int) bool {
				calls++
				return calls <= place
			})
			if calls != place+1 {
				t.Errorf("Bits(%d), left at %d, called %d times", m, place, calls)
			}
		}
	}
}

// P8.2: one range within another, of the same and of others: neither moves the other on, also where the inner one is left early.
func TestBitsWithinBits(t *testing.T) {
	for m := range 32 {
		outer, want := cover.Bits(uint8(m)), wantBits(uint8(m))
		for n := range 32 {
			inner, wantInner := cover.Bits(uint8(n)), wantBits(uint8(n))
			if n == m {
				inner = outer
			}
			var got []int
			for i := range outer {
				if got = append(got, i); len(got) > 4 {
					t.Fatalf("Bits(%d) around Bits(%d) goes on: %v", m, n, got)
				}
				if all := slices.Collect(inner); !slices.Equal(all, wantInner) {
					t.Fatalf("Bits(%d) within Bits(%d) at %d went through %v; want %v", n, m, i, all, wantInner)
				}
				if one := upTo(inner, 0); !slices.Equal(one, wantInner[:min(1, len(wantInner))]) {
					t.Fatalf("Bits(%d) within Bits(%d) at %d, left early, went through %v", n, m, i, one)
				}
			}
			if !slices.Equal(got, want) {
				t.Fatalf("Bits(%d) around Bits(%d) went through %v; want %v", m, n, got, want)
			}
		}
	}
}

// turned is a triangle of three points whose Area is above 0.
func turned(t *testing.T, a, b, c api.Point) triangle {
	t.Helper()
	x, ok := edge.Turned(triangle{a, b, c})
	if !ok {
		t.Fatalf("Turned(%v, %v, %v) is none", a, b, c)
	}
	return x
}

// side is on which side of the line from a to b a place is: above 0, where triangles that tell it so are.
func side(a, b api.Point, x, y int) int {
	return (b.X-a.X)*(y-a.Y) - (b.Y-a.Y)*(x-a.X)
}

// beside is a point on that side of an edge where triangles that tell it so are.
func beside(r *rand.Rand, a, b api.Point) api.Point {
	for {
		if p := anyOf(r, asked); side(a, b, p.X, p.Y) > 0 {
			return p
		}
	}
}

// together is the mask of all of some triangles, and false if two of them have a sample in common.
func together(l []triangle, x, y int) (uint8, bool) {
	m, ok := uint8(0), true
	for _, one := range l {
		had := cover.Mask(one, x, y)
		ok = ok && m&had == 0
		m |= had
	}
	return m, ok
}

// between is the mask of those samples that are strictly inside of a figure without a bay, and of those that are not outside.
func between(l []api.Point, x, y int) (inside, notOutside uint8) {
	worth := uint8(1)
	for _, s := range spots {
		in, out := true, false
		for i, a := range l {
			c := side(a, l[(i+1)%len(l)], 16*x+s[0], 16*y+s[1])
			in, out = in && c > 0, out || c < 0
		}
		if in {
			inside += worth
		}
		if !out {
			notOutside += worth
		}
		worth *= 2
	}
	return inside, notOutside
}

// P8.3: each sample that lies on an edge, between its ends, is had by just one of two triangles on both sides of it, whichever way the edge goes and wherever their third points are; and none by both.
func TestOnTheEdgeOfTwo(t *testing.T) {
	const steps = 6
	r := rand.New(rand.NewSource(83))
	for i, s := range spots {
		for dy := -3; dy <= 3; dy++ {
			for dx := -3; dx <= 3; dx++ {
				if dx == 0 && dy == 0 {
					continue
				}
				x, y := some(r, pixels-3*steps), some(r, pixels-3*steps)
				from := at(16*x+s[0], 16*y+s[1])
				to := at(from.X+16*steps*dx, from.Y+16*steps*dy)
				for range 10 {
					both := []triangle{turned(t, from, to, beside(r, from, to)), turned(t, to, from, beside(r, to, from))}
					for step := range steps + 1 {
						px, py := x+step*dx, y+step*dy
						m, ok := together(both, px, py)
						if !ok {
							t.Fatalf("%v have a sample of %d, %d in common", both, px, py)
						}
						if step > 0 && step < steps && !slices.Contains(wantBits(m), i) {
							t.Fatalf("%v: none has the sample %d of %d, %d, on their edge", both, i, px, py)
						}
					}
				}
			}
		}
	}
}

// onEdge is the mask of those samples that lie on the edge from a to b, between its ends.
func onEdge(a, b api.Point, x, y int) uint8 {
	m, worth := uint8(0), uint8(1)
	for _, s := range spots {
		px, py := 16*x+s[0], 16*y+s[1]
		// How far along the edge it is, of how much.
		along := (px-a.X)*(b.X-a.X) + (py-a.Y)*(b.Y-a.Y)
		whole := (b.X-a.X)*(b.X-a.X) + (b.Y-a.Y)*(b.Y-a.Y)
		if side(a, b, px, py) == 0 && along > 0 && along < whole {
			m += worth
		}
		worth *= 2
	}
	return m
}

// P8.3: two triangles with any edge in common have no sample in common, have all that are inside of one of them or on that edge, and none that is outside of both.
func TestTwoBesideEachOther(t *testing.T) {
	r := rand.New(rand.NewSource(84))
	on := 0
	for _, far := range []int{2, 20, pixels - 1} {
		for range 500 {
			a, b := anySample(r, far), anySample(r, far)
			if r.Intn(2) == 0 {
				b = anyOf(r, 16*far)
			}
			if a.X == b.X && a.Y == b.Y {
				continue
			}
			c, d := beside(r, a, b), beside(r, b, a)
			both := []triangle{turned(t, a, b, c), turned(t, b, a, d)}
			for _, p := range around(a, b, c, d) {
				got, ok := together(both, p[0], p[1])
				in1, not1 := between([]api.Point{a, b, c}, p[0], p[1])
				in2, not2 := between([]api.Point{b, a, d}, p[0], p[1])
				shared := onEdge(a, b, p[0], p[1])
				least, most := in1|in2|shared, not1|not2
				if !ok || got&least != least || got&^most != 0 {
					t.Fatalf("%v: at %v they have %d, apart: %v; want at least %d, at most %d", both, p, got, ok, least, most)
				}
				on += len(wantBits(shared))
			}
		}
	}
	if on < 100 {
		t.Errorf("only %d samples lay on an edge", on)
	}
}

// figures are four-sided ones without a corner that goes inwards, their points one behind the other: with sides along pixels and not, through samples, and as great as is asked.
func figures() [][4]api.Point {
	return [][4]api.Point{
		{at(0, 0), at(48, 0), at(48, 48), at(0, 48)},
		{at(2, 6), at(34, 6), at(34, 38), at(2, 38)},
		{at(0, -45), at(45, 0), at(0, 45), at(-45, 0)},
		{at(10, -30), at(42, 2), at(10, 34), at(-22, 2)},
		{at(-40, -61), at(50, -33), at(63, 55), at(-77, 21)},
		{at(-30, -26), at(66, -6), at(54, 74), at(-42, 54)},
		{at(2, 6), at(10, 2), at(14, 10), at(6, 14)},
		{at(-asked, -asked), at(asked, -asked), at(asked, asked), at(-asked, asked)},
		{at(-asked, 6), at(2, -asked), at(asked, 6), at(2, asked)},
		{at(-asked, -3), at(14, -90), at(asked, 4), at(14, 90)},
		{at(16*pixels-30, 16*pixels-20), at(16*pixels+9, 16*pixels-25), at(16*pixels+30, 16*pixels+20), at(16*pixels-9, 16*pixels+25)},
	}
}

// P8.3: such a figure has, cut in two either way, the same samples, none of them twice; and those between its sides.
func TestFourSided(t *testing.T) {
	for _, l := range figures() {
		one := []triangle{turned(t, l[0], l[1], l[2]), turned(t, l[2], l[3], l[0])}
		other := []triangle{turned(t, l[1], l[2], l[3]), turned(t, l[3], l[0], l[1])}
		near := around(l[:]...)
		for y := -6; y <= 6; y++ {
			for x := -6; x <= 6; x++ {
				near = append(near, [2]int{x, y})
			}
		}
		for _, p := range near {
			m, ok := together(one, p[0], p[1])
			n, okToo := together(other, p[0], p[1])
			least, most := between(l[:], p[0], p[1])
			if !ok || !okToo || m != n || m&least != least || m&^most != 0 {
				t.Errorf("%v: at %v it has %d, cut the other way %d; want at least %d, at most %d", l, p, m, n, least, most)
			}
		}
	}
}

// P8.3: a triangle cut in three at a place inside of it has the samples of these three, none of them twice; so it has at a place on an edge, or at a point, where one of the three, or two, have no Area and no sample.
func TestCutInThree(t *testing.T) {
	r := rand.New(rand.NewSource(85))
	for _, most := range []int{3, 40, pixels} {
		for range 300 {
			x, ok := edge.Turned(triangle{anySample(r, most), anyOf(r, 16*most), anyOf(r, min(1000*most, asked))})
			if !ok {
				continue
			}
			for _, cut := range places(r, x) {
				three := []triangle{{x[0], x[1], cut}, {x[1], x[2], cut}, {x[2], x[0], cut}}
				for _, p := range around(x[0], x[1], x[2], cut) {
					whole := cover.Mask(x, p[0], p[1])
					if m, ok := together(three, p[0], p[1]); !ok || m != whole {
						t.Fatalf("%v, cut at %v: at %v its parts have %d, apart: %v; want %d", x, cut, p, m, ok, whole)
					}
				}
			}
		}
	}
}

// places are some in a triangle whose Area is above 0: its points, what is between two of them if it is a whole place, samples, and its middle.
func places(r *rand.Rand, x triangle) []api.Point {
	middle := at((x[0].X+x[1].X+x[2].X)/3, (x[0].Y+x[1].Y+x[2].Y)/3)
	maybe := []api.Point{x[0], x[1], x[2], middle}
	for i, a := range x {
		b := x[(i+1)%3]
		maybe = append(maybe, at((a.X+b.X)/2, (a.Y+b.Y)/2), at((a.X+middle.X)/2, (a.Y+middle.Y)/2))
	}
	for range 3 {
		s := spots[r.Intn(4)]
		maybe = append(maybe, at(middle.X/16*16+s[0], middle.Y/16*16+s[1]))
	}
	return slices.DeleteFunc(maybe, func(p api.Point) bool {
		return side(x[0], x[1], p.X, p.Y) < 0 || side(x[1], x[2], p.X, p.Y) < 0 || side(x[2], x[0], p.X, p.Y) < 0
	})
}

// P8.3: a triangle cut at a place on each of its edges, where samples lie too, by hand.
func TestCutOnAnEdge(t *testing.T) {
	whole := tri(2, 6, 66, 6, 2, 70)
	for _, on := range []api.Point{at(34, 6), at(18, 6), at(3, 6), at(34, 38), at(40, 32), at(2, 38), at(2, 22), at(2, 69)} {
		three := []triangle{{whole[0], whole[1], on}, {whole[1], whole[2], on}, {whole[2], whole[0], on}}
		flat := 0
		for _, one := range three {
			if edge.Area(one) == 0 {
				flat++
			}
		}
		if flat != 1 {
			t.Fatalf("%v is not on one edge of %v", on, whole)
		}
		for y := -1; y <= 5; y++ {
			for x := -1; x <= 5; x++ {
				want := cover.Mask(whole, x, y)
				if m, ok := together(three, x, y); !ok || m != want {
					t.Errorf("cut at %v: at %d, %d its parts have %d, apart: %v; want %d", on, x, y, m, ok, want)
				}
			}
		}
	}
}

// P8.3: a net of triangles, whose points are moved from where they were, some onto samples, has each sample between its outer sides just once.
func TestNet(t *testing.T) {
	const points, step = 9, 40
	r := rand.New(rand.NewSource(86))
	for range 20 {
		var net [points][points]api.Point
		for i := range points {
			for j := range points {
				x, y := step*i+r.Intn(13)-6, step*j+r.Intn(13)-6
				if s := spots[r.Intn(4)]; r.Intn(2) == 0 {
					x, y = (step*i+6-s[0])/16*16+s[0], (step*j+6-s[1])/16*16+s[1]
				}
				net[i][j] = at(x, y)
			}
		}
		var l []triangle
		for i := range points - 1 {
			for j := range points - 1 {
				a, b, c, d := net[i][j], net[i+1][j], net[i+1][j+1], net[i][j+1]
				if r.Intn(2) == 0 {
					a, b, c, d = b, c, d, a
				}
				l = append(l, turned(t, a, b, c), turned(t, c, d, a))
			}
		}
		for y := 1; y < (points-1)*step/16-1; y++ {
			for x := 1; x < (points-1)*step/16-1; x++ {
				if m, ok := together(l, x, y); !ok || m != 15 {
					t.Fatalf("the net has %d at %d, %d, apart: %v", m, x, y, ok)
				}
			}
		}
	}
}

// R7, R6: what is handed in is not changed; and asked again, it is the same.
func TestOwn(t *testing.T) {
	for _, x := range shapes() {
		kept := x.t
		first := cover.Mask(kept, 0, 0)
		cover.Mask(kept, 1, -1)
		if kept != x.t {
			t.Errorf("%s: %v became %v", x.name, x.t, kept)
		}
		if again := cover.Mask(kept, 0, 0); again != first {
			t.Errorf("%s: first %d, then %d", x.name, first, again)
		}
	}
	m := uint8(9)
	bits := cover.Bits(m)
	m = 6
	if got := slices.Collect(bits); !slices.Equal(got, []int{0, 3}) || m != 6 {
		t.Errorf("Bits(9) went through %v", got)
	}
}

// R1, R4: numbers beyond those that are asked end too, and no bit above the fourth is told.
func TestNoPanic(t *testing.T) {
	edges := []int{math.MinInt, math.MinInt + 1, -1, 0, 1, math.MaxInt - 1, math.MaxInt}
	for _, a := range edges {
		for _, b := range edges {
			for _, c := range edges {
				cover.Sample(a, b, c)
				if m := cover.Mask(tri(a, b, b, c, c, a), a, c); m > 15 {
					t.Errorf("Mask of %d, %d, %d = %d", a, b, c, m)
				}
			}
		}
	}
}
