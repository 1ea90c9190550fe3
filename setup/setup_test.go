package setup_test

import (
	"iter"
	"math"
	"math/rand"
	"slices"
	"testing"

	"glazier/api"
	"glazier/clip"
	"glazier/cover"
	"glazier/edge"
	"glazier/setup"
	"glazier/vec"
	"glazier/view"
)

// asked is up to which point, without its sign, the calls are asked.
const asked = 1 << 20

type (
	vertices = [3]api.Vec
	triangle = [3]api.Point
	pixel    = [2]int
)

// vert is a vertex of its eight numbers, flat one whose W is w, and whose Z is 0.
func vert(n ...int) api.Vec {
	var l [8]int
	copy(l[:], n)
	return api.Vec{X: l[0], Y: l[1], Z: l[2], W: l[3], A: [4]int{l[4], l[5], l[6], l[7]}}
}

func flat(w, ax, ay, bx, by, cx, cy int) vertices {
	return vertices{vert(ax, ay, 0, w), vert(bx, by, 0, w), vert(cx, cy, 0, w)}
}

// spot is where a vertex of Z 0 is, part a triangle of such.
func spot(x, y int) api.Point {
	return api.Point{X: x, Y: y, Z: 32768}
}

func part(n, ax, ay, bx, by, cx, cy int) api.Part {
	return api.Part{N: n, T: triangle{spot(ax, ay), spot(bx, by), spot(cx, cy)}}
}

// tri is a triangle of its places, with depths and attributes that are all unlike.
func tri(ax, ay, bx, by, cx, cy int) triangle {
	at := func(x, y, i int) api.Point {
		return api.Point{X: x, Y: y, Z: -999 * i, A: [4]int{i, -i, 9999 * i, i + 1}}
	}
	return triangle{at(ax, ay, 1), at(bx, by, 2), at(cx, cy, 3)}
}

// told are the six ways to tell three: first from each of them on, then the other way about.
func told[T any](l [3]T) [6][3]T {
	a, b, c := l[0], l[1], l[2]
	return [6][3]T{{a, b, c}, {b, c, a}, {c, a, b}, {a, c, b}, {c, b, a}, {b, a, c}}
}

// wantParts is what P10.1 says of the points, one by one, with areas reckoned here.
func wantParts(w, h int, v vertices) []api.Part {
	var l []api.Point
	for _, x := range clip.Poly([]api.Vec{v[0], v[1], v[2]}) {
		p, ok := view.Point(w, h, x)
		if !ok {
			return nil
		}
		l = append(l, p)
	}
	var made []api.Part
	for n := range max(len(l)-2, 0) {
		a, b, c := l[0], l[n+1], l[n+2]
		area := a.X*b.Y - a.Y*b.X + b.X*c.Y - b.Y*c.X + c.X*a.Y - c.Y*a.X
		if area > 0 {
			made = append(made, api.Part{N: n, T: triangle{a, b, c}})
		}
		if area < 0 {
			made = append(made, api.Part{N: n, T: triangle{a, c, b}})
		}
	}
	return made
}

// some is a number up to most without its sign, now and then the greatest, the least, or near 0.
func some(r *rand.Rand, most int) int {
	return []int{most, -most, r.Intn(3) - 1, r.Intn(2*most+1) - most, r.Intn(2*most+1) - most}[r.Intn(5)]
}

// near is a vertex that may be, which some planes leave and others do not.
func near(r *rand.Rand, most int) api.Vec {
	w := 1 + r.Intn(most)
	within := func(n int) int { return some(r, min(n, api.MaxCoord)) }
	v := api.Vec{X: within(8 * w), Y: within(8 * w), Z: within(2 * w), W: w}
	for i := range v.A {
		v.A[i] = some(r, api.MaxAttr)
	}
	return v
}

// anyRight is a vertex that may be, wherever.
func anyRight(r *rand.Rand) api.Vec {
	v := api.Vec{X: some(r, api.MaxCoord), Y: some(r, api.MaxCoord), Z: some(r, api.MaxCoord), W: max(1, some(r, api.MaxCoord))}
	for i := range v.A {
		v.A[i] = some(r, api.MaxAttr)
	}
	return v
}

// anySide is a side of a screen, now and then the least or the greatest.
func anySide(r *rand.Rand) int {
	return []int{1, api.MaxSide, 1 + r.Intn(api.MaxSide), 1 + r.Intn(8)}[r.Intn(4)]
}

type row struct {
	name string
	w, h int
	v    vertices
	want []api.Part
}

func checkParts(t *testing.T, rows []row) {
	t.Helper()
	for _, x := range rows {
		if got := setup.Parts(x.w, x.h, x.v); !slices.Equal(got, x.want) {
			t.Errorf("%s: Parts(%d, %d, %v) = %v; want %v", x.name, x.w, x.h, x.v, got, x.want)
		}
	}
}

// P10.1: one that is inside of all planes is one part, from its first point on, and turned if it is told the other way about.
func TestPartsInside(t *testing.T) {
	v := vertices{vert(-1, -1, 0, 1, 1, 2, 3, 4), vert(1, -1, 1, 1, 5, 6, 7, 8), vert(-1, 2, -1, 2, -1, -2, -3, -4)}
	a := api.Point{Z: 32768, A: [4]int{1, 2, 3, 4}}
	b := api.Point{X: 32, Z: 65536, A: [4]int{5, 6, 7, 8}}
	c := api.Point{X: 8, Y: 64, Z: 16384, A: [4]int{-1, -2, -3, -4}}
	wants := [6]triangle{{a, b, c}, {b, c, a}, {c, a, b}, {a, b, c}, {c, a, b}, {b, c, a}}
	for i, way := range told(v) {
		checkParts(t, []row{{"told in one of six ways", 2, 4, way, []api.Part{{N: 0, T: wants[i]}}}})
	}
	const c15 = api.MaxCoord
	checkParts(t, []row{
		{"on all planes but the nearest", 1, 1, flat(1, -4, -4, 4, -4, -4, 4), []api.Part{part(0, -24, -24, 40, -24, -24, 40)}},
		{"as great as may be", 64, 64, flat(c15, -c15, -c15, c15, -c15, -c15, c15), []api.Part{part(0, 0, 0, 1024, 0, 0, 1024)}},
	})
}

// P10.1: screens with a side of 1 and of 64, and of unlike sides: to the right it hangs on the first side, downwards on the other.
func TestPartsOfScreens(t *testing.T) {
	v := flat(2, -2, -2, 2, -2, -1, 1)
	checkParts(t, []row{
		{"1, 1", 1, 1, v, []api.Part{part(0, 0, 0, 16, 0, 4, 12)}},
		{"64, 64", 64, 64, v, []api.Part{part(0, 0, 0, 1024, 0, 256, 768)}},
		{"1, 64", 1, 64, v, []api.Part{part(0, 0, 0, 16, 0, 4, 768)}},
		{"64, 1", 64, 1, v, []api.Part{part(0, 0, 0, 1024, 0, 256, 12)}},
		{"3, 5", 3, 5, v, []api.Part{part(0, 0, 0, 48, 0, 12, 60)}},
		{"5, 3", 5, 3, v, []api.Part{part(0, 0, 0, 80, 0, 20, 36)}},
	})
}

// P10.1: of one that is outside of a plane nothing is left, however it is told.
func TestPartsOutside(t *testing.T) {
	for _, v := range []vertices{
		{vert(0, 0, -2, 1), vert(1, 0, -3, 1), vert(0, 1, -2, 1)},
		flat(1, -5, 0, -6, 0, -5, 1), flat(1, 5, 0, 6, 0, 5, 1),
		flat(1, 0, -5, 1, -5, 0, -6), flat(1, 0, 5, 1, 5, 0, 6),
		flat(1, 3, 9, 9, 3, 9, 9),
		flat(1, api.MaxCoord, api.MaxCoord, api.MaxCoord-1, api.MaxCoord, api.MaxCoord, api.MaxCoord-1),
	} {
		for _, way := range told(v) {
			for _, side := range []int{1, 2, 64} {
				checkParts(t, []row{{"outside", side, side, way, nil}})
			}
		}
	}
}

// P10.1: cut by each plane: two parts where one vertex is outside, one where two are.
func TestPartsCutByOne(t *testing.T) {
	checkParts(t, []row{
		{"plane 1", 1, 1, flat(1, 0, 0, -8, 0, 0, 4), []api.Part{part(0, 8, 8, -24, 24, -24, 8), part(1, 8, 8, 8, 40, -24, 24)}},
		{"plane 2", 1, 1, flat(1, 0, 0, 8, 0, 0, 4), []api.Part{part(0, 8, 8, 40, 8, 40, 24), part(1, 8, 8, 40, 24, 8, 40)}},
		{"plane 3", 1, 1, flat(1, 0, 0, 0, -8, 4, 0), []api.Part{part(0, 8, 8, 8, -24, 24, -24), part(1, 8, 8, 24, -24, 40, 8)}},
		{"plane 4", 1, 1, flat(1, 0, 0, 0, 8, 4, 0), []api.Part{part(0, 8, 8, 24, 40, 8, 40), part(1, 8, 8, 40, 8, 24, 40)}},
		{"plane 2, two outside", 1, 2, flat(1, 0, 0, 8, -4, 8, 4), []api.Part{part(0, 8, 16, 40, -16, 40, 48)}},
		{"plane 2, two outside, the first of them first", 1, 2, flat(1, 8, -4, 8, 4, 0, 0), []api.Part{part(0, 40, 48, 8, 16, 40, -16)}},
	})
	// Plane 0: depths and attributes are those of the vertices on it.
	v := vertices{vert(0, 0, 0, 2), vert(6, 0, -6, 2, 9), vert(0, 6, 0, 2, 0, 0, 0, -9)}
	a, ab := spot(8, 16), api.Point{X: 16, Y: 16, A: [4]int{3}}
	bc, c := api.Point{X: 16, Y: 48, A: [4]int{3, 0, 0, -6}}, api.Point{X: 8, Y: 64, Z: 32768, A: [4]int{0, 0, 0, -9}}
	checkParts(t, []row{
		{"plane 0", 1, 2, v, []api.Part{{N: 0, T: triangle{a, ab, bc}}, {N: 1, T: triangle{a, bc, c}}}},
		{"plane 0, the other way about", 1, 2, vertices{v[0], v[2], v[1]}, []api.Part{{N: 0, T: triangle{a, bc, c}}, {N: 1, T: triangle{a, ab, bc}}}},
		{"plane 0, from the third on", 1, 2, vertices{v[2], v[0], v[1]}, []api.Part{{N: 0, T: triangle{c, a, ab}}, {N: 1, T: triangle{c, ab, bc}}}},
	})
}

// P10.1: cut by two planes, by three, and by four.
func TestPartsCutByMore(t *testing.T) {
	checkParts(t, []row{
		{"planes 2 and 4", 1, 1, flat(1, 0, 0, 16, 0, 0, 16), []api.Part{part(0, 8, 8, 40, 8, 40, 40), part(1, 8, 8, 40, 40, 8, 40)}},
		{"planes 2 and 4, the other way about", 1, 1, flat(1, 0, 0, 0, 16, 16, 0), []api.Part{part(0, 8, 8, 40, 40, 8, 40), part(1, 8, 8, 40, 8, 40, 40)}},
		{"planes 1 and 2", 1, 1, flat(1, 0, 0, 8, 4, -8, 4), []api.Part{part(0, 8, 8, 40, 24, 40, 40), part(1, 8, 8, 40, 40, -24, 40), part(2, 8, 8, -24, 40, -24, 24)}},
		{"planes 1 to 3", 1, 1, flat(1, -12, -8, 12, -8, 0, 4), []api.Part{part(0, 40, -24, 40, 8, 8, 40), part(1, 40, -24, 8, 40, -24, 8), part(2, 40, -24, -24, 8, -24, -24)}},
		{"planes 1 to 4", 64, 1, flat(1, -64, -64, 192, -64, -64, 192), []api.Part{part(0, 2560, -24, 2560, 40, -1536, 40), part(1, 2560, -24, -1536, 40, -1536, -24)}},
	})
}

// P10.1: N counts those that are none too: where the first is left out, one in the middle, the last, and where nothing else is left.
func TestPartsLeftOut(t *testing.T) {
	checkParts(t, []row{
		// A vertex on the plane beside one outside is told twice.
		{"the first", 1, 1, flat(1, 4, 0, 8, 4, 0, 4), []api.Part{part(1, 40, 8, 40, 40, 8, 40)}},
		{"the last", 1, 1, flat(1, 8, 4, 0, 4, 4, 0), []api.Part{part(0, 40, 40, 8, 40, 40, 8)}},
		{"all", 1, 1, flat(1, 4, 0, 8, 4, 8, -4), nil},
		// Two vertices on the plane 4 are in one part.
		{"the middle one", 1, 1, flat(100, -800, 0, 300, 0, 6, 401), []api.Part{part(0, -24, 8, 32, 8, 8, 40), part(2, -24, 8, 8, 40, -24, 23)}},
		{"the first of three", 1, 1, flat(100, 300, 0, 6, 401, -800, 0), []api.Part{part(1, 32, 8, 8, 40, -24, 23), part(2, 32, 8, -24, 23, -24, 8)}},
		{"the last of three", 1, 1, flat(100, 6, 401, -800, 0, 300, 0), []api.Part{part(0, 8, 40, -24, 23, -24, 8), part(1, 8, 40, -24, 8, 32, 8)}},
	})
}

// P10.1: one whose points are on one line on the screen has no part: inside, cut into several, of unlike W, and by rounding alone.
func TestPartsOnOneLine(t *testing.T) {
	for _, x := range []struct {
		name string
		v    vertices
	}{
		{"one point", flat(1, 1, 1, 1, 1, 1, 1)},
		{"two points", flat(1, 0, 0, 1, 1, 1, 1)},
		{"level", flat(1, -1, 0, 0, 0, 1, 0)},
		{"upright", flat(1, 0, -1, 0, 1, 0, 0)},
		{"aslant", flat(2, -2, -2, 0, 0, 2, 2)},
		{"of unlike W", vertices{vert(0, 0, 0, 1), vert(1, 1, 0, 1), vert(4, 4, 0, 8)}},
		{"of unlike depth", vertices{vert(-1, 0, 0, 1), vert(0, 0, 1, 1), vert(1, 0, -1, 1)}},
		{"cut by one plane", flat(1, 0, 0, 8, 0, 0, 0)},
		{"cut by two planes", flat(1, -16, -16, 16, 16, 0, 0)},
		{"level, cut by two planes", flat(1, -16, 1, 16, 1, 2, 1)},
		{"upright, cut by two planes", flat(1, 1, -16, 1, 16, 1, 2)},
		{"within one part", flat(api.MaxCoord, 1, 1, 9, 1, 1, 9)},
	} {
		for _, way := range told(x.v) {
			for _, side := range [][2]int{{1, 1}, {2, 5}, {64, 64}, {64, 1}, {1, 64}} {
				checkParts(t, []row{{x.name, side[0], side[1], way, nil}})
			}
		}
	}
	// What is in one line on a small screen is not in a greater one.
	thin := flat(100, 0, 0, 100, 0, 50, 5)
	checkParts(t, []row{
		{"thin, of 1", 1, 1, thin, nil},
		{"thin, of 64", 64, 64, thin, []api.Part{part(0, 512, 512, 1024, 512, 768, 537)}},
	})
}

// P10.1: of many triangles that may be, and all sides, what the document's words say; of each how many parts, and whether some were left out, is seen.
func TestPartsOfMany(t *testing.T) {
	r := rand.New(rand.NewSource(101))
	for _, most := range []int{1, 4, 100, api.MaxCoord} {
		counts, gaps := map[int]int{}, 0
		for range 20000 {
			w, h := anySide(r), anySide(r)
			v := vertices{near(r, most), near(r, most), near(r, most)}
			if r.Intn(4) == 0 {
				v[r.Intn(3)] = anyRight(r)
			}
			if !vec.Right(v[0]) || !vec.Right(v[1]) || !vec.Right(v[2]) {
				t.Fatalf("%v may not be", v)
			}
			got, want := setup.Parts(w, h, v), wantParts(w, h, v)
			if !slices.Equal(got, want) {
				t.Fatalf("Parts(%d, %d, %v) = %v; want %v", w, h, v, got, want)
			}
			counts[len(got)]++
			for i, p := range got {
				if edge.Area(p.T) <= 0 {
					t.Fatalf("Parts(%d, %d, %v): the Area of %v is %d", w, h, v, p, edge.Area(p.T))
				}
				if p.N != i {
					gaps++
				}
			}
		}
		for n := range 5 {
			if counts[n] < 20 {
				t.Errorf("W up to %d: of %d parts only %d: %v", most, n, counts[n], counts)
			}
		}
		if gaps < 20 {
			t.Errorf("W up to %d: only %d parts behind one that was left out", most, gaps)
		}
	}
}

// P10.1: told the other way about, a triangle that is inside is the same, but for its first point.
func TestPartsToldBothWays(t *testing.T) {
	r := rand.New(rand.NewSource(102))
	seen := 0
	for range 2000 {
		var v vertices
		for i := range v {
			w := 1 + r.Intn(1000)
			v[i] = vert(some(r, 4*w), some(r, 4*w), some(r, w), w, some(r, 99), some(r, 99), i, -i)
		}
		w, h := anySide(r), anySide(r)
		first := setup.Parts(w, h, v)
		for i, way := range told(v) {
			got := setup.Parts(w, h, way)
			if len(got) != len(first) {
				t.Fatalf("Parts(%d, %d, %v) = %v; told in another way %v", w, h, v, first, got)
			}
			if len(got) == 0 {
				continue
			}
			seen++
			begun, _ := view.Point(w, h, way[0])
			if got[0].N != 0 || got[0].T[0] != begun || !slices.Contains(turns(first[0].T), got[0].T) {
				t.Fatalf("told in the way %d, Parts(%d, %d, %v) = %v; first %v", i, w, h, way, got, first)
			}
		}
	}
	if seen < 5000 {
		t.Errorf("only %d had a part", seen)
	}
}

// turns are a triangle from each of its points on.
func turns(t triangle) []triangle {
	ways := told(t)
	return ways[:3]
}

// P10.1: of sides that may not be, and where a W that is not from 1 on is left behind all planes, there are no points, and so no parts.
func TestPartsRefused(t *testing.T) {
	inside, cut := flat(1, -1, -1, 1, -1, -1, 1), flat(1, -64, -64, 192, -64, -64, 192)
	for _, v := range []vertices{inside, cut} {
		for _, n := range []int{0, -1, -64, 65, 128, 1 << 32, 1<<32 + 1, math.MinInt, math.MaxInt} {
			for _, good := range []int{1, 7, 64} {
				checkParts(t, []row{{"wide", n, good, v, nil}, {"high", good, n, v, nil}, {"both", n, n, v, nil}})
			}
		}
	}
	for _, way := range told(vertices{vert(0, 0, 0, 0), vert(1, 0, 0, 1), vert(0, 1, 0, 1)}) {
		checkParts(t, []row{{"W of 0", 4, 4, way, nil}})
	}
	checkParts(t, []row{
		{"nothing", 4, 4, vertices{}, nil},
		{"W below 0", 4, 4, flat(-1, -1, -1, 1, -1, -1, 1), nil},
		{"nothing at all", 0, 0, vertices{}, nil},
	})
}

type boxRow struct {
	name string
	t    triangle
	want [4]int
}

// checkBox holds the Box of a triangle against what is wanted, in all ways to tell it, and without its depths and attributes.
func checkBox(t *testing.T, w, h int, rows []boxRow) {
	t.Helper()
	for _, x := range rows {
		bare := x.t
		for i, p := range x.t {
			bare[i] = api.Point{X: p.X, Y: p.Y}
		}
		for _, u := range [2]triangle{x.t, bare} {
			for _, way := range told(u) {
				if a, b, c, d := setup.Box(w, h, way); [4]int{a, b, c, d} != x.want {
					t.Errorf("%s: Box(%d, %d, %v) = %d, %d, %d, %d; want %v", x.name, w, h, way, a, b, c, d, x.want)
				}
			}
		}
	}
}

// P10.2: the document's example, triangles on the screen, and where a pixel ends.
func TestBox(t *testing.T) {
	checkBox(t, 4, 4, []boxRow{{"example", tri(0, 0, 40, 0, 0, 20), [4]int{0, 0, 3, 2}}})
	checkBox(t, 6, 4, []boxRow{
		{"in the middle", tri(17, 18, 40, 20, 30, 47), [4]int{1, 1, 3, 3}},
		{"within one pixel", tri(33, 17, 46, 18, 40, 30), [4]int{2, 1, 3, 2}},
		{"from the first part of one to the last", tri(32, 16, 47, 16, 32, 31), [4]int{2, 1, 3, 2}},
		{"a part farther to the right, and down", tri(32, 16, 48, 16, 32, 32), [4]int{2, 1, 4, 3}},
		{"a part farther to the left, and up", tri(31, 15, 47, 16, 32, 31), [4]int{1, 0, 3, 2}},
		{"at one point", tri(40, 40, 40, 40, 40, 40), [4]int{2, 2, 3, 3}},
		{"on one line", tri(0, 0, 16, 16, 32, 32), [4]int{0, 0, 3, 3}},
		{"nothing", triangle{}, [4]int{0, 0, 1, 1}},
		{"up to the screen's sides", tri(0, 0, 96, 0, 0, 64), [4]int{0, 0, 6, 4}},
		{"up to its last parts", tri(0, 0, 95, 0, 0, 63), [4]int{0, 0, 6, 4}},
		{"not in its last column and row", tri(0, 0, 79, 0, 0, 47), [4]int{0, 0, 5, 3}},
	})
}

// P10.2: across each side of the screen, at its corners, and greater than all of it: what is out of it is held off.
func TestBoxAcross(t *testing.T) {
	checkBox(t, 6, 4, []boxRow{
		{"left", tri(-1, 20, 20, 20, 10, 40), [4]int{0, 1, 2, 3}},
		{"far to the left", tri(-500, 20, 20, 20, 10, 40), [4]int{0, 1, 2, 3}},
		{"right", tri(80, 20, 97, 20, 85, 40), [4]int{5, 1, 6, 3}},
		{"far to the right", tri(80, 20, 997, 20, 85, 40), [4]int{5, 1, 6, 3}},
		{"up", tri(20, -1, 40, -30, 30, 20), [4]int{1, 0, 3, 2}},
		{"down", tri(20, 50, 40, 64, 30, 200), [4]int{1, 3, 3, 4}},
		{"the left and upper corner", tri(-9, -9, 20, -5, -5, 20), [4]int{0, 0, 2, 2}},
		{"the right and upper corner", tri(90, -9, 120, 5, 95, 20), [4]int{5, 0, 6, 2}},
		{"the left and lower corner", tri(-9, 60, 20, 70, 5, 90), [4]int{0, 3, 2, 4}},
		{"the right and lower corner", tri(90, 60, 120, 70, 95, 90), [4]int{5, 3, 6, 4}},
		{"from the left to the right", tri(-9, 20, 120, 20, 50, 40), [4]int{0, 1, 6, 3}},
		{"from above to below", tri(20, -9, 40, 120, 30, 40), [4]int{1, 0, 3, 4}},
		{"greater than the screen", tri(-500, -500, 900, -500, -500, 900), [4]int{0, 0, 6, 4}},
	})
}

// P10.2: beyond each side there is no column, or no row, or the box is turned over: it is not held within the screen at its other end.
func TestBoxBeyond(t *testing.T) {
	checkBox(t, 6, 4, []boxRow{
		{"at the left side", tri(-5, 20, -1, 20, -9, 40), [4]int{0, 1, 0, 3}},
		{"its last part at the left", tri(-32, 20, -16, 20, -17, 40), [4]int{0, 1, 0, 3}},
		{"farther to the left", tri(-50, 20, -17, 20, -40, 40), [4]int{0, 1, -1, 3}},
		{"at the right side", tri(96, 20, 111, 20, 100, 40), [4]int{6, 1, 6, 3}},
		{"farther to the right", tri(112, 20, 150, 20, 120, 40), [4]int{7, 1, 6, 3}},
		{"at the upper side", tri(20, -5, 40, -1, 30, -9), [4]int{1, 0, 3, 0}},
		{"farther up", tri(20, -50, 40, -17, 30, -33), [4]int{1, 0, 3, -1}},
		{"at the lower side", tri(20, 64, 40, 79, 30, 70), [4]int{1, 4, 3, 4}},
		{"farther down", tri(20, 80, 40, 99, 30, 90), [4]int{1, 5, 3, 4}},
		{"to the left, and up", tri(-50, -50, -40, -49, -33, -34), [4]int{0, 0, -2, -2}},
		{"to the right, and down", tri(200, 300, 210, 310, 220, 320), [4]int{12, 18, 6, 4}},
		{"to the left, and down", tri(-50, 300, -40, 310, -33, 320), [4]int{0, 18, -2, 4}},
		{"to the right, and up", tri(200, -50, 210, -40, 220, -33), [4]int{12, 0, 6, -2}},
	})
}

// P10.2: points as great as are asked.
func TestBoxOfGreat(t *testing.T) {
	const n = asked
	for _, side := range [][2]int{{1, 1}, {6, 4}, {64, 64}, {1, 64}, {64, 1}} {
		w, h := side[0], side[1]
		checkBox(t, w, h, []boxRow{
			{"all around", tri(-n, -n, n, -n, 0, n), [4]int{0, 0, w, h}},
			{"from one corner to the other", tri(-n, n, n, -n, 0, 0), [4]int{0, 0, w, h}},
			{"far to the right, and down", tri(n, n, n, n-1, n-1, n), [4]int{65535, 65535, w, h}},
			{"farthest to the right, and down", tri(n, n, n, n, n, n), [4]int{65536, 65536, w, h}},
			{"far to the left, and up", tri(-n, -n, 15-n, -n, -n, 16-n), [4]int{0, 0, -65535, -65534}},
			{"from the middle to the right, and down", tri(0, 0, n, 0, 0, n), [4]int{0, 0, w, h}},
			{"from the middle to the left, and up", tri(0, 0, -n, 0, 0, -n), [4]int{0, 0, 1, 1}},
		})
	}
}

// wantBox is what P10.2 says; of a number's bits, all but the last four are it by 16, rounded down.
func wantBox(w, h int, t triangle) [4]int {
	x, y := []int{t[0].X, t[1].X, t[2].X}, []int{t[0].Y, t[1].Y, t[2].Y}
	slices.Sort(x)
	slices.Sort(y)
	box := [4]int{x[0] >> 4, y[0] >> 4, x[2]>>4 + 1, y[2]>>4 + 1}
	for i, most := range []int{w, h} {
		if box[i] < 0 {
			box[i] = 0
		}
		if box[i+2] > most {
			box[i+2] = most
		}
	}
	return box
}

// P10.2: of many triangles, small and great, and all sides.
func TestBoxOfMany(t *testing.T) {
	r := rand.New(rand.NewSource(103))
	for _, most := range []int{20, 300, 1500, asked} {
		for w := 1; w <= api.MaxSide; w++ {
			for h := 1; h <= api.MaxSide; h++ {
				u := tri(some(r, most), some(r, most), some(r, most), some(r, most), some(r, most), some(r, most))
				if a, b, c, d := setup.Box(w, h, u); [4]int{a, b, c, d} != wantBox(w, h, u) {
					t.Fatalf("Box(%d, %d, %v) = %d, %d, %d, %d; want %v", w, h, u, a, b, c, d, wantBox(w, h, u))
				}
			}
		}
	}
}

// collected are the pixels that are gone through, up to so many.
func collected(l iter.Seq2[int, int], most int) []pixel {
	var out []pixel
	for x, y := range l {
		if out = append(out, pixel{x, y}); len(out) >= most {
			break
		}
	}
	return out
}

// tooMany is more than any box has that a test goes through.
const tooMany = 1 << 14

// wantPixels are those of a box whose sides are few.
func wantPixels(x0, y0, x1, y1 int) []pixel {
	columns, rows := max(x1-x0, 0), max(y1-y0, 0)
	var out []pixel
	for i := range columns * rows {
		out = append(out, pixel{x0 + i%columns, y0 + i/columns})
	}
	return out
}

// P10.2: one pixel, one row, one column, and several, row by row; numbers below 0.
func TestPixels(t *testing.T) {
	for _, x := range []struct {
		name           string
		x0, y0, x1, y1 int
		want           []pixel
	}{
		{"one pixel", 3, 5, 4, 6, []pixel{{3, 5}}},
		{"the first pixel", 0, 0, 1, 1, []pixel{{0, 0}}},
		{"one row", 2, 7, 5, 8, []pixel{{2, 7}, {3, 7}, {4, 7}}},
		{"one column", 7, 2, 8, 5, []pixel{{7, 2}, {7, 3}, {7, 4}}},
		{"several", 1, 2, 4, 4, []pixel{{1, 2}, {2, 2}, {3, 2}, {1, 3}, {2, 3}, {3, 3}}},
		{"more rows than columns", 4, 0, 6, 3, []pixel{{4, 0}, {5, 0}, {4, 1}, {5, 1}, {4, 2}, {5, 2}}},
		{"below 0", -3, -2, -1, 0, []pixel{{-3, -2}, {-2, -2}, {-3, -1}, {-2, -1}}},
		{"across 0", -1, -1, 1, 1, []pixel{{-1, -1}, {0, -1}, {-1, 0}, {0, 0}}},
		{"one pixel below 0", -1, -1, 0, 0, []pixel{{-1, -1}}},
	} {
		l := setup.Pixels(x.x0, x.y0, x.x1, x.y1)
		for range 3 {
			if got := collected(l, tooMany); !slices.Equal(got, x.want) {
				t.Errorf("%s: Pixels(%d, %d, %d, %d) went through %v; want %v", x.name, x.x0, x.y0, x.x1, x.y1, got, x.want)
			}
		}
	}
}

// boxes are all whose ends are from least to most.
func boxes(least, most int) [][4]int {
	var out [][4]int
	side := most - least + 1
	for i := range side * side * side * side {
		out = append(out, [4]int{least + i%side, least + i/side%side, least + i/side/side%side, least + i/side/side/side})
	}
	return out
}

// P10.2: all small boxes, those that have no row or no column, and those that are turned over, among them; never nil.
func TestPixelsOfSmall(t *testing.T) {
	for _, b := range boxes(-3, 3) {
		l, want := setup.Pixels(b[0], b[1], b[2], b[3]), wantPixels(b[0], b[1], b[2], b[3])
		if l == nil {
			t.Fatalf("Pixels of %v is nil", b)
		}
		if got := collected(l, tooMany); !slices.Equal(got, want) {
			t.Errorf("Pixels of %v went through %v; want %v", b, got, want)
		}
	}
	if got, want := collected(setup.Pixels(0, 0, 64, 64), tooMany), wantPixels(0, 0, 64, 64); !slices.Equal(got, want) {
		t.Errorf("of a screen of 64 Pixels went through %d; want %d", len(got), len(want))
	}
}

// P10.2, R1: a box without a pixel ends at once, also where its rows or columns are too many to be gone through; one at the end of all numbers ends too.
func TestPixelsOfEdges(t *testing.T) {
	const least, most = math.MinInt, math.MaxInt
	for _, b := range [][4]int{
		{3, least, 3, most}, {4, least, 3, most}, {most, least, least, most}, {0, 0, 0, most}, {0, 0, least, most}, {least, least, least, most}, {most, least, most, most},
		{least, 3, most, 3}, {least, 4, most, 3}, {least, most, most, least}, {0, 0, most, 0}, {0, 0, most, least}, {least, most, most, most}, {most, most, least, least}, {most, most, most, most},
	} {
		if got := collected(setup.Pixels(b[0], b[1], b[2], b[3]), 9); len(got) != 0 {
			t.Errorf("Pixels of %v went through %v", b, got)
		}
	}
	for _, b := range [][4]int{{most - 2, most - 2, most, most}, {least, least, least + 2, least + 2}, {most - 2, least, most, least + 2}} {
		if got, want := collected(setup.Pixels(b[0], b[1], b[2], b[3]), 9), wantPixels(b[0], b[1], b[2], b[3]); !slices.Equal(got, want) {
			t.Errorf("Pixels of %v went through %v; want %v", b, got, want)
		}
	}
	if got, want := collected(setup.Pixels(least, least, most, most), 3), ([]pixel{{least, least}, {least + 1, least}, {least + 2, least}}); !slices.Equal(got, want) {
		t.Errorf("the greatest box, left early, went through %v; want %v", got, want)
	}
}

// P10.2: left early at each place, and gone over again behind that, from the first on.
func TestPixelsLeftEarly(t *testing.T) {
	for _, b := range boxes(-1, 2) {
		l, want := setup.Pixels(b[0], b[1], b[2], b[3]), wantPixels(b[0], b[1], b[2], b[3])
		for place := range want {
			if got := collected(l, place+1); !slices.Equal(got, want[:place+1]) {
				t.Errorf("Pixels of %v, left at %d, went through %v; want %v", b, place, got, want[:place+1])
			}
			if got := collected(l, tooMany); !slices.Equal(got, want) {
				t.Errorf("Pixels of %v, left at %d, went again through %v; want %v", b, place, got, want)
			}
		}
	}
}

// P10.2: a function that said that it leaves is not called again, neither in that row nor in one behind.
func TestPixelsStop(t *testing.T) {
	for _, b := range boxes(-1, 2) {
		for place := range wantPixels(b[0], b[1], b[2], b[3]) {
			calls := 0
			setup.Pixels(b[0], b[1], b[2], b[3])(func(int, int) bool {
				calls++
				return calls <= place
			})
			if calls != place+1 {
				t.Errorf("Pixels of %v, left at %d, called %d times", b, place, calls)
			}
		}
	}
}

// P10.2: one range within another, of the same and of others: neither moves the other on, also where the inner one is left early.
func TestPixelsWithinPixels(t *testing.T) {
	some := [][4]int{{0, 0, 3, 2}, {1, 1, 2, 2}, {0, 0, 1, 3}, {0, 0, 3, 1}, {-2, -2, 1, 1}, {2, 2, 2, 5}, {3, 3, 1, 1}}
	for i, b := range some {
		outer, want := setup.Pixels(b[0], b[1], b[2], b[3]), wantPixels(b[0], b[1], b[2], b[3])
		for j, c := range some {
			inner, wantInner := setup.Pixels(c[0], c[1], c[2], c[3]), wantPixels(c[0], c[1], c[2], c[3])
			if i == j {
				inner = outer
			}
			var got []pixel
			for x, y := range outer {
				if got = append(got, pixel{x, y}); len(got) > len(want) {
					t.Fatalf("%v around %v goes on: %v", b, c, got)
				}
				if all := collected(inner, tooMany); !slices.Equal(all, wantInner) {
					t.Fatalf("%v within %v went through %v; want %v", c, b, all, wantInner)
				}
				if two := collected(inner, 2); !slices.Equal(two, wantInner[:min(2, len(wantInner))]) {
					t.Fatalf("%v within %v, left early, went through %v", c, b, two)
				}
			}
			if !slices.Equal(got, want) {
				t.Errorf("%v around %v went through %v; want %v", b, c, got, want)
			}
		}
	}
}

// checkBoxed holds each pixel of a screen against the Box of a triangle: how many of them have a sample of it.
func checkBoxed(t *testing.T, w, h int, u triangle) int {
	t.Helper()
	boxed := map[pixel]int{}
	for x, y := range setup.Pixels(setup.Box(w, h, u)) {
		boxed[pixel{x, y}]++
	}
	seen := 0
	for y := range h {
		for x := range w {
			if cover.Mask(u, x, y) == 0 {
				continue
			}
			seen++
			if boxed[pixel{x, y}] != 1 {
				t.Fatalf("%d, %d has a sample of %v, and is in its Box on a screen of %d, %d %d times", x, y, u, w, h, boxed[pixel{x, y}])
			}
		}
	}
	return seen
}

// P10.3: a triangle just around a sample, and ones of which it is a point, or on an edge: at each pixel of a screen.
func TestBoxHasOneSample(t *testing.T) {
	w, h := 5, 3
	for i := range 4 * w * h {
		x, y := cover.Sample(i/4%w, i/4/w, i%4)
		seen := checkBoxed(t, w, h, tri(x-1, y-1, x+2, y-1, x-1, y+2))
		seen += checkBoxed(t, w, h, tri(x, y, x+3, y, x, y+3))
		seen += checkBoxed(t, w, h, tri(x-1, y, x+1, y, x, y+1))
		seen += checkBoxed(t, w, h, tri(x, y-1, x+1, y, x, y+1))
		if seen < 4 {
			t.Errorf("around the sample %d, %d only %d pixels had one", x, y, seen)
		}
	}
}

// P10.3: of many triangles on the screen, across its sides, and beyond; small ones, and ones as great as are asked.
func TestBoxHasSamples(t *testing.T) {
	r := rand.New(rand.NewSource(104))
	for _, most := range []int{30, 200, 1500, asked} {
		seen := 0
		for range 1500 {
			w, h := 1+r.Intn(24), 1+r.Intn(24)
			u := tri(some(r, most), some(r, most), some(r, most), some(r, most), some(r, most), some(r, most))
			if turned, ok := edge.Turned(u); ok {
				seen += checkBoxed(t, w, h, turned)
			}
		}
		if seen < 500 {
			t.Errorf("up to %d only %d pixels had a sample", most, seen)
		}
	}
}

// P10.3: so it is of all parts that triangles become.
func TestBoxHasSamplesOfParts(t *testing.T) {
	r := rand.New(rand.NewSource(105))
	seen := 0
	for range 2000 {
		w, h := 1+r.Intn(24), 1+r.Intn(24)
		for _, p := range setup.Parts(w, h, vertices{near(r, 100), near(r, 100), near(r, 100)}) {
			seen += checkBoxed(t, w, h, p.T)
		}
	}
	if seen < 5000 {
		t.Errorf("only %d pixels had a sample", seen)
	}
}

// R7, R6: what is handed in is not changed; what was told is the caller's own; and asked again, it is the same.
func TestOwn(t *testing.T) {
	r := rand.New(rand.NewSource(106))
	seen := 0
	for range 2000 {
		w, h := anySide(r), anySide(r)
		v := vertices{near(r, 50), near(r, 50), near(r, 50)}
		kept := v
		first, again := setup.Parts(w, h, v), setup.Parts(w, h, v)
		if v != kept {
			t.Fatalf("Parts changed %v to %v", kept, v)
		}
		was := slices.Clone(first)
		v = vertices{}
		if !slices.Equal(first, was) {
			t.Fatalf("with what was handed in, what was told became %v", first)
		}
		clear(first[:cap(first)])
		if !slices.Equal(again, was) || !slices.Equal(setup.Parts(w, h, kept), was) {
			t.Fatalf("with what was told, Parts(%d, %d, %v) became another", w, h, kept)
		}
		for _, p := range again {
			seen++
			u := p.T
			x0, y0, x1, y1 := setup.Box(w, h, u)
			setup.Box(h, w, triangle{u[1], u[0], u[0]})
			a, b, c, d := setup.Box(w, h, u)
			if u != p.T || [4]int{a, b, c, d} != [4]int{x0, y0, x1, y1} {
				t.Fatalf("Box(%d, %d, %v): first %d, %d, %d, %d, then %d, %d, %d, %d of %v", w, h, p.T, x0, y0, x1, y1, a, b, c, d, u)
			}
		}
	}
	if seen < 1000 {
		t.Errorf("only %d parts were seen", seen)
	}
}

// R7: the pixels that are gone through are those of when it was told, whatever becomes of the caller's numbers.
func TestPixelsOwn(t *testing.T) {
	x0, y0, x1, y1 := 1, 2, 4, 4
	l := setup.Pixels(x0, y0, x1, y1)
	want := wantPixels(x0, y0, x1, y1)
	x0, y0, x1, y1 = 7, 7, 9, 9
	other := setup.Pixels(x0, y0, x1, y1)
	if got := collected(l, tooMany); !slices.Equal(got, want) {
		t.Errorf("it went through %v; want %v", got, want)
	}
	if got, want := collected(other, tooMany), wantPixels(7, 7, 9, 9); !slices.Equal(got, want) {
		t.Errorf("the other one went through %v; want %v", got, want)
	}
}

// R1: numbers beyond those that are asked end too, and none panics.
func TestNoPanic(t *testing.T) {
	edges := []int{math.MinInt, math.MinInt + 1, -1, 0, 1, 64, math.MaxInt - 1, math.MaxInt}
	for _, a := range edges {
		for _, b := range edges {
			for _, c := range edges {
				v := vertices{vert(a, b, c, max(a, 1), b, c), vert(c, a, b, b, a, a), vert(b, c, a, 1, c, b)}
				for _, way := range told(v) {
					setup.Parts(64, 64, way)
					setup.Parts(a, b, way)
				}
				setup.Box(64, 64, tri(a, b, b, c, c, a))
				setup.Box(a, b, tri(c, c, b, a, a, b))
				collected(setup.Pixels(a, b, c, a), 5)
				collected(setup.Pixels(c, a, b, c), 5)
			}
		}
	}
}

// R1: vertices that may not be: what the document's words say of them too.
func TestPartsOfAny(t *testing.T) {
	r := rand.New(rand.NewSource(107))
	seen := 0
	for range 5000 {
		var v vertices
		for i := range v {
			v[i] = vert(some(r, asked), some(r, asked), some(r, asked), some(r, asked), some(r, asked))
		}
		w, h := anySide(r), anySide(r)
		got, want := setup.Parts(w, h, v), wantParts(w, h, v)
		if !slices.Equal(got, want) {
			t.Fatalf("Parts(%d, %d, %v) = %v; want %v", w, h, v, got, want)
		}
		seen += len(got)
	}
	if seen < 500 {
		t.Errorf("only %d parts were seen", seen)
	}
}
