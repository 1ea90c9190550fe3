package clip_test

import (
	"math"
	"math/rand"
	"slices"
	"testing"

	"glazier/api"
	"glazier/clip"
)

// asked is up to which number, without its sign, By and Poly are asked.
const asked = 1 << 20

// vert is a vertex of its eight numbers, list is the other way round.
func vert(n ...int) api.Vec {
	var l [8]int
	copy(l[:], n)
	return api.Vec{X: l[0], Y: l[1], Z: l[2], W: l[3], A: [4]int{l[4], l[5], l[6], l[7]}}
}

func list(v api.Vec) []int {
	return []int{v.X, v.Y, v.Z, v.W, v.A[0], v.A[1], v.A[2], v.A[3]}
}

// wantDist and wantBetween are what the document says of planes, spelt out apart from package vec.
func wantDist(plane int, v api.Vec) int {
	of := [5][4]int{{0, 0, 1, 1}, {1, 0, 0, 4}, {-1, 0, 0, 4}, {0, 1, 0, 4}, {0, -1, 0, 4}}
	d := 0
	for i, n := range list(v)[:4] {
		d += of[plane][i] * n
	}
	return d
}

func wantBetween(plane int, in, out api.Vec) api.Vec {
	d, e := wantDist(plane, in), wantDist(plane, out)
	var l [8]int
	for i := range l {
		product := (list(out)[i] - list(in)[i]) * d
		rest := (product%(d-e) + (d - e)) % (d - e)
		l[i] = list(in)[i] + (product-rest)/(d-e)
	}
	return vert(l[:]...)
}

// wantBy and wantPoly cut by what they are told of which vertex is inside, ahead of going through them.
func wantBy(plane int, l []api.Vec) []api.Vec {
	ring := slices.Concat(l, l[:min(len(l), 1)])
	in := make([]bool, len(ring))
	for i, v := range ring {
		in[i] = wantDist(plane, v) >= 0
	}
	var cut []api.Vec
	for i := range l {
		switch {
		case in[i] && in[i+1]:
			cut = append(cut, ring[i])
		case in[i]:
			cut = append(cut, ring[i], wantBetween(plane, ring[i], ring[i+1]))
		case in[i+1]:
			cut = append(cut, wantBetween(plane, ring[i+1], ring[i]))
		}
	}
	return cut
}

func wantPoly(l []api.Vec) []api.Vec {
	l = wantBy(4, wantBy(3, wantBy(2, wantBy(1, wantBy(0, l)))))
	if len(l) < 3 {
		return nil
	}
	return l
}

// onEach lies on a plane, with a Dist of 0, and inside of all others; outEach is just outside of it alone.
func onEach() []api.Vec {
	return []api.Vec{vert(0, 0, -5, 5, 7), vert(-20, 0, 0, 5, 7), vert(20, 0, 0, 5, 7), vert(0, -20, 0, 5, 7), vert(0, 20, 0, 5, 7)}
}

func outEach() []api.Vec {
	return []api.Vec{vert(0, 0, -6, 5, 9), vert(-21, 0, 0, 5, 9), vert(21, 0, 0, 5, 9), vert(0, -21, 0, 5, 9), vert(0, 21, 0, 5, 9)}
}

type row struct {
	name    string
	plane   int
	l, want []api.Vec
}

func checkBy(t *testing.T, rows []row) {
	t.Helper()
	for _, x := range rows {
		if got := clip.By(x.plane, x.l); !slices.Equal(got, x.want) {
			t.Errorf("%s: By(%d, %v) = %v; want %v", x.name, x.plane, x.l, got, x.want)
		}
	}
}

// P5.1: the document's example, and one vertex outside of each plane, at each place.
func TestBy(t *testing.T) {
	in := vert(0, 0, 0, 1, 0, 0, 10, -10)
	outs := []api.Vec{
		vert(6, 3, -3, 1, 1, -1, 0, 0),
		vert(-6, 3, -3, 1, 1, -1, 0, 0), vert(6, 3, -3, 1, 1, -1, 0, 0),
		vert(3, -6, -3, 1, 1, -1, 0, 0), vert(3, 6, -3, 1, 1, -1, 0, 0),
	}
	// Plane 0 has d 1 and e -2, a third of the way; all others have d 4 and e -2, two thirds.
	ons := []api.Vec{
		vert(2, 1, -1, 1, 0, -1, 6, -7),
		vert(-4, 2, -2, 1, 0, -1, 3, -4), vert(4, 2, -2, 1, 0, -1, 3, -4),
		vert(2, -4, -2, 1, 0, -1, 3, -4), vert(2, 4, -2, 1, 0, -1, 3, -4),
	}
	checkBy(t, []row{{"example", 0, []api.Vec{vert(0, 0, 0, 2), vert(0, 0, -6, 2), vert(0, 0, 0, 2)}, []api.Vec{vert(0, 0, 0, 2), vert(0, 0, -2, 2), vert(0, 0, -2, 2), vert(0, 0, 0, 2)}}})
	for p, out := range outs {
		on := ons[p]
		checkBy(t, []row{
			{"the first is out", p, []api.Vec{out, in, in}, []api.Vec{on, in, in, on}},
			{"the second is out", p, []api.Vec{in, out, in}, []api.Vec{in, on, on, in}},
			{"the last is out", p, []api.Vec{in, in, out}, []api.Vec{in, in, on, on}},
			{"the first is in", p, []api.Vec{in, out, out}, []api.Vec{in, on, on}},
			{"the second is in", p, []api.Vec{out, in, out}, []api.Vec{on, in, on}},
			{"the last is in", p, []api.Vec{out, out, in}, []api.Vec{on, in, on}},
		})
	}
}

// P5.1: no vertices, one, and two; the one behind one alone is itself.
func TestByOfFew(t *testing.T) {
	for p := range 5 {
		in, on, out := vert(1, 1, 1, 5, 3), onEach()[p], outEach()[p]
		checkBy(t, []row{
			{"nil", p, nil, nil},
			{"none", p, []api.Vec{}, nil},
			{"one inside", p, []api.Vec{in}, []api.Vec{in}},
			{"one on it", p, []api.Vec{on}, []api.Vec{on}},
			{"one outside", p, []api.Vec{out}, nil},
			{"two inside", p, []api.Vec{in, on}, []api.Vec{in, on}},
			{"two outside", p, []api.Vec{out, out}, nil},
			{"on it, and outside", p, []api.Vec{on, out}, []api.Vec{on, on, on}},
			{"outside, and on it", p, []api.Vec{out, on}, []api.Vec{on, on, on}},
		})
	}
	checkBy(t, []row{
		{"in, out", 0, []api.Vec{vert(0, 0, 0, 2), vert(9, 0, -6, 2)}, []api.Vec{vert(0, 0, 0, 2), vert(3, 0, -2, 2), vert(3, 0, -2, 2)}},
		{"out, in", 0, []api.Vec{vert(9, 0, -6, 2), vert(0, 0, 0, 2)}, []api.Vec{vert(3, 0, -2, 2), vert(0, 0, 0, 2), vert(3, 0, -2, 2)}},
	})
}

// P5.1: all inside stay in order, of none nothing is left, and one on the plane is inside.
func TestByOfAllAndNone(t *testing.T) {
	for p := range 5 {
		in, on, out := vert(1, 1, 1, 5, 3), onEach()[p], outEach()[p]
		checkBy(t, []row{
			{"all inside", p, []api.Vec{in, vert(2, 2, 2, 5), vert(3, 3, 3, 5), in}, []api.Vec{in, vert(2, 2, 2, 5), vert(3, 3, 3, 5), in}},
			{"all on it", p, []api.Vec{on, on, on}, []api.Vec{on, on, on}},
			{"one on it", p, []api.Vec{on, in, in}, []api.Vec{on, in, in}},
			{"none inside", p, []api.Vec{out, out, out, out}, nil},
			{"one on it, beside two outside", p, []api.Vec{out, on, out}, []api.Vec{on, on, on}},
			{"on it, inside and outside", p, []api.Vec{on, in, in, on, out}, []api.Vec{on, in, in, on, on, on}},
		})
		for q := range 5 {
			if q != p {
				checkBy(t, []row{{"outside of another one", p, []api.Vec{in, outEach()[q], in}, []api.Vec{in, outEach()[q], in}}})
			}
		}
	}
}

// P5.1: where each other one is inside two are added at each that is outside; their numbers are rounded down.
func TestByOfEachOther(t *testing.T) {
	in0, out0, in1, out1 := vert(0, 0, 0, 2), vert(60, 0, -6, 2), vert(8, 0, 2, 2), vert(40, 0, -10, 2)
	a, b, c, d := vert(20, 0, -2, 2), vert(34, 0, -2, 2), vert(18, 0, -2, 2), vert(8, 0, -2, 2)
	checkBy(t, []row{
		{"in first", 0, []api.Vec{in0, out0, in1, out1}, []api.Vec{in0, a, b, in1, c, d}},
		{"out first", 0, []api.Vec{out0, in1, out1, in0}, []api.Vec{b, in1, c, d, in0, a}},
		{"and one more inside", 0, []api.Vec{in0, in0, out0, in1, out1}, []api.Vec{in0, in0, a, b, in1, c, d}},
		{"and one more outside", 0, []api.Vec{in0, out0, in1, out1, out1}, []api.Vec{in0, a, b, in1, c, d}},
		// Half of 7 up, and of 7 down, and a part below 0.
		{"rounded down", 0, []api.Vec{vert(7, 0, 0, 1), vert(0, 7, -2, 1)}, []api.Vec{vert(7, 0, 0, 1), vert(3, 3, -1, 1), vert(3, 3, -1, 1)}},
		{"rounded down below 0", 0, []api.Vec{vert(0, 0, 2, 1), vert(1, -1, -2, 1)}, []api.Vec{vert(0, 0, 2, 1), vert(0, -1, -1, 1), vert(0, -1, -1, 1)}},
	})
}

// P5.1: of a plane that is none all of l, outside of whichever it is.
func TestByOfNoPlane(t *testing.T) {
	l := append(outEach(), vert(0, 0, 0, 5), vert(), vert(-asked, asked, -asked, -asked))
	for _, p := range []int{-1, 5, 6, 7, -5, 256, 1 << 32, -1 << 32, math.MinInt, math.MaxInt} {
		checkBy(t, []row{
			{"some", p, l, l}, {"one", p, l[:1], l[:1]}, {"two", p, l[:2], l[:2]}, {"nil", p, nil, nil}, {"none", p, []api.Vec{}, nil},
		})
	}
}

type shape struct {
	name    string
	l, want []api.Vec
}

func checkPoly(t *testing.T, shapes []shape) {
	t.Helper()
	for _, x := range shapes {
		if got := clip.Poly(x.l); !slices.Equal(got, x.want) {
			t.Errorf("%s: Poly(%v) = %v; want %v", x.name, x.l, got, x.want)
		}
	}
}

// flat are vertices of X and Y alone, with Z 0 and W 1: X and Y stay from -4 to 4.
func flat(l ...[2]int) []api.Vec {
	var made []api.Vec
	for _, n := range l {
		made = append(made, vert(n[0], n[1], 0, 1))
	}
	return made
}

// P5.2: each plane alone; some of them, one behind the other; and what none of them leaves.
func TestPoly(t *testing.T) {
	checkPoly(t, []shape{
		{"all inside", flat([2]int{-1, -1}, [2]int{1, -1}, [2]int{0, 1}), flat([2]int{-1, -1}, [2]int{1, -1}, [2]int{0, 1})},
		{"plane 0", []api.Vec{vert(0, 0, 0, 2), vert(0, 0, -6, 2), vert(0, 0, 0, 2)}, []api.Vec{vert(0, 0, 0, 2), vert(0, 0, -2, 2), vert(0, 0, -2, 2), vert(0, 0, 0, 2)}},
		{"plane 1", flat([2]int{0, 0}, [2]int{-8, 0}, [2]int{0, 4}), flat([2]int{0, 0}, [2]int{-4, 0}, [2]int{-4, 2}, [2]int{0, 4})},
		{"plane 2", flat([2]int{0, 0}, [2]int{8, 0}, [2]int{0, 4}), flat([2]int{0, 0}, [2]int{4, 0}, [2]int{4, 2}, [2]int{0, 4})},
		{"plane 3", flat([2]int{0, 0}, [2]int{0, -8}, [2]int{4, 0}), flat([2]int{0, 0}, [2]int{0, -4}, [2]int{2, -4}, [2]int{4, 0})},
		{"plane 4", flat([2]int{0, 0}, [2]int{0, 8}, [2]int{4, 0}), flat([2]int{0, 0}, [2]int{0, 4}, [2]int{2, 4}, [2]int{4, 0})},
		{"planes 2 and 4", flat([2]int{0, 0}, [2]int{16, 0}, [2]int{0, 16}), flat([2]int{0, 0}, [2]int{4, 0}, [2]int{4, 4}, [2]int{0, 4})},
		{
			"planes 1 to 4",
			flat([2]int{-6, 0}, [2]int{0, -6}, [2]int{6, 0}, [2]int{0, 6}),
			flat([2]int{-4, -2}, [2]int{-2, -4}, [2]int{2, -4}, [2]int{4, -2}, [2]int{4, 2}, [2]int{2, 4}, [2]int{-2, 4}, [2]int{-4, 2}),
		},
		{"plane 0 leaves none", []api.Vec{vert(0, 0, -2, 1), vert(0, 0, -3, 1), vert(1, 0, -2, 1)}, nil},
		{"plane 2 leaves none", flat([2]int{5, 0}, [2]int{6, 0}, [2]int{5, 1}), nil},
		{"plane 4 leaves none", flat([2]int{0, 5}, [2]int{1, 6}, [2]int{2, 7}), nil},
		{"plane 4 leaves none of what 2 cut", flat([2]int{3, 9}, [2]int{9, 3}, [2]int{9, 9}), nil},
	})
}

// P5.2: fewer than three that are left are none, and of fewer than three that are told three may be left: by the last plane too.
func TestPolyOfFew(t *testing.T) {
	a, b := [2]int{0, 0}, [2]int{1, 1}
	checkPoly(t, []shape{
		{"nil", nil, nil},
		{"none", []api.Vec{}, nil},
		{"one inside", flat(a), nil},
		{"one outside", flat([2]int{9, 9}), nil},
		{"two inside", flat(a, b), nil},
		{"two outside", flat([2]int{9, 9}, [2]int{8, 9}), nil},
		{"three inside", flat(a, b, a), flat(a, b, a)},
		{"two, one behind plane 0", []api.Vec{vert(0, 0, 0, 2), vert(0, 0, -6, 2)}, []api.Vec{vert(0, 0, 0, 2), vert(0, 0, -2, 2), vert(0, 0, -2, 2)}},
		{"two, one behind plane 1", flat(a, [2]int{-8, 2}), flat(a, [2]int{-4, 1}, [2]int{-4, 1})},
		{"two, one behind plane 4", flat(a, [2]int{2, 8}), flat(a, [2]int{1, 4}, [2]int{1, 4})},
		{"two, the first behind plane 4", flat([2]int{2, 8}, a), flat([2]int{1, 4}, a, [2]int{1, 4})},
	})
}

// near is a vertex that some planes leave and others do not: X and Y go as far as eight times W; each number now and then as great as may be.
func near(r *rand.Rand, most int) api.Vec {
	some := func(most int) int {
		switch r.Intn(8) {
		case 0:
			return most
		case 1:
			return -most
		}
		return r.Intn(2*most+1) - most
	}
	w := 1 + r.Intn(most/8)
	return vert(some(8*w), some(8*w), some(2*w), w, some(most), some(most), some(most), some(most))
}

// anyOf is a vertex of whichever numbers: W of 0 and below it among them.
func anyOf(r *rand.Rand, most int) api.Vec {
	var l [8]int
	for i := range l {
		l[i] = []int{-most, most, r.Intn(2*most+1) - most}[r.Intn(3)]
	}
	return vert(l[:]...)
}

// P5.1 and P5.2: of many vertices, small and as great as is asked, what the document's words say of each plane and of all.
func TestOfMany(t *testing.T) {
	r := rand.New(rand.NewSource(5))
	for _, most := range []int{16, 1 << 8, 1 << 15, asked} {
		for _, made := range []func(*rand.Rand, int) api.Vec{near, anyOf} {
			left, longer := 0, 0
			for range 3000 {
				l := make([]api.Vec, r.Intn(8))
				for i := range l {
					l[i] = made(r, most)
				}
				for p := range 5 {
					if got, want := clip.By(p, l), wantBy(p, l); !slices.Equal(got, want) {
						t.Fatalf("By(%d, %v) = %v; want %v", p, l, got, want)
					}
				}
				got, want := clip.Poly(l), wantPoly(l)
				if !slices.Equal(got, want) {
					t.Fatalf("Poly(%v) = %v; want %v", l, got, want)
				}
				left += min(len(got), 1)
				if len(got) > len(l) {
					longer++
				}
			}
			if left < 300 || longer < 100 {
				t.Errorf("numbers up to %d: of only %d something was left, only %d became longer", most, left, longer)
			}
		}
	}
}

// P5.3: a triangle becomes none, or from three vertices on; each number of them lies between those of the triangle.
func TestTriangles(t *testing.T) {
	r := rand.New(rand.NewSource(53))
	for _, most := range []int{16, 1 << 15, asked} {
		sizes := map[int]int{}
		for range 8000 {
			l := []api.Vec{near(r, most), near(r, most), near(r, most)}
			got := clip.Poly(l)
			if len(got) == 1 || len(got) == 2 {
				t.Fatalf("Poly(%v) = %v", l, got)
			}
			sizes[len(got)]++
			for _, v := range got {
				for i, n := range list(v) {
					a, b, c := list(l[0])[i], list(l[1])[i], list(l[2])[i]
					if n < min(a, b, c) || n > max(a, b, c) {
						t.Fatalf("Poly(%v): %v is not within", l, v)
					}
				}
			}
		}
		for _, n := range []int{0, 3, 4, 5, 6} {
			if sizes[n] == 0 {
				t.Errorf("numbers up to %d: no triangle became %d vertices", most, n)
			}
		}
	}
}

// P5.3: what is inside of all stays as it is, up to what lies on the planes, and as great as is asked.
func TestInsideStays(t *testing.T) {
	const w = asked / 4
	for _, l := range [][]api.Vec{
		onEach(),
		{vert(), vert(), vert()},
		{vert(0, 0, 0, 1), vert(4, 4, -1, 1, 1, 2, 3, 4), vert(-4, -4, 1, 1, -1, -2, -3, -4)},
		{vert(asked, asked, asked, w, asked, asked, asked, asked), vert(-asked, asked, -w, w, -asked), vert(-asked, -asked, asked, w), vert(asked, -asked, -w, w)},
		{vert(asked, asked, -asked, asked), vert(-asked, -asked, -asked, asked), vert(asked, -asked, asked, asked)},
	} {
		for p := -1; p < 6; p++ {
			if got := clip.By(p, l); !slices.Equal(got, l) {
				t.Errorf("By(%d, %v) = %v", p, l, got)
			}
		}
		if got := clip.Poly(l); !slices.Equal(got, l) {
			t.Errorf("Poly(%v) = %v", l, got)
		}
	}
}

// calls are By of each plane and of those that are none, and Poly.
func calls() []func([]api.Vec) []api.Vec {
	made := []func([]api.Vec) []api.Vec{clip.Poly}
	for p := -1; p < 6; p++ {
		made = append(made, func(l []api.Vec) []api.Vec { return clip.By(p, l) })
	}
	return made
}

// R7: of lists that are cut and of those that stay: what is handed in, and the memory behind it, is not changed; and neither sees what becomes of the other's.
func TestOwn(t *testing.T) {
	cut := append(outEach(), onEach()...)
	for _, whole := range [][]api.Vec{onEach(), cut, outEach(), slices.Concat(cut, cut)} {
		for i, call := range calls() {
			kept := slices.Clone(whole)
			handed := kept[:len(kept)-2]
			told, again := call(handed), call(handed)
			was := slices.Clone(told)
			if !slices.Equal(kept, whole) {
				t.Fatalf("call %d of %v changed it to %v", i, whole, kept)
			}
			clear(kept)
			if !slices.Equal(told, was) {
				t.Fatalf("call %d of %v: with what was handed in, what was told became %v", i, whole, told)
			}
			copy(kept, whole)
			clear(told[:cap(told)])
			if !slices.Equal(kept, whole) {
				t.Fatalf("call %d of %v: with what was told, what was handed in became %v", i, whole, kept)
			}
			if !slices.Equal(again, was) {
				t.Fatalf("call %d of %v: with what was told, what was told again became %v", i, whole, again)
			}
		}
	}
}

// R1: numbers beyond those that are asked end too.
func TestNoPanic(t *testing.T) {
	edges := []int{math.MinInt, math.MinInt + 1, -1, 0, 1, math.MaxInt - 1, math.MaxInt}
	for _, a := range edges {
		for _, b := range edges {
			for _, c := range edges {
				l := []api.Vec{vert(a, b, c, a, b, c, a, b), vert(b, c, a, c, a, b, c, a), vert(c, a, b, b, c, a, b, c)}
				for _, call := range calls() {
					call(l)
				}
			}
		}
	}
}
