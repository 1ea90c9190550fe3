package colour_test

import (
	"math"
	"slices"
	"testing"

	"glazier/api"
	"glazier/colour"
)

// nearest is the number of which 255 times is nearest to n: told apart from package fixed, so that no fault of that hides one here.
func nearest(n int) int {
	k := 0
	for 2*(n-255*k) > 255 {
		k++
	}
	return k
}

// nearests are those of all products of two bytes.
func nearests() []int {
	l := make([]int, 255*255+1)
	for n := range l {
		l[n] = nearest(n)
	}
	return l
}

func bytes(n ...int) api.Colour {
	return api.Colour{R: uint8(n[0]), G: uint8(n[1]), B: uint8(n[2]), A: uint8(n[3])}
}

// edges are the bytes about which a sum or a rounding turns, and some ordinary ones.
func edges() []int {
	return []int{0, 1, 2, 3, 63, 64, 100, 126, 127, 128, 129, 191, 200, 253, 254, 255}
}

// some are colours of which each part is an edge, right ones and others.
func some() []api.Colour {
	var l []api.Colour
	e := []int{0, 1, 127, 128, 254, 255}
	for _, r := range e {
		for _, g := range e {
			for _, b := range e {
				for _, a := range e {
					l = append(l, bytes(r, g, b, a))
				}
			}
		}
	}
	return l
}

// rights are those of edges that are right; isRight is the document's word, spelt out.
func rights() []api.Colour {
	return slices.DeleteFunc(some(), func(c api.Colour) bool { return !isRight(c) })
}

func isRight(c api.Colour) bool {
	return max(c.R, c.G, c.B) <= c.A
}

func check(t *testing.T, what string, got, want api.Colour) {
	t.Helper()
	if got != want {
		t.Errorf("%s: %v; want %v", what, got, want)
	}
}

// P2.1: each of R, G and B alone makes a colour wrong; one that is as great as A does not.
func TestRight(t *testing.T) {
	for _, x := range []struct {
		c    api.Colour
		want bool
	}{
		{bytes(0, 0, 0, 0), true},
		{bytes(0, 0, 0, 255), true},
		{bytes(255, 255, 255, 255), true},
		{bytes(10, 20, 30, 40), true},
		{bytes(40, 40, 40, 40), true},
		{bytes(41, 0, 0, 40), false},
		{bytes(0, 41, 0, 40), false},
		{bytes(0, 0, 41, 40), false},
		{bytes(41, 41, 41, 40), false},
		{bytes(1, 0, 0, 0), false},
		{bytes(0, 1, 0, 0), false},
		{bytes(0, 0, 1, 0), false},
		{bytes(255, 0, 0, 254), false},
		{bytes(0, 255, 0, 254), false},
		{bytes(0, 0, 255, 254), false},
		{bytes(200, 0, 0, 100), false},
	} {
		if got := colour.Right(x.c); got != x.want {
			t.Errorf("Right(%v) = %v", x.c, got)
		}
	}
}

// P2.1: of one part and A, all there are, whichever part it is.
func TestRightOfAllPairs(t *testing.T) {
	for p := range 256 {
		for a := range 256 {
			for i, c := range []api.Colour{bytes(p, 0, 0, a), bytes(0, p, 0, a), bytes(0, 0, p, a)} {
				if got := colour.Right(c); got != (p <= a) {
					t.Fatalf("part %d: Right(%v) = %v", i, c, got)
				}
			}
		}
	}
}

// P2.1: ordinary colours, A of 0 and of 255, and that A is not multiplied.
func TestPre(t *testing.T) {
	for _, x := range []struct{ c, want api.Colour }{
		{bytes(255, 100, 1, 128), bytes(128, 50, 1, 128)},
		{bytes(255, 255, 255, 77), bytes(77, 77, 77, 77)},
		{bytes(255, 128, 3, 0), bytes(0, 0, 0, 0)},
		{bytes(255, 128, 3, 255), bytes(255, 128, 3, 255)},
		{bytes(0, 0, 0, 13), bytes(0, 0, 0, 13)},
		{bytes(127, 128, 129, 1), bytes(0, 1, 1, 1)},
		{bytes(1, 2, 3, 127), bytes(0, 1, 1, 127)},
	} {
		check(t, "Pre", colour.Pre(x.c), x.want)
	}
}

// P2.1, P2.3: of all bytes and all A: what it makes is right, whether that was or not.
func TestPreOfAllPairs(t *testing.T) {
	near := nearests()
	for a := range 256 {
		for p := range 256 {
			q, r := 255-p, (p+85)%256
			got := colour.Pre(bytes(p, q, r, a))
			if want := bytes(near[p*a], near[q*a], near[r*a], a); got != want || !colour.Right(got) {
				t.Fatalf("Pre(%d, %d, %d, %d) = %v; want %v", p, q, r, a, got, want)
			}
		}
	}
}

// P2.2: ordinary colours, and those that are not right, of which each part is held within a byte.
func TestOver(t *testing.T) {
	for _, x := range []struct{ a, b, want api.Colour }{
		{bytes(100, 0, 0, 128), bytes(0, 200, 0, 255), bytes(100, 100, 0, 255)},
		{bytes(10, 20, 30, 64), bytes(40, 80, 120, 160), bytes(40, 80, 120, 184)},
		{bytes(0, 0, 0, 128), bytes(255, 255, 255, 255), bytes(127, 127, 127, 255)},
		{bytes(200, 0, 0, 10), bytes(200, 0, 0, 20), bytes(255, 0, 0, 29)},
		{bytes(0, 200, 0, 10), bytes(0, 200, 0, 20), bytes(0, 255, 0, 29)},
		{bytes(0, 0, 200, 10), bytes(0, 0, 200, 20), bytes(0, 0, 255, 29)},
		{bytes(255, 255, 255, 0), bytes(255, 255, 255, 255), bytes(255, 255, 255, 255)},
		{bytes(255, 1, 0, 0), bytes(1, 255, 255, 255), bytes(255, 255, 255, 255)},
		{bytes(255, 0, 9, 0), bytes(0, 255, 9, 0), bytes(255, 255, 18, 0)},
		{bytes(55, 56, 0, 0), bytes(200, 200, 0, 0), bytes(255, 255, 0, 0)},
		{bytes(7, 8, 9, 255), bytes(255, 255, 255, 255), bytes(7, 8, 9, 255)},
		{bytes(0, 0, 0, 0), bytes(9, 8, 7, 6), bytes(9, 8, 7, 6)},
	} {
		check(t, "Over", colour.Over(x.a, x.b), x.want)
	}
}

// P2.2: of all bytes behind and all A in front, with the edges of a part in front; right or not.
func TestOverIsExact(t *testing.T) {
	near := nearests()
	l := edges()
	part := func(p, q, a int) int { return min(p+near[q*(255-a)], 255) }
	for a := range 256 {
		for q := range 256 {
			for i, p := range l {
				p2, p3 := l[(i+5)%len(l)], l[(i+11)%len(l)]
				q2, q3, q4 := 255-q, (q+85)%256, (q+170)%256
				got := colour.Over(bytes(p, p2, p3, a), bytes(q, q2, q3, q4))
				if want := bytes(part(p, q, a), part(p2, q2, a), part(p3, q3, a), part(a, q4, a)); got != want {
					t.Fatalf("Over of %d, %d, %d, %d and %d, %d, %d, %d: %v; want %v", p, p2, p3, a, q, q2, q3, q4, got, want)
				}
			}
		}
	}
}

// P2.2: the first of the list is the farthest; of none it is what is behind, right or not.
func TestFold(t *testing.T) {
	back := bytes(0, 0, 255, 255)
	for _, x := range []struct {
		back api.Colour
		l    []api.Colour
		want api.Colour
	}{
		{back, nil, back},
		{back, []api.Colour{}, back},
		{bytes(9, 8, 7, 6), nil, bytes(9, 8, 7, 6)},
		{back, []api.Colour{bytes(128, 0, 0, 128)}, bytes(128, 0, 127, 255)},
		{back, []api.Colour{bytes(128, 0, 0, 128), bytes(0, 64, 0, 64)}, bytes(96, 64, 95, 255)},
		{back, []api.Colour{bytes(0, 64, 0, 64), bytes(128, 0, 0, 128)}, bytes(128, 32, 95, 255)},
		{back, []api.Colour{bytes(50, 0, 0, 50), bytes(1, 2, 3, 255)}, bytes(1, 2, 3, 255)},
		{back, []api.Colour{bytes(1, 2, 3, 255), bytes(0, 0, 0, 0)}, bytes(1, 2, 3, 255)},
		{bytes(200, 0, 0, 20), []api.Colour{bytes(200, 0, 0, 10), bytes(0, 0, 0, 0)}, bytes(255, 0, 0, 29)},
	} {
		check(t, "Fold", colour.Fold(x.back, x.l), x.want)
	}
}

// P2.2: it is Over, one after the other, of any number of colours.
func TestFoldIsOverAndOver(t *testing.T) {
	l := some()
	want := bytes(3, 141, 59, 26)
	for n := range l {
		check(t, "Fold", colour.Fold(bytes(3, 141, 59, 26), l[:n]), want)
		want = colour.Over(l[n], want)
	}
	for n := range l {
		near := colour.Fold(l[0], l[n:])
		far := colour.Fold(near, l[:n])
		check(t, "Fold of both", colour.Fold(l[0], slices.Concat(l[n:], l[:n])), far)
	}
}

// R7: a list that is handed in is not changed.
func TestFoldLeavesItsList(t *testing.T) {
	l := some()
	before := slices.Clone(l)
	colour.Fold(bytes(1, 2, 3, 4), l)
	if !slices.Equal(l, before) {
		t.Error("Fold changed the list")
	}
}

// P2.2: a half is rounded up, less is not; each part has its own sum; 1020 wraps round nowhere.
func TestMean(t *testing.T) {
	for _, x := range []struct {
		l    [4]api.Colour
		want api.Colour
	}{
		{[4]api.Colour{}, bytes(0, 0, 0, 0)},
		{[4]api.Colour{bytes(1, 2, 3, 4), bytes(1, 2, 3, 4), bytes(1, 2, 3, 4), bytes(1, 2, 3, 4)}, bytes(1, 2, 3, 4)},
		{[4]api.Colour{bytes(1, 0, 0, 0), bytes(2, 0, 0, 0), bytes(3, 0, 0, 255), bytes(3, 0, 0, 255)}, bytes(2, 0, 0, 128)},
		{[4]api.Colour{bytes(1, 0, 0, 0), bytes(0, 2, 0, 0), bytes(0, 0, 3, 0), bytes(0, 0, 0, 6)}, bytes(0, 1, 1, 2)},
		{[4]api.Colour{bytes(255, 255, 255, 255), bytes(255, 255, 255, 255), bytes(255, 255, 255, 255), bytes(255, 255, 255, 255)}, bytes(255, 255, 255, 255)},
		{[4]api.Colour{bytes(255, 255, 255, 255), bytes(255, 255, 255, 255), bytes(255, 255, 255, 255), bytes(254, 253, 252, 0)}, bytes(255, 255, 254, 191)},
		{[4]api.Colour{bytes(200, 0, 0, 0), {}, {}, {}}, bytes(50, 0, 0, 0)},
	} {
		check(t, "Mean", colour.Mean(x.l), x.want)
	}
}

// P2.2: of all sums of the edges, in all places: none of the four weighs more.
func TestMeanIsExact(t *testing.T) {
	l := edges()
	n := len(l)
	nearest4 := func(a, b, c, d int) int {
		sum := a + b + c + d
		k := 0
		for 4*(k+1) <= sum+2 {
			k++
		}
		return k
	}
	for i := range n * n * n * n {
		p := [4]int{l[i%n], l[i/n%n], l[i/n/n%n], l[i/n/n/n]}
		q := [4]int{255 - p[1], 255 - p[2], 255 - p[3], 255 - p[0]}
		var in [4]api.Colour
		for j := range in {
			in[j] = bytes(p[j], q[j], p[0], q[3-j])
		}
		other := nearest4(q[0], q[1], q[2], q[3])
		want := bytes(nearest4(p[0], p[1], p[2], p[3]), other, p[0], other)
		if got := colour.Mean(in); got != want {
			t.Fatalf("Mean(%v) = %v; want %v", in, got, want)
		}
	}
}

// P2.2: ordinary t; its edges; and t below 0 and above 256, which are held.
func TestMix(t *testing.T) {
	a, b := bytes(10, 0, 255, 3), bytes(100, 255, 0, 4)
	for _, x := range []struct {
		t    int
		want api.Colour
	}{
		{0, a},
		{256, b},
		{1, bytes(10, 1, 254, 3)},
		{64, bytes(33, 64, 191, 3)},
		{127, bytes(55, 127, 128, 3)},
		{128, bytes(55, 128, 128, 4)},
		{255, bytes(100, 254, 1, 4)},
		{-1, a}, {-5, a}, {-128, a}, {-256, a}, {-1 << 32, a}, {math.MinInt, a}, {math.MinInt + 256, a},
		{257, b}, {384, b}, {512, b}, {999, b}, {1 << 32, b}, {math.MaxInt, b}, {math.MaxInt - 256, b},
	} {
		if got := colour.Mix(a, b, x.t); got != x.want {
			t.Errorf("Mix by %d: %v; want %v", x.t, got, x.want)
		}
	}
}

// P2.2: of all t and all bytes on one side, with the edges on the other; right or not.
func TestMixIsExact(t *testing.T) {
	l := edges()
	for n := -2; n <= 258; n++ {
		held := min(max(n, 0), 256)
		// The sum is from 128 on: what is rounded down is what its bits from 256 on say.
		part := func(p, q int) int { return (p<<8 + (q-p)*held + 128) >> 8 }
		for q := range 256 {
			for i, p := range l {
				p2, p3 := l[(i+5)%len(l)], l[(i+11)%len(l)]
				q2, q3 := 255-q, (q+85)%256
				got := colour.Mix(bytes(p, q2, p3, q), bytes(q, p2, q3, p), n)
				if want := bytes(part(p, q), part(q2, p2), part(p3, q3), part(q, p)); got != want {
					t.Fatalf("Mix of %d, %d, %d, %d and %d, %d, %d, %d by %d: %v; want %v", p, q2, p3, q, q, p2, q3, p, n, got, want)
				}
			}
		}
	}
}

// P2.3: what is made of two right colours is right.
func TestRightComesOfRight(t *testing.T) {
	l := rights()
	for i, a := range l {
		for j, b := range l {
			if c := colour.Over(a, b); !isRight(c) {
				t.Fatalf("Over of %v and %v: %v", a, b, c)
			}
			for _, n := range []int{-1, 0, 1, 127, 128, 129, 255, 256, 257} {
				if c := colour.Mix(a, b, n); !isRight(c) {
					t.Fatalf("Mix of %v and %v by %d: %v", a, b, n, c)
				}
			}
			four := [4]api.Colour{a, b, l[(i+j)%len(l)], l[(i+7*j+1)%len(l)]}
			if c := colour.Mean(four); !isRight(c) {
				t.Fatalf("Mean of %v: %v", four, c)
			}
			if c := colour.Fold(a, four[1:]); !isRight(c) {
				t.Fatalf("Fold of %v and %v: %v", a, four[1:], c)
			}
		}
	}
}

// P2.3: of one part and A, all right ones in front of all right edges: the rounding makes none wrong.
func TestRightComesOfRightParts(t *testing.T) {
	l := edges()
	for a := range 256 {
		for p := range a + 1 {
			for i, b := range l {
				for _, q := range l[:i+1] {
					if c := colour.Over(bytes(p, 0, a, a), bytes(q, b, q, b)); !isRight(c) {
						t.Fatalf("Over of %d, 0, %d, %d and %d, %d, %d, %d: %v", p, a, a, q, b, q, b, c)
					}
				}
			}
		}
	}
}

// P2.3: behind what has A of 255 nothing is seen, whatever it is, and however much of it.
func TestWhatCoversAllHidesAll(t *testing.T) {
	for _, a := range some() {
		if a.A != 255 {
			continue
		}
		for _, b := range some() {
			check(t, "Over", colour.Over(a, b), a)
			check(t, "Fold", colour.Fold(b, []api.Colour{b, bytes(9, 9, 9, 9), a}), a)
		}
	}
}

// P2.3: in front of what is there A of 0 takes none of it away: right, nothing is added either.
func TestWhatCoversNothingHidesNothing(t *testing.T) {
	var nothing api.Colour
	for _, b := range some() {
		check(t, "Over", colour.Over(nothing, b), b)
		check(t, "Fold", colour.Fold(b, []api.Colour{nothing, nothing, nothing}), b)
		for _, a := range some() {
			if a.A != 0 {
				continue
			}
			sum := func(p, q uint8) int { return min(int(p)+int(q), 255) }
			check(t, "Over", colour.Over(a, b), bytes(sum(a.R, b.R), sum(a.G, b.G), sum(a.B, b.B), int(b.A)))
		}
	}
}
