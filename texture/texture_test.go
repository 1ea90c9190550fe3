package texture_test

import (
	"math"
	"math/big"
	"math/rand"
	"slices"
	"testing"

	"glazier/api"
	"glazier/texture"
)

const (
	// asked is up to which u and v, without their sign, Smooth is asked.
	asked = 1 << 40
	least = math.MinInt
	most  = math.MaxInt
)

// none is what is told of a picture that may not be.
var none api.Colour

func bytes(n ...int) api.Colour {
	return api.Colour{R: uint8(n[0]), G: uint8(n[1]), B: uint8(n[2]), A: uint8(n[3])}
}

// red is a colour of which R is to be seen, and A is all.
func red(n int) api.Colour { return bytes(n, 0, 0, 255) }

// reds is a picture of so many columns, and as many rows as its texels fill.
func reds(w int, n ...int) api.Tex {
	t := api.Tex{W: w, H: len(n) / w}
	for _, k := range n {
		t.Px = append(t.Px, red(k))
	}
	return t
}

// numbered is a picture whose texels are all unlike, and tell their place in it.
func numbered(w, h int) api.Tex {
	t := api.Tex{W: w, H: h}
	for i := range w * h {
		t.Px = append(t.Px, bytes(i, 255-i, i/w*16+i%w, 200-i/2))
	}
	return t
}

// chance is a picture of any bytes, most of them at the edges of a byte.
func chance(r *rand.Rand, w, h int) api.Tex {
	edges := []int{0, 0, 255, 255, 1, 127, 128, 254}
	one := func() int {
		if i := r.Intn(12); i < len(edges) {
			return edges[i]
		}
		return r.Intn(256)
	}
	t := api.Tex{W: w, H: h}
	for range w * h {
		t.Px = append(t.Px, bytes(one(), one(), one(), one()))
	}
	return t
}

// blank is a picture of those sides, and of so many texels that are not 0.
func blank(w, h, texels int) api.Tex {
	return api.Tex{W: w, H: h, Px: slices.Repeat([]api.Colour{bytes(1, 2, 3, 4)}, texels)}
}

// wrong are pictures that may not be.
func wrong() map[string]api.Tex {
	return map[string]api.Tex{
		"nothing":                              {},
		"no texels, though not nil":            {Px: []api.Colour{}},
		"no width":                             blank(0, 1, 0),
		"no height":                            blank(1, 0, 0),
		"no width, with a texel":               blank(0, 1, 1),
		"no height, with a texel":              blank(1, 0, 1),
		"no sides, with a texel":               blank(0, 0, 1),
		"too wide":                             blank(17, 1, 17),
		"too high":                             blank(1, 17, 17),
		"too wide and high":                    blank(17, 17, 289),
		"as many as 16 by 16, but 32 by 8":     blank(32, 8, 256),
		"as many as 16 by 16, but 8 by 32":     blank(8, 32, 256),
		"as many as 16 by 16, but 256 by 1":    blank(256, 1, 256),
		"width below 0":                        blank(-1, 1, 1),
		"height below 0":                       blank(1, -1, 1),
		"sides below 0, whose product is 1":    blank(-1, -1, 1),
		"sides below 0, whose product is 12":   blank(-3, -4, 12),
		"width below 0, without texels":        blank(-1, 1, 0),
		"one too few":                          blank(3, 2, 5),
		"one too many":                         blank(3, 2, 7),
		"without texels":                       blank(3, 2, 0),
		"one texel, without":                   blank(1, 1, 0),
		"one texel, with two":                  blank(1, 1, 2),
		"the greatest, one too few":            blank(16, 16, 255),
		"the greatest, one too many":           blank(16, 16, 257),
		"sides whose product wraps round to 0": blank(1<<32, 1<<32, 0),
		"least sides, product wraps to 0":      blank(least, least, 0),
		"sides whose product wraps round to 1": blank(most, most, 1),
		"one side below 0, product wraps to 1": blank(-6148914691236517205, 3, 1),
		"least width":                          blank(least, 1, 1),
		"greatest width":                       blank(most, 1, 1),
		"greatest height":                      blank(1, most, 1),
	}
}

func check(t *testing.T, what string, got, want api.Colour) {
	t.Helper()
	if got != want {
		t.Fatalf("%s: %v; want %v", what, got, want)
	}
}

// modulo is n modulo m, reckoned without a bound.
func modulo(n *big.Int, m int) int {
	return int(new(big.Int).Mod(n, big.NewInt(int64(m))).Int64())
}

// wantTexel is what P11.1 says, of places of any size.
func wantTexel(t api.Tex, x, y *big.Int) api.Colour {
	return t.Px[t.W*modulo(y, t.H)+modulo(x, t.W)]
}

// placed is how many texels are ahead of n 16ths, rounded down, and how many 16ths are left: of a number's bits the last four are those.
func placed(n *big.Int) (*big.Int, int) {
	return new(big.Int).Rsh(n, parts4), modulo(n, 1<<parts4)
}

// parts4 is the power of two that 16 is.
const parts4 = 4

func whole(n int) *big.Int { return big.NewInt(int64(n)) }

// wantNearest is what P11.2 says.
func wantNearest(t api.Tex, u, v int) api.Colour {
	x, _ := placed(whole(u))
	y, _ := placed(whole(v))
	return wantTexel(t, x, y)
}

// mixed is P2.2's Mix, told apart from package colour, so that no fault of that hides one here.
func mixed(a, b api.Colour, t int) api.Colour {
	one := func(p, q uint8) uint8 { return uint8((int(p)*(256-t) + int(q)*t + 128) >> 8) }
	return api.Colour{R: one(a.R, b.R), G: one(a.G, b.G), B: one(a.B, b.B), A: one(a.A, b.A)}
}

// wantSmooth is what P11.2 says.
func wantSmooth(t api.Tex, u, v int) api.Colour {
	one, eight := whole(1), whole(8)
	x, f := placed(new(big.Int).Sub(whole(u), eight))
	y, g := placed(new(big.Int).Sub(whole(v), eight))
	right, below := new(big.Int).Add(x, one), new(big.Int).Add(y, one)
	first := mixed(wantTexel(t, x, y), wantTexel(t, right, y), 16*f)
	second := mixed(wantTexel(t, x, below), wantTexel(t, right, below), 16*f)
	return mixed(first, second, 16*g)
}

// far are numbers far away on either side, up to the ends of all, and some near ones.
func far() []int {
	l := []int{least, least + 1, least + 2, least + 15, most, most - 1, most - 15, -1, 0, 1}
	for _, shift := range []int{20, 31, 32, 33, 40, 59, 60, 62} {
		for _, d := range []int{-17, -16, -1, 0, 1, 7, 16} {
			l = append(l, 1<<shift+d, -(1<<shift + d))
		}
	}
	return l
}

// P11.1: all sides from 1 to 16; with one texel too few, or too many, or none, it may not be.
func TestRight(t *testing.T) {
	for w := 1; w <= 16; w++ {
		for h := 1; h <= 16; h++ {
			for texels, want := range map[int]bool{w * h: true, w*h - 1: false, w*h + 1: false, 0: false, 2 * w * h: false, w*h + 256: false} {
				if got := texture.Right(blank(w, h, texels)); got != want {
					t.Errorf("Right of %d by %d with %d texels is %v", w, h, texels, got)
				}
			}
			if texture.Right(api.Tex{W: w, H: h}) {
				t.Errorf("Right of %d by %d with nil", w, h)
			}
		}
	}
}

// P11.1: sides beyond those, one at a time and both, with as many texels as they would have, and without.
func TestRightOfSides(t *testing.T) {
	beyond := []int{0, 17, 18, 32, 256, -1, -2, -16, -17, least, most, 1 << 32, -1 << 32, 1<<32 + 1, 257}
	for _, a := range beyond {
		for _, b := range append([]int{1, 2, 15, 16}, beyond...) {
			for _, side := range [][2]int{{a, b}, {b, a}} {
				texels := []int{0, 1, 2, 16, 256, 289}
				if n := a * b; n >= 0 && n < 1<<12 {
					texels = append(texels, n)
				}
				for _, n := range texels {
					if texture.Right(blank(side[0], side[1], n)) {
						t.Errorf("Right of %d by %d with %d texels", side[0], side[1], n)
					}
				}
			}
		}
	}
}

// P11.1: what may not be is not right; the colours of one that may be may be any.
func TestRightOfWrong(t *testing.T) {
	for name, x := range wrong() {
		if texture.Right(x) {
			t.Errorf("%s: Right", name)
		}
	}
	x := api.Tex{W: 2, H: 1, Px: []api.Colour{bytes(255, 255, 255, 0), {}}}
	if !texture.Right(x) {
		t.Errorf("not Right: %v", x)
	}
	long := make([]api.Colour, 6, 99)
	if !texture.Right(api.Tex{W: 2, H: 3, Px: long}) || texture.Right(api.Tex{W: 2, H: 3, Px: long[:5]}) {
		t.Error("room behind the texels counts")
	}
}

// P11.1, P11.2: of pictures that may not be no colour, wherever.
func TestOfWrongNoColour(t *testing.T) {
	for name, x := range wrong() {
		for _, a := range []int{0, 1, -1, 3, 8, 16, 24, -8, 255, asked, -asked, least, most} {
			for _, b := range []int{0, 1, -1, 8, 17, asked, least, most} {
				for _, p := range [][2]int{{a, b}, {b, a}} {
					check(t, name+": Texel", texture.Texel(x, p[0], p[1]), none)
					check(t, name+": Nearest", texture.Nearest(x, p[0], p[1]), none)
					check(t, name+": Smooth", texture.Smooth(x, p[0], p[1]), none)
				}
			}
		}
	}
}

// P11.1: by hand: row by row, and going on on all sides.
func TestTexel(t *testing.T) {
	// 1 2 3
	// 4 5 6
	x := reds(3, 1, 2, 3, 4, 5, 6)
	for _, p := range []struct{ x, y, want int }{
		{0, 0, 1}, {1, 0, 2}, {2, 0, 3}, {0, 1, 4}, {1, 1, 5}, {2, 1, 6},
		{3, 0, 1}, {4, 1, 5}, {5, 0, 3}, {6, 1, 4}, {0, 2, 1}, {1, 3, 5}, {2, 4, 3}, {3, 2, 1}, {8, 7, 6},
		{-1, 0, 3}, {-2, 0, 2}, {-3, 0, 1}, {-4, 1, 6}, {0, -1, 4}, {1, -2, 2}, {2, -3, 6}, {-1, -1, 6}, {-5, -4, 2}, {-1, 2, 3}, {3, -1, 4},
		{300, 200, 1}, {-300, -200, 1}, {-299, 201, 5}, {3 << 40, 2 << 40, 1}, {-3<<40 - 1, -2<<40 - 1, 6},
	} {
		if got := texture.Texel(x, p.x, p.y); got != red(p.want) {
			t.Errorf("Texel(%d, %d) = %v; want %d", p.x, p.y, got, p.want)
		}
	}
}

// P11.1: each place of pictures of all sides, with all four parts, and of some beside them.
func TestTexelOfAllSides(t *testing.T) {
	for w := 1; w <= 16; w++ {
		for h := 1; h <= 16; h++ {
			x := numbered(w, h)
			for i, want := range x.Px {
				column, row := i%w, i/w
				for _, k := range []int{0, 1, -1, 2, -3, 1000, -1000} {
					check(t, "Texel", texture.Texel(x, column+k*w, row), want)
					check(t, "Texel", texture.Texel(x, column, row+k*h), want)
					check(t, "Texel", texture.Texel(x, column+k*w, row-k*h), want)
				}
			}
		}
	}
}

// P11.1: far away on each side, up to the ends of all numbers.
func TestTexelFar(t *testing.T) {
	for _, side := range [][2]int{{1, 1}, {2, 3}, {3, 2}, {5, 7}, {1, 16}, {16, 1}, {13, 11}, {16, 16}, {15, 6}} {
		x := numbered(side[0], side[1])
		for _, a := range far() {
			for _, b := range far() {
				check(t, "Texel", texture.Texel(x, a, b), wantTexel(x, whole(a), whole(b)))
			}
		}
	}
}

// P11.2: by hand: in the middle, at the ends, and one 16th ahead of them; below 0 it is rounded down.
func TestNearest(t *testing.T) {
	x := reds(3, 1, 2, 3, 4, 5, 6)
	for _, p := range []struct{ u, v, want int }{
		{0, 0, 1}, {8, 8, 1}, {15, 15, 1}, {16, 0, 2}, {15, 0, 1}, {24, 0, 2}, {31, 0, 2}, {32, 0, 3}, {47, 0, 3}, {48, 0, 1},
		{0, 15, 1}, {0, 16, 4}, {0, 31, 4}, {0, 32, 1}, {31, 31, 5}, {47, 16, 6},
		{-1, 0, 3}, {-8, 0, 3}, {-15, 0, 3}, {-16, 0, 3}, {-17, 0, 2}, {-32, 0, 2}, {-33, 0, 1}, {-48, 0, 1}, {-49, 0, 3},
		{0, -1, 4}, {0, -16, 4}, {0, -17, 1}, {0, -32, 1}, {0, -33, 4}, {-1, -1, 6}, {-17, -17, 2},
	} {
		if got := texture.Nearest(x, p.u, p.v); got != red(p.want) {
			t.Errorf("Nearest(%d, %d) = %v; want %d", p.u, p.v, got, p.want)
		}
	}
}

// P11.2: all 16ths of pictures and about them; and far away.
func TestNearestOfMany(t *testing.T) {
	for _, side := range [][2]int{{1, 1}, {1, 5}, {5, 1}, {3, 2}, {4, 4}, {16, 16}, {2, 15}} {
		x := numbered(side[0], side[1])
		for u := -40; u <= 16*side[0]+40; u++ {
			for v := -40; v <= 16*side[1]+40; v++ {
				check(t, "Nearest", texture.Nearest(x, u, v), wantNearest(x, u, v))
			}
		}
		for _, u := range far() {
			for _, v := range far() {
				check(t, "Nearest", texture.Nearest(x, u, v), wantNearest(x, u, v))
			}
		}
	}
}

// P11.2: the chapter's example, whatever the row.
func TestSmoothExample(t *testing.T) {
	x := api.Tex{W: 2, H: 1, Px: []api.Colour{{}, bytes(255, 255, 255, 255)}}
	for _, v := range []int{0, 8, -1, 100} {
		check(t, "Smooth of 16", texture.Smooth(x, 16, v), bytes(128, 128, 128, 128))
	}
}

// P11.2: by hand: in the middle, halfway in a row, in a column, between four, and what is left; each row is rounded, ahead of what is between them.
func TestSmooth(t *testing.T) {
	// 0 100
	// 200 50
	x := reds(2, 0, 100, 200, 50)
	for _, p := range []struct{ u, v, want int }{
		{8, 8, 0}, {24, 8, 100}, {8, 24, 200}, {24, 24, 50},
		{16, 8, 50}, {16, 24, 125}, {8, 16, 100}, {24, 16, 75}, {16, 16, 88},
		{9, 8, 6}, {10, 8, 13}, {12, 8, 25}, {23, 8, 94}, {25, 8, 94}, {9, 24, 191}, {8, 9, 13}, {8, 23, 188}, {24, 9, 97}, {24, 23, 53},
		{9, 16, 99}, {12, 20, 129}, {22, 10, 86}, {19, 14, 80}, {21, 11, 80},
		{0, 8, 50}, {7, 8, 6}, {-1, 8, 56}, {-7, 8, 94}, {-8, 8, 100}, {-9, 8, 94}, {32, 8, 50}, {39, 8, 6}, {40, 8, 0},
		{8, 0, 100}, {8, 7, 13}, {8, -8, 200}, {8, -7, 188}, {8, 32, 100}, {8, 40, 0},
		{0, 0, 88}, {0, 32, 88}, {32, 0, 88}, {32, 32, 88}, {-8, -8, 50}, {40, 40, 0}, {-8, 40, 100}, {40, -8, 200},
	} {
		if got := texture.Smooth(x, p.u, p.v); got != red(p.want) {
			t.Errorf("Smooth(%d, %d) = %v; want %d", p.u, p.v, got, p.want)
		}
	}
}

// P11.2: the next row is the one below, and the next column that to the right: of pictures that three tell apart.
func TestSmoothGoesOn(t *testing.T) {
	row, column := reds(3, 0, 80, 240), reds(1, 0, 80, 240)
	for _, p := range []struct{ at, want int }{
		{8, 0}, {12, 20}, {16, 40}, {20, 60}, {24, 80}, {28, 120}, {32, 160}, {36, 200}, {40, 240}, {44, 180}, {48, 120}, {52, 60}, {56, 0}, {60, 20},
		{4, 60}, {0, 120}, {-4, 180}, {-8, 240}, {-12, 200}, {-16, 160}, {-24, 80}, {-32, 40}, {-40, 0}, {-44, 60},
	} {
		for _, other := range []int{8, 0, -5, 100} {
			if got := texture.Smooth(row, p.at, other); got != red(p.want) {
				t.Errorf("of a row Smooth(%d, %d) = %v; want %d", p.at, other, got, p.want)
			}
			if got := texture.Smooth(column, other, p.at); got != red(p.want) {
				t.Errorf("of a column Smooth(%d, %d) = %v; want %d", other, p.at, got, p.want)
			}
		}
	}
}

// P11.2: all that can be left, across each side, of pictures of any sides and colours, with all four parts.
func TestSmoothOfMany(t *testing.T) {
	r := rand.New(rand.NewSource(111))
	for _, side := range [][2]int{{1, 1}, {1, 2}, {2, 1}, {2, 2}, {3, 2}, {1, 7}, {7, 1}, {5, 4}, {16, 2}, {3, 16}} {
		for range 3 {
			x := chance(r, side[0], side[1])
			for u := -40; u <= 16*side[0]+40; u++ {
				for v := -40; v <= 16*side[1]+40; v++ {
					check(t, "Smooth", texture.Smooth(x, u, v), wantSmooth(x, u, v))
				}
			}
		}
	}
}

// P11.2: far away, up to as far as is asked.
func TestSmoothFar(t *testing.T) {
	r := rand.New(rand.NewSource(112))
	var places []int
	for d := range 40 {
		places = append(places, asked-d, -asked+d, 1<<32+d-20, -1<<32+d-20, 1<<31+d-20, -1<<31+d-20)
	}
	for range 40 {
		places = append(places, r.Intn(2*asked+1)-asked)
	}
	for _, side := range [][2]int{{1, 1}, {3, 5}, {2, 7}, {16, 16}, {11, 13}} {
		x := chance(r, side[0], side[1])
		for _, u := range places {
			for _, v := range places {
				check(t, "Smooth", texture.Smooth(x, u, v), wantSmooth(x, u, v))
			}
		}
	}
}

// P11.3: in each texel's middle, in the picture and beside it, both are that texel.
func TestMiddle(t *testing.T) {
	r := rand.New(rand.NewSource(113))
	for w := 1; w <= 16; w++ {
		for h := 1; h <= 16; h++ {
			x := chance(r, w, h)
			for i, want := range x.Px {
				for _, k := range []int{0, 1, -1, 1 << 20, -1 << 20} {
					u, v := 16*(i%w+k*w)+8, 16*(i/w-k*h)+8
					check(t, "Nearest in the middle", texture.Nearest(x, u, v), want)
					check(t, "Smooth in the middle", texture.Smooth(x, u, v), want)
					check(t, "Texel", texture.Texel(x, i%w+k*w, i/w-k*h), want)
				}
			}
		}
	}
}

// P11.3: a picture goes on on all sides: as far as it is wide, or high, or both, and some times so, it is the same.
func TestGoesOn(t *testing.T) {
	r := rand.New(rand.NewSource(114))
	for range 300 {
		w, h := 1+r.Intn(16), 1+r.Intn(16)
		x := chance(r, w, h)
		for range 30 {
			u, v := r.Intn(16*w), r.Intn(16*h)
			near, smooth := texture.Nearest(x, u, v), texture.Smooth(x, u, v)
			for _, k := range []int{1, -1, 2, -5, 1 << 31, -1 << 31} {
				a, b := u+16*w*k, v+16*h*k
				for _, p := range [][2]int{{a, v}, {u, b}, {a, b}} {
					check(t, "Nearest goes on", texture.Nearest(x, p[0], p[1]), near)
					check(t, "Smooth goes on", texture.Smooth(x, p[0], p[1]), smooth)
				}
			}
		}
	}
}

// P11.2: a picture of one colour has it everywhere, whichever it is, right or not; so has a picture of one texel.
func TestOneColour(t *testing.T) {
	r := rand.New(rand.NewSource(115))
	for n := range 256 {
		c := bytes(n, 255-n, (n+85)%256, (n+170)%256)
		for _, side := range [][2]int{{1, 1}, {1 + r.Intn(16), 1 + r.Intn(16)}} {
			x := api.Tex{W: side[0], H: side[1], Px: slices.Repeat([]api.Colour{c}, side[0]*side[1])}
			for u := range 32 {
				for v := range 32 {
					check(t, "Smooth of one colour", texture.Smooth(x, u-16, v-16), c)
					check(t, "Nearest of one colour", texture.Nearest(x, u-16, v-16), c)
				}
			}
			check(t, "Smooth of one colour, far", texture.Smooth(x, r.Intn(asked), -r.Intn(asked)), c)
		}
	}
}

// P11.2: each of the four parts goes its own way.
func TestSmoothOfParts(t *testing.T) {
	x := api.Tex{W: 2, H: 2, Px: []api.Colour{bytes(0, 160, 16, 255), bytes(160, 0, 48, 255), bytes(0, 0, 80, 0), bytes(160, 160, 112, 0)}}
	for _, p := range []struct {
		u, v int
		want api.Colour
	}{
		{8, 8, bytes(0, 160, 16, 255)},
		{16, 8, bytes(80, 80, 32, 255)},
		{8, 16, bytes(0, 80, 48, 128)},
		{16, 16, bytes(80, 80, 64, 128)},
		{12, 20, bytes(40, 60, 72, 64)},
	} {
		check(t, "Smooth of parts", texture.Smooth(x, p.u, p.v), p.want)
	}
}

// R7, R6: a picture that is handed in does not change, nor what is behind it in its slice; asked again, it is the same; what becomes of it is seen by the calls behind.
func TestOwn(t *testing.T) {
	r := rand.New(rand.NewSource(116))
	for range 200 {
		w, h := 1+r.Intn(16), 1+r.Intn(16)
		all := chance(r, w, h+1).Px
		x := api.Tex{W: w, H: h, Px: all[:w*h]}
		other := chance(r, h, w)
		kept := slices.Clone(all)
		u, v := r.Intn(1000)-500, r.Intn(1000)-500
		ask := func() [3]api.Colour {
			return [3]api.Colour{texture.Texel(x, u, v), texture.Nearest(x, u, v), texture.Smooth(x, u, v)}
		}
		first := ask()
		texture.Smooth(other, v, u)
		texture.Texel(api.Tex{W: w, H: h}, u, v)
		if again := ask(); again != first || !texture.Right(x) {
			t.Fatalf("first %v, then %v", first, again)
		}
		if !slices.Equal(all, kept) || x.W != w || x.H != h || len(x.Px) != w*h {
			t.Fatalf("the picture changed from %v to %v", kept, all)
		}
		for i := range x.Px {
			x.Px[i] = bytes(9, 8, 7, 6)
		}
		if got := ask(); got != [3]api.Colour{x.Px[0], x.Px[0], x.Px[0]} {
			t.Fatalf("of another picture %v", got)
		}
	}
}

// R1: numbers beyond those that are asked end too, and none panics; a picture of one colour has it there too.
func TestNoPanic(t *testing.T) {
	for _, side := range [][2]int{{1, 1}, {3, 2}, {7, 16}, {16, 16}} {
		x := blank(side[0], side[1], side[0]*side[1])
		for _, u := range far() {
			for _, v := range far() {
				check(t, "Texel", texture.Texel(x, u, v), x.Px[0])
				check(t, "Nearest", texture.Nearest(x, u, v), x.Px[0])
				check(t, "Smooth", texture.Smooth(x, u, v), x.Px[0])
			}
		}
	}
}
