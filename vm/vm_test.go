package vm_test

import (
	"math"
	"math/big"
	"math/rand"
	"slices"
	"testing"

	"glazier/api"
	"glazier/texture"
	"glazier/vm"
)

const (
	// low and high are the ends of what a register holds.
	low   = -2147483648
	high  = 2147483647
	least = math.MinInt
	most  = math.MaxInt
	// ops is how many Ops there are.
	ops = 15
)

type regs = [8]int

// some are registers that are all unlike, and of both signs.
var some = regs{11, -22, 33, -44, 55, -66, 77, -88}

func ins(op, d, a, b, n int) api.Ins {
	return api.Ins{Op: uint8(op), D: uint8(d), A: uint8(a), B: uint8(b), N: n}
}

func program(l ...api.Ins) []api.Ins { return l }

// tick is an instruction that counts in register 7, where register 6 is 1.
func tick() api.Ins { return ins(api.OpAdd, 7, 7, 6, 0) }

func ticks(n int) []api.Ins { return slices.Repeat(program(tick()), n) }

// with is a program with one of its instructions exchanged.
func with(l []api.Ins, at int, x api.Ins) []api.Ins {
	l = slices.Clone(l)
	l[at] = x
	return l
}

func bytes(n ...int) api.Colour {
	return api.Colour{R: uint8(n[0]), G: uint8(n[1]), B: uint8(n[2]), A: uint8(n[3])}
}

// picture is one of 2 by 2 texels, whose parts are all unlike.
func picture() api.Tex {
	return api.Tex{W: 2, H: 2, Px: []api.Colour{bytes(1, 2, 3, 4), bytes(50, 60, 70, 80), bytes(100, 120, 140, 160), bytes(255, 254, 253, 252)}}
}

// wrongPictures are some that may not be.
func wrongPictures() map[string]api.Tex {
	one := bytes(9, 9, 9, 9)
	return map[string]api.Tex{
		"nothing":              {},
		"no texels":            {W: 1, H: 1},
		"one texel too few":    {W: 2, H: 2, Px: slices.Repeat([]api.Colour{one}, 3)},
		"one texel too many":   {W: 2, H: 2, Px: slices.Repeat([]api.Colour{one}, 5)},
		"no width":             {W: 0, H: 1, Px: []api.Colour{one}},
		"sides below 0":        {W: -1, H: -1, Px: []api.Colour{one}},
		"too wide":             {W: 17, H: 1, Px: slices.Repeat([]api.Colour{one}, 17)},
		"sides that wrap to 0": {W: 1 << 32, H: 1 << 32},
	}
}

// wrongPrograms are some that may not be.
func wrongPrograms() map[string][]api.Ins {
	ok := ins(api.OpConst, 0, 0, 0, 5)
	return map[string][]api.Ins{
		"nil":                         nil,
		"none":                        {},
		"33":                          slices.Repeat(program(ok), 33),
		"33, near":                    slices.Repeat(program(ins(api.OpNear, 0, 0, 0, 0)), 33),
		"no Op":                       program(ins(15, 0, 0, 0, 0)),
		"the greatest no Op":          program(ins(255, 0, 0, 0, 0)),
		"const beyond":                program(ins(api.OpConst, 0, 0, 0, high+1)),
		"const below":                 program(ins(api.OpConst, 0, 0, 0, low-1)),
		"mov of 8":                    program(ins(api.OpMov, 0, 8, 0, 0)),
		"add with N":                  program(ins(api.OpAdd, 0, 0, 0, 1)),
		"left by 32":                  program(ins(api.OpLeft, 0, 0, 0, 32)),
		"right by less than 0":        program(ins(api.OpRight, 0, 0, 0, -1)),
		"jump backwards":              program(ok, ins(api.OpJump, 0, 0, 0, -1)),
		"jump beyond the end":         program(ok, ins(api.OpJump, 0, 0, 0, 1)),
		"near to 5":                   program(ins(api.OpNear, 5, 0, 0, 0)),
		"smooth of 255":               program(ins(api.OpSmooth, 0, 0, 255, 0)),
		"wrong behind what is right":  program(ok, ok, ins(15, 0, 0, 0, 0)),
		"wrong, and left out":         program(ok, ins(api.OpJump, 0, 0, 0, 1), ins(99, 0, 0, 0, 0), ok),
		"wrong ahead of what is near": program(ins(api.OpMov, 0, 0, 1, 0), ins(api.OpNear, 0, 0, 0, 0)),
		"wrong behind what is near":   program(ins(api.OpNear, 0, 0, 0, 0), ins(api.OpMov, 0, 0, 1, 0)),
	}
}

func checkRun(t *testing.T, what string, l []api.Ins, x api.Tex, r, want regs, steps int) {
	t.Helper()
	got, n, e := vm.Run(l, x, r)
	if got != want || n != steps || e != api.OK {
		t.Fatalf("%s: Run of %+v with %v: %v, %d, %d; want %v, %d", what, l, r, got, n, e, want, steps)
	}
}

// checkNoRun asks for an error alone.
func checkNoRun(t *testing.T, what string, l []api.Ins, x api.Tex, r regs, want api.Errno) {
	t.Helper()
	if got, n, e := vm.Run(l, x, r); got != (regs{}) || n != 0 || e != want {
		t.Fatalf("%s: Run of %+v: %v, %d, %d; want error %d", what, l, got, n, e, want)
	}
	c, n, e := vm.Shade(l, x, [4]int{r[0], r[1], r[2], r[3]}, r[4], r[5])
	if c != (api.Colour{}) || n != 0 || e != want {
		t.Fatalf("%s: Shade of %+v: %v, %d, %d; want error %d", what, l, c, n, e, want)
	}
}

func checkShade(t *testing.T, what string, l []api.Ins, x api.Tex, a [4]int, u, v int, want api.Colour, steps int) {
	t.Helper()
	c, n, e := vm.Shade(l, x, a, u, v)
	if c != want || n != steps || e != api.OK {
		t.Fatalf("%s: Shade of %+v with %v, %d, %d: %v, %d, %d; want %v, %d", what, l, a, u, v, c, n, e, want, steps)
	}
}

func whole(n int) *big.Int { return big.NewInt(int64(n)) }

// power is 2^n.
func power(n int) *big.Int { return new(big.Int).Exp(whole(2), whole(n), nil) }

// wantWrapped is P13.1's: modulo 2^32, and that less 2^32, from 2^31 on; of numbers of any size.
func wantWrapped(n *big.Int) int {
	rest := new(big.Int).Mod(n, power(32))
	if rest.Cmp(power(31)) >= 0 {
		rest.Sub(rest, power(32))
	}
	return int(rest.Int64())
}

// wantOf is what P13.2 says of an Op that tells one register, before it is wrapped.
func wantOf(op, a, b, n int) *big.Int {
	x, y, to := whole(a), whole(b), new(big.Int)
	switch op {
	case api.OpConst:
		return whole(n)
	case api.OpMov:
		return x
	case api.OpAdd:
		return to.Add(x, y)
	case api.OpSub:
		return to.Sub(x, y)
	case api.OpMul:
		// Of a divisor above 0 Div rounds down.
		return to.Div(to.Mul(x, y), whole(256))
	case api.OpMin:
		return whole(slices.Min([]int{a, b}))
	case api.OpMax:
		return whole(slices.Max([]int{a, b}))
	case api.OpAnd:
		return to.And(x, y)
	case api.OpOr:
		return to.Or(x, y)
	case api.OpLeft:
		return to.Mul(x, power(n))
	case api.OpRight:
		return to.Div(x, power(n))
	}
	// less.
	if x.Cmp(y) < 0 {
		return whole(1)
	}
	return whole(0)
}

// wantRun is what P13.1 and P13.2 say, one instruction after the other.
func wantRun(l []api.Ins, x api.Tex, r regs) (regs, int) {
	for i, n := range r {
		r[i] = wantWrapped(whole(n))
	}
	steps, at := 0, 0
	for at < len(l) {
		i := l[at]
		a, b := r[i.A], r[i.B]
		at, steps = at+1, steps+1
		switch i.Op {
		case api.OpJump:
			if a != 0 {
				at += i.N
			}
		case api.OpNear, api.OpSmooth:
			c := texture.Nearest(x, a, b)
			if i.Op == api.OpSmooth {
				c = texture.Smooth(x, a, b)
			}
			r[i.D], r[i.D+1], r[i.D+2], r[i.D+3] = int(c.R), int(c.G), int(c.B), int(c.A)
		default:
			r[i.D] = wantWrapped(wantOf(int(i.Op), a, b, i.N))
		}
	}
	return r, steps
}

// numbers are registers at the edges of all that is said of them, and some ordinary ones.
func numbers() []int {
	l := []int{0, 1, -1, 2, -2, 3, 7, -7, 100, -100, 12345, -98765, 0x55555555, -0x55555556}
	for _, shift := range []int{7, 8, 9, 15, 16, 23, 24, 30} {
		for _, d := range []int{-1, 0, 1} {
			l = append(l, 1<<shift+d, -(1<<shift + d))
		}
	}
	return append(l, low, low+1, low+255, low+256, high, high-1, high-255)
}

// shifts are N of left and right.
func shifts() []int { return []int{0, 1, 2, 7, 8, 15, 16, 24, 30, 31} }

// wraps are P13.1's edges, and what they are wrapped.
func wraps() map[int]int {
	return map[int]int{
		0: 0, 1: 1, -1: -1, 300: 300, -300: -300,
		low: low, low + 1: low + 1, low - 1: high, low - 2: high - 1,
		high: high, high - 1: high - 1, high + 1: low, high + 2: low + 1,
		1 << 32: 0, 1<<32 - 1: -1, 1<<32 + 1: 1, 1<<32 + 5: 5, 1<<32 - 2: -2,
		-1 << 32: 0, -1<<32 - 1: -1, -1<<32 + 1: 1, -1<<32 - 5: -5,
		3 << 31: low, 3<<31 - 1: high, -3 << 31: low, -3<<31 - 1: high,
		1 << 33: 0, 1 << 40: 0, 1<<40 + 17: 17, 1 << 62: 0, -1 << 62: 0, 1<<62 + 1<<31: low,
		most: -1, most - 1: -2, least: 0, least + 1: 1, most - 1<<31: high, least + 1<<31: low,
	}
}

// P13.2: the chapter's example.
func TestRunExample(t *testing.T) {
	checkRun(t, "mul", program(ins(api.OpMul, 0, 0, 1, 0)), api.Tex{}, regs{512, 300}, regs{600, 300}, 1)
}

// P13.1: of a program that may not be ErrCode, whatever the picture; and nothing beside.
func TestRunOfWrongProgram(t *testing.T) {
	for name, l := range wrongPrograms() {
		checkNoRun(t, name, l, picture(), some, api.ErrCode)
		checkNoRun(t, name+", with great registers", l, picture(), regs{most, least, 1 << 32}, api.ErrCode)
		for which, x := range wrongPictures() {
			checkNoRun(t, name+", and of "+which, l, x, some, api.ErrCode)
		}
	}
}

// P13.1: of a program that asks for a picture, one that is not right is told; also where what asks is left out.
func TestRunOfWrongPicture(t *testing.T) {
	one := ins(api.OpConst, 0, 0, 0, 1)
	for which, x := range wrongPictures() {
		for _, op := range []int{api.OpNear, api.OpSmooth} {
			ask := ins(op, 4, 1, 2, 0)
			for n := 1; n <= 32; n++ {
				for _, at := range []int{0, n / 2, n - 1} {
					checkNoRun(t, which, with(ticks(n), at, ask), x, some, api.ErrTex)
				}
			}
			checkNoRun(t, which+", left out", program(one, ins(api.OpJump, 0, 0, 0, 1), ask), x, some, api.ErrTex)
			checkNoRun(t, which+", left out in the middle", program(one, ins(api.OpJump, 0, 0, 0, 1), ask, one), x, some, api.ErrTex)
			checkNoRun(t, which+", left out at first", program(ins(api.OpJump, 0, 0, 0, 2), ask, ask), x, some, api.ErrTex)
		}
	}
}

// P13.1: of a program that asks for no picture any will do, and nothing comes of it.
func TestRunWithAnyPicture(t *testing.T) {
	l := program(ins(api.OpAdd, 0, 0, 1, 0), ins(api.OpLess, 3, 1, 0, 0))
	all := wrongPictures()
	all["right"] = picture()
	for which, x := range all {
		checkRun(t, which, l, x, some, regs{-11, -22, 33, 1, 55, -66, 77, -88}, 2)
		checkShade(t, which, l, x, [4]int{100, 50, 7, 9}, 0, 0, bytes(1, 0, 0, 1), 2)
	}
}

// P13.1: at first each register is wrapped, wherever it is; those that nothing tells too.
func TestWrapsAtFirst(t *testing.T) {
	for n, want := range wraps() {
		if wantWrapped(whole(n)) != want {
			t.Fatalf("the table has %d of %d", want, n)
		}
		for i := range 8 {
			from, to := some, some
			from[i], to[i] = n, want
			checkRun(t, "at first", program(ins(api.OpMov, 0, 0, 0, 0)), api.Tex{}, from, to, 1)
			checkRun(t, "at first", program(ins(api.OpMov, 7, 7, 0, 0)), api.Tex{}, from, to, 1)
			checkRun(t, "at first, and nothing told", program(ins(api.OpJump, 0, 1, 0, 0)), api.Tex{}, from, to, 1)
		}
		all := regs{n, n, n, n, n, n, n, n}
		checkRun(t, "all", program(ins(api.OpMov, 0, 1, 0, 0)), api.Tex{}, all, regs{want, want, want, want, want, want, want, want}, 1)
	}
}

// P13.1: what is reckoned with is wrapped: numbers far away, of either sign.
func TestWrapsAheadOfOps(t *testing.T) {
	r := rand.New(rand.NewSource(131))
	for range 3000 {
		var from regs
		for i := range from {
			from[i] = int(r.Uint64())
		}
		for _, op := range []int{api.OpAdd, api.OpSub, api.OpMul, api.OpMin, api.OpMax, api.OpAnd, api.OpOr, api.OpLess} {
			l := program(ins(op, r.Intn(8), r.Intn(8), r.Intn(8), 0))
			want, steps := wantRun(l, api.Tex{}, from)
			checkRun(t, "far", l, api.Tex{}, from, want, steps)
		}
		for _, op := range []int{api.OpLeft, api.OpRight} {
			l := program(ins(op, r.Intn(8), r.Intn(8), 0, r.Intn(32)))
			want, steps := wantRun(l, api.Tex{}, from)
			checkRun(t, "far", l, api.Tex{}, from, want, steps)
		}
	}
}

// P13.2: by hand, what each Op makes of A, B and N: of ordinary numbers, of both signs, and where it goes round.
func TestOps(t *testing.T) {
	for _, x := range []struct {
		op   int
		rows [][4]int // A, B, N, and what D becomes.
	}{
		{api.OpConst, [][4]int{
			{9, 9, 5, 5}, {9, 9, 0, 0}, {9, 9, -1, -1}, {9, 9, low, low}, {9, 9, high, high},
		}},
		{api.OpMov, [][4]int{
			{9, 3, 0, 9}, {-9, 3, 0, -9}, {low, 3, 0, low}, {high, 3, 0, high},
		}},
		{api.OpAdd, [][4]int{
			{2, 3, 0, 5}, {-2, 3, 0, 1}, {-2, -3, 0, -5}, {high, 1, 0, low}, {high, high, 0, -2},
			{high - 1, 1, 0, high}, {low, -1, 0, high}, {low, low, 0, 0}, {low + 1, -1, 0, low},
		}},
		{api.OpSub, [][4]int{
			{2, 3, 0, -1}, {3, 2, 0, 1}, {-3, -2, 0, -1}, {high, -1, 0, low}, {0, low, 0, low},
			{high, low, 0, -1}, {low, 1, 0, high}, {low, high, 0, 1}, {low, low, 0, 0},
		}},
		{api.OpMul, [][4]int{
			{512, 300, 0, 600}, {256, 256, 0, 256}, {12345, 0, 0, 0}, {1, 255, 0, 0}, {3, 100, 0, 1},
			{1, 511, 0, 1}, {-1, 1, 0, -1}, {1, -255, 0, -1}, {-1, 256, 0, -1}, {-1, 257, 0, -2},
			{3, -100, 0, -2}, {-512, 300, 0, -600}, {-1, -1, 0, 0}, {-3, -100, 0, 1}, {-512, -300, 0, 600},
			{high, high, 0, -16777216}, {low, low, 0, 0}, {low, high, 0, 8388608}, {high, low, 0, 8388608}, {high, 256, 0, high},
			{low, 256, 0, low}, {low, -256, 0, low}, {high, 512, 0, -2}, {1, low, 0, -8388608}, {1, high, 0, 8388607},
		}},
		{api.OpMin, [][4]int{
			{2, 3, 0, 2}, {3, 2, 0, 2}, {3, 3, 0, 3}, {-2, 1, 0, -2}, {-2, -3, 0, -3},
			{low, high, 0, low}, {high, low, 0, low},
		}},
		{api.OpMax, [][4]int{
			{2, 3, 0, 3}, {3, 2, 0, 3}, {3, 3, 0, 3}, {-2, 1, 0, 1}, {-2, -3, 0, -2},
			{low, high, 0, high}, {high, low, 0, high},
		}},
		{api.OpAnd, [][4]int{
			{12, 10, 0, 8}, {-1, 77, 0, 77}, {-2, 77, 0, 76}, {-4, -6, 0, -8}, {low, high, 0, 0},
			{low, -1, 0, low},
		}},
		{api.OpOr, [][4]int{
			{12, 10, 0, 14}, {-1, 77, 0, -1}, {-2, 77, 0, -1}, {-8, 3, 0, -5}, {-4, -6, 0, -2},
			{low, high, 0, -1}, {low, 1, 0, low + 1},
		}},
		{api.OpLeft, [][4]int{
			{5, 9, 0, 5}, {-5, 9, 0, -5}, {5, 9, 1, 10}, {-5, 9, 1, -10}, {1, 9, 30, 1 << 30},
			{1, 9, 31, low}, {-1, 9, 31, low}, {2, 9, 31, 0}, {-2, 9, 31, 0}, {3, 9, 31, low},
			{high, 9, 1, -2}, {low, 9, 1, 0}, {low + 1, 9, 1, 2}, {high, 9, 31, low}, {low, 9, 0, low},
		}},
		{api.OpRight, [][4]int{
			{5, 9, 0, 5}, {-5, 9, 0, -5}, {5, 9, 1, 2}, {-5, 9, 1, -3}, {-1, 9, 1, -1},
			{-4, 9, 1, -2}, {high, 9, 31, 0}, {low, 9, 31, -1}, {-1, 9, 31, -1}, {1, 9, 31, 0},
			{high, 9, 30, 1}, {low, 9, 30, -2}, {low, 9, 0, low},
		}},
		{api.OpLess, [][4]int{
			{2, 3, 0, 1}, {3, 2, 0, 0}, {3, 3, 0, 0}, {-3, -2, 0, 1}, {-2, -3, 0, 0},
			{-1, 0, 0, 1}, {0, -1, 0, 0}, {low, high, 0, 1}, {high, low, 0, 0}, {low, low, 0, 0},
		}},
	} {
		a, b := 3, 5
		switch x.op {
		case api.OpConst:
			a, b = 0, 0
		case api.OpMov, api.OpLeft, api.OpRight:
			b = 0
		}
		for _, r := range x.rows {
			from := regs{-1, -2, -3, r[0], -5, r[1], -7, -8}
			checkRun(t, "by hand", program(ins(x.op, 2, a, b, r[2])), api.Tex{}, from, told(from, 2, r[3]), 1)
		}
	}
}

// P13.2: all pairs of numbers at the edges, of each Op that has two.
func TestOpsOfPairs(t *testing.T) {
	for _, op := range []int{api.OpMov, api.OpAdd, api.OpSub, api.OpMul, api.OpMin, api.OpMax, api.OpAnd, api.OpOr, api.OpLess} {
		for _, a := range numbers() {
			for _, b := range numbers() {
				from := regs{a, b, 6, 7, 8, 9, 10, 11}
				to := from
				to[4] = wantWrapped(wantOf(op, a, b, 0))
				l := program(ins(op, 4, 0, 1, 0))
				if op == api.OpMov {
					l[0].B = 0
				}
				checkRun(t, "pair", l, api.Tex{}, from, to, 1)
			}
		}
	}
}

// P13.2: numbers at the edges, of each N, of const, left and right.
func TestOpsOfN(t *testing.T) {
	for _, a := range numbers() {
		checkRun(t, "const", program(ins(api.OpConst, 7, 0, 0, a)), api.Tex{}, some, regs{11, -22, 33, -44, 55, -66, 77, a}, 1)
		for n := range 32 {
			for _, op := range []int{api.OpLeft, api.OpRight} {
				to := some
				to[0], to[7] = a, wantWrapped(wantOf(op, a, 0, n))
				from := some
				from[0] = a
				checkRun(t, "shift", program(ins(op, 7, 0, 0, n)), api.Tex{}, from, to, 1)
			}
		}
	}
}

// P13.2, P13.4: all registers that can be told and asked, also where they are the same; all others stay.
func TestWhichRegisters(t *testing.T) {
	from := regs{-70000, 300, 256, -5, 90000, 17, -1, 4000}
	for d := range 8 {
		checkRun(t, "const", program(ins(api.OpConst, d, 0, 0, 99)), api.Tex{}, from, told(from, d, 99), 1)
		for a := range 8 {
			checkRun(t, "mov", program(ins(api.OpMov, d, a, 0, 0)), api.Tex{}, from, told(from, d, from[a]), 1)
			for _, n := range shifts() {
				for _, op := range []int{api.OpLeft, api.OpRight} {
					checkRun(t, "shift", program(ins(op, d, a, 0, n)), api.Tex{}, from, told(from, d, wantWrapped(wantOf(op, from[a], 0, n))), 1)
				}
			}
			for b := range 8 {
				for _, op := range []int{api.OpAdd, api.OpSub, api.OpMul, api.OpMin, api.OpMax, api.OpAnd, api.OpOr, api.OpLess} {
					checkRun(t, "of two", program(ins(op, d, a, b, 0)), api.Tex{}, from, told(from, d, wantWrapped(wantOf(op, from[a], from[b], 0))), 1)
				}
			}
		}
	}
}

// told are registers with some of them exchanged, from D on.
func told(r regs, d int, l ...int) regs {
	copy(r[d:], l)
	return r
}

// P13.2: by hand: D is A, or B, or both.
func TestSameRegisters(t *testing.T) {
	from := regs{600, 512, -3}
	for _, x := range []struct {
		i    api.Ins
		want int
	}{
		{ins(api.OpSub, 0, 0, 1, 0), 88}, {ins(api.OpSub, 0, 1, 0, 0), -88}, {ins(api.OpSub, 0, 0, 0, 0), 0},
		{ins(api.OpAdd, 0, 0, 0, 0), 1200}, {ins(api.OpMul, 0, 0, 0, 0), 1406}, {ins(api.OpMul, 0, 1, 0, 0), 1200},
		{ins(api.OpMin, 0, 0, 0, 0), 600}, {ins(api.OpMax, 0, 1, 0, 0), 600}, {ins(api.OpAnd, 0, 0, 0, 0), 600}, {ins(api.OpOr, 0, 0, 1, 0), 600},
		{ins(api.OpLess, 0, 0, 0, 0), 0}, {ins(api.OpLess, 0, 1, 0, 0), 1}, {ins(api.OpLess, 0, 0, 1, 0), 0},
		{ins(api.OpMov, 0, 0, 0, 0), 600}, {ins(api.OpLeft, 0, 0, 0, 2), 2400}, {ins(api.OpRight, 0, 0, 0, 3), 75},
	} {
		checkRun(t, "the same", program(x.i), api.Tex{}, from, regs{x.want, 512, -3}, 1)
	}
}

// P13.2: a jump goes on at its Target just where its register is not 0, also one that was wrapped to 0; it tells no register.
func TestJumpOn(t *testing.T) {
	for _, x := range []struct {
		n     int
		taken bool
	}{
		{0, false}, {1, true}, {-1, true}, {2, true}, {-2, true}, {256, true}, {1 << 16, true}, {low, true}, {high, true},
		{1 << 32, false}, {-1 << 32, false}, {1 << 40, false}, {least, false}, {most, true}, {1 << 31, true}, {1<<32 + 1, true}, {1<<32 - 1, true}, {3 << 32, false},
	} {
		for a := range 8 {
			// Where it is taken, what it jumps over is not done.
			l := program(ins(api.OpJump, 0, a, 0, 1), ins(api.OpConst, (a+1)%8, 0, 0, 1000), ins(api.OpConst, (a+2)%8, 0, 0, 2000))
			from, steps := some, 3
			from[a] = x.n
			to := from
			to[a] = wantWrapped(whole(x.n))
			to[(a+2)%8] = 2000
			if x.taken {
				steps = 2
			} else {
				to[(a+1)%8] = 1000
			}
			checkRun(t, "a jump", l, api.Tex{}, from, to, steps)
		}
	}
}

// P13.2: a jump asks what is in its register by then.
func TestJumpOnWhatWasMade(t *testing.T) {
	jump, mark := ins(api.OpJump, 0, 0, 0, 1), ins(api.OpConst, 1, 0, 0, 9)
	for _, x := range []struct {
		what  string
		ahead api.Ins
		first int
		taken bool
	}{
		{"made 0", ins(api.OpConst, 0, 0, 0, 0), 5, false},
		{"made 1", ins(api.OpConst, 0, 0, 0, 1), 0, true},
		{"made below 0", ins(api.OpConst, 0, 0, 0, -1), 0, true},
		{"wrapped to 0 by left", ins(api.OpLeft, 0, 0, 0, 31), 2, false},
		{"wrapped by left", ins(api.OpLeft, 0, 0, 0, 31), 1, true},
		{"wrapped to 0 by add", ins(api.OpAdd, 0, 0, 0, 0), low, false},
		{"wrapped by add", ins(api.OpAdd, 0, 0, 0, 0), high, true},
		{"wrapped to 0 by mul", ins(api.OpMul, 0, 0, 0, 0), 1 << 20, false},
		{"rounded down to -1 by mul", ins(api.OpMul, 0, 0, 2, 0), -1, true},
		{"rounded down to 0", ins(api.OpRight, 0, 0, 0, 1), 1, false},
		{"rounded down to -1", ins(api.OpRight, 0, 0, 0, 31), -1, true},
		{"less", ins(api.OpLess, 0, 0, 2, 0), 0, true},
		{"not less", ins(api.OpLess, 0, 0, 2, 0), 1, false},
	} {
		got, n, e := vm.Run(program(x.ahead, jump, mark), api.Tex{}, regs{x.first, 4, 1})
		marked, steps := 9, 3
		if x.taken {
			marked, steps = 4, 2
		}
		if got[1] != marked || n != steps || e != api.OK {
			t.Errorf("%s: %v, %d steps, %d", x.what, got, n, e)
		}
	}
}

// P13.1, P13.2: programs of all sizes with a jump at each place, of each N: what is behind it, what is left out, and how many steps.
func TestJumpOver(t *testing.T) {
	for n := 1; n <= 32; n++ {
		for at := range n {
			for over := 0; at+1+over <= n; over++ {
				l := with(ticks(n), at, ins(api.OpJump, 0, 5, 0, over))
				taken, not := regs{0, 0, 0, 0, 0, -3, 1, 100}, regs{0, 0, 0, 0, 0, 0, 1, 100}
				checkRun(t, "taken", l, api.Tex{}, taken, told(taken, 7, 100+n-1-over), n-over)
				checkRun(t, "not taken", l, api.Tex{}, not, told(not, 7, 100+n-1), n)
			}
		}
	}
}

// P13.2: jumps over jumps, into jumps, and on jumps that come one behind the other.
func TestJumpsOfSome(t *testing.T) {
	jump := func(a, n int) api.Ins { return ins(api.OpJump, 0, a, 0, n) }
	for _, x := range []struct {
		what        string
		l           []api.Ins
		ticks, done int
	}{
		{"by 0 alone", program(jump(0, 0)), 0, 1},
		{"by 0, not taken", program(jump(1, 0)), 0, 1},
		{"by 0 goes on with the next one", program(jump(0, 0), tick()), 1, 2},
		{"to the end", program(jump(0, 3), tick(), tick(), tick()), 0, 1},
		{"to the last one", program(jump(0, 2), tick(), tick(), tick()), 1, 2},
		{"into a jump", program(jump(0, 1), tick(), jump(0, 1), tick(), tick()), 1, 3},
		{"into a jump that is not taken", program(jump(0, 1), tick(), jump(1, 1), tick(), tick()), 2, 4},
		{"over a jump", program(tick(), jump(0, 1), jump(0, 1), tick(), tick()), 3, 4},
		{"one behind the other", program(jump(0, 0), jump(0, 0), jump(0, 0), tick()), 1, 4},
		{"none taken", program(jump(1, 4), jump(1, 3), jump(1, 2), jump(1, 1), tick()), 1, 5},
		{"at last", program(tick(), tick(), jump(0, 0)), 2, 3},
	} {
		from := regs{1, 0, 0, 0, 0, 0, 1, 50}
		checkRun(t, x.what, x.l, api.Tex{}, from, told(from, 7, 50+x.ticks), x.done)
	}
}

// P13.2: near, by hand: where it asks, what it tells, and what stays.
func TestNear(t *testing.T) {
	for _, x := range []struct {
		u, v int
		want [4]int
	}{
		{0, 0, [4]int{1, 2, 3, 4}}, {15, 15, [4]int{1, 2, 3, 4}}, {16, 0, [4]int{50, 60, 70, 80}}, {0, 16, [4]int{100, 120, 140, 160}}, {31, 31, [4]int{255, 254, 253, 252}},
		{-1, 0, [4]int{50, 60, 70, 80}}, {0, -1, [4]int{100, 120, 140, 160}}, {-1, -16, [4]int{255, 254, 253, 252}}, {-17, -17, [4]int{1, 2, 3, 4}},
		{high, 0, [4]int{50, 60, 70, 80}}, {0, high, [4]int{100, 120, 140, 160}}, {low, low, [4]int{1, 2, 3, 4}}, {low, high, [4]int{100, 120, 140, 160}}, {high, low, [4]int{50, 60, 70, 80}}, {low + 16, high, [4]int{255, 254, 253, 252}},
		{1<<32 + 16, -1<<32 + 16, [4]int{255, 254, 253, 252}},
	} {
		from := regs{-1, -2, -3, -4, -5, -6, x.u, x.v}
		at := regs{-1, -2, -3, -4, -5, -6, wantWrapped(whole(x.u)), wantWrapped(whole(x.v))}
		checkRun(t, "to 0", program(ins(api.OpNear, 0, 6, 7, 0)), picture(), from, told(at, 0, x.want[:]...), 1)
		checkRun(t, "to 2", program(ins(api.OpNear, 2, 6, 7, 0)), picture(), from, told(at, 2, x.want[:]...), 1)
		checkRun(t, "to 4, over what it asks of", program(ins(api.OpNear, 4, 6, 7, 0)), picture(), from, told(at, 4, x.want[:]...), 1)
	}
}

// P13.2: smooth, by hand.
func TestSmooth(t *testing.T) {
	x := api.Tex{W: 2, H: 1, Px: []api.Colour{bytes(0, 200, 16, 255), bytes(160, 40, 80, 0)}}
	for _, p := range []struct {
		u, v int
		want [4]int
	}{
		{8, 8, [4]int{0, 200, 16, 255}}, {24, 8, [4]int{160, 40, 80, 0}}, {16, 8, [4]int{80, 120, 48, 128}}, {12, 8, [4]int{40, 160, 32, 191}},
		{0, 0, [4]int{80, 120, 48, 128}}, {-8, -100, [4]int{160, 40, 80, 0}}, {-4, 3, [4]int{120, 80, 64, 64}}, {40, 0, [4]int{0, 200, 16, 255}},
		{low, low, [4]int{80, 120, 48, 128}}, {low + 8, high, [4]int{0, 200, 16, 255}}, {high, low, [4]int{90, 110, 52, 112}},
	} {
		from := regs{-1, -2, p.u, -4, p.v, -6, -7, -8}
		checkRun(t, "to 0, over what it asks of", program(ins(api.OpSmooth, 0, 2, 4, 0)), x, from, told(from, 0, p.want[:]...), 1)
		checkRun(t, "to 4, over what it asks of", program(ins(api.OpSmooth, 4, 2, 4, 0)), x, from, told(from, 4, p.want[:]...), 1)
	}
	// What is smooth is not near: a sixteenth beside the middle it is another colour.
	from := regs{9, 8}
	checkRun(t, "near", program(ins(api.OpNear, 4, 0, 1, 0)), x, from, told(from, 4, 0, 200, 16, 255), 1)
	checkRun(t, "smooth", program(ins(api.OpSmooth, 4, 0, 1, 0)), x, from, told(from, 4, 10, 190, 20, 239), 1)
}

// P13.2: near and smooth to each D, of all registers, also those among the four that are told: both are asked ahead.
func TestSamplesOfAllRegisters(t *testing.T) {
	from := regs{0, 21, -9, 16, 300, -47, low, high}
	x := picture()
	for d := range 5 {
		for a := range 8 {
			for b := range 8 {
				near, smooth := texture.Nearest(x, from[a], from[b]), texture.Smooth(x, from[a], from[b])
				checkRun(t, "near", program(ins(api.OpNear, d, a, b, 0)), x, from, painted(from, d, near), 1)
				checkRun(t, "smooth", program(ins(api.OpSmooth, d, a, b, 0)), x, from, painted(from, d, smooth), 1)
			}
		}
	}
}

// painted are registers with a colour's parts from D on.
func painted(r regs, d int, c api.Colour) regs {
	return told(r, d, int(c.R), int(c.G), int(c.B), int(c.A))
}

// P13.2: near and smooth at places of both signs, up to the ends of 32 bits, of pictures of several sides.
func TestSamplesOfPlaces(t *testing.T) {
	for _, side := range [][2]int{{1, 1}, {2, 2}, {3, 5}, {16, 16}, {7, 1}} {
		x := api.Tex{W: side[0], H: side[1]}
		for i := range side[0] * side[1] {
			x.Px = append(x.Px, bytes(i, 255-i, i/2, 200-i/3))
		}
		for _, u := range numbers() {
			for _, v := range numbers() {
				from := regs{1, u, 2, v, 3, 4, 5, 6}
				near, smooth := texture.Nearest(x, u, v), texture.Smooth(x, u, v)
				checkRun(t, "near", program(ins(api.OpNear, 4, 1, 3, 0)), x, from, painted(from, 4, near), 1)
				checkRun(t, "smooth", program(ins(api.OpSmooth, 4, 1, 3, 0)), x, from, painted(from, 4, smooth), 1)
			}
		}
	}
}

// P13.1: one is done behind the other, each with what those ahead of it made.
func TestRunInOrder(t *testing.T) {
	l := program(
		ins(api.OpConst, 0, 0, 0, 3), ins(api.OpLeft, 1, 0, 0, 4), ins(api.OpAdd, 0, 0, 1, 0), ins(api.OpSub, 2, 0, 1, 0),
		ins(api.OpMov, 3, 2, 0, 0), ins(api.OpConst, 2, 0, 0, -8), ins(api.OpMul, 4, 1, 2, 0), ins(api.OpLess, 5, 4, 3, 0),
	)
	// 3, 48, 51, 3, 3, -8, -384 by 256 is -1.5, which is -2 rounded down, 1.
	checkRun(t, "in order", l, api.Tex{}, regs{9, 9, 9, 9, 9, 9, 9, 9}, regs{51, 48, -8, 3, -2, 1, 9, 9}, 8)
}

// P13.1, P13.4: without jumps all are done, of programs of all sizes, and no more.
func TestSteps(t *testing.T) {
	for n := 1; n <= 32; n++ {
		from := regs{6: 1, 7: -10}
		checkRun(t, "ticks", ticks(n), api.Tex{}, from, told(from, 7, n-10), n)
		checkShade(t, "ticks", ticks(n), api.Tex{}, [4]int{0, 0, 0, 255}, 0, 0, bytes(0, 0, 0, 255), n)
		l := slices.Repeat(program(ins(api.OpNear, 0, 4, 5, 0)), n)
		checkRun(t, "near", l, picture(), regs{}, regs{1, 2, 3, 4}, n)
		for op := range ops {
			l := slices.Repeat(program(ins(op, 0, 0, 0, 0)), n)
			if _, got, e := vm.Run(l, picture(), some); got != n || e != api.OK {
				t.Errorf("%d of Op %d: %d steps, %d", n, op, got, e)
			}
		}
	}
}

// P13.4: what comes of jumps that are taken at any choice: no more steps than instructions, and no register but those told.
func TestStepsOfJumps(t *testing.T) {
	r := rand.New(rand.NewSource(134))
	for range 3000 {
		n := 1 + r.Intn(32)
		l := ticks(n)
		for at := range l {
			if r.Intn(2) == 0 {
				l[at] = ins(api.OpJump, 0, r.Intn(6), 0, r.Intn(min(n-at, 1+r.Intn(32))))
			}
		}
		from := regs{r.Intn(2), r.Intn(2) - 1, r.Intn(2) << 31, r.Intn(2) << 32, r.Intn(2), r.Intn(2), 1, 0}
		got, steps, e := vm.Run(l, api.Tex{}, from)
		want, counted := wantRun(l, api.Tex{}, from)
		if e != api.OK || steps > n || steps != counted || got != want {
			t.Fatalf("Run of %+v with %v: %v, %d, %d; want %v, %d", l, from, got, steps, e, want, counted)
		}
	}
}

// chance is a program of all Ops that may be, with as many jumps as others or fewer.
func chance(r *rand.Rand, n int) []api.Ins {
	l := make([]api.Ins, n)
	for at := range l {
		op, d, a, b := r.Intn(ops), r.Intn(8), r.Intn(8), r.Intn(8)
		switch op {
		case api.OpConst:
			l[at] = ins(op, d, 0, 0, r.Intn(1<<32)>>r.Intn(32)+low>>r.Intn(32))
		case api.OpMov:
			l[at] = ins(op, d, a, 0, 0)
		case api.OpLeft, api.OpRight:
			l[at] = ins(op, d, a, 0, r.Intn(32))
		case api.OpJump:
			l[at] = ins(op, 0, a, 0, r.Intn(min(n-at, 4)))
		case api.OpNear, api.OpSmooth:
			l[at] = ins(op, r.Intn(5), a, b, 0)
		default:
			l[at] = ins(op, d, a, b, 0)
		}
		l[at].N = min(l[at].N, high)
	}
	return l
}

// anywhere are registers of any size and sign.
func anywhere(r *rand.Rand) regs {
	var l regs
	for i := range l {
		l[i] = int(r.Uint64()) >> r.Intn(64)
	}
	return l
}

// P13.1, P13.2: programs of all Ops, against the chapter's words.
func TestRunOfMany(t *testing.T) {
	r := rand.New(rand.NewSource(132))
	for range 10000 {
		l, from := chance(r, 1+r.Intn(32)), anywhere(r)
		want, steps := wantRun(l, picture(), from)
		checkRun(t, "many", l, picture(), from, want, steps)
	}
}

// P13.1, P13.4: a program behind another one goes on with what that made: both are as one of both.
func TestBehindAnother(t *testing.T) {
	r := rand.New(rand.NewSource(133))
	for range 3000 {
		first, second := chance(r, 1+r.Intn(16)), chance(r, 1+r.Intn(16))
		from := anywhere(r)
		between, n, e := vm.Run(first, picture(), from)
		if e != api.OK {
			t.Fatalf("%+v: %d", first, e)
		}
		want, m, e := vm.Run(second, picture(), between)
		if e != api.OK {
			t.Fatalf("%+v: %d", second, e)
		}
		checkRun(t, "both", slices.Concat(first, second), picture(), from, want, n+m)
	}
}

// P13.4: registers that no instruction tells stay, but that they are wrapped.
func TestOthersStay(t *testing.T) {
	r := rand.New(rand.NewSource(135))
	for range 5000 {
		l, from := chance(r, 1+r.Intn(3)), anywhere(r)
		var may [8]bool
		for _, x := range l {
			switch x.Op {
			case api.OpJump:
			case api.OpNear, api.OpSmooth:
				may[x.D], may[x.D+1], may[x.D+2], may[x.D+3] = true, true, true, true
			default:
				may[x.D] = true
			}
		}
		got, n, e := vm.Run(l, picture(), from)
		if n > len(l) || e != api.OK {
			t.Fatalf("%+v: %d steps, %d", l, n, e)
		}
		for i := range got {
			if !may[i] && got[i] != wantWrapped(whole(from[i])) {
				t.Fatalf("%+v: register %d was %d, and is %d", l, i, from[i], got[i])
			}
			if got[i] < low || got[i] > high {
				t.Fatalf("%+v: register %d is %d", l, i, got[i])
			}
		}
	}
}

// seen is a program that makes a byte of a register R, and all else 0, but A.
func seen(register, place int) []api.Ins {
	return program(
		ins(api.OpRight, 0, register, 0, 8*place), ins(api.OpConst, 1, 0, 0, 255), ins(api.OpAnd, 0, 0, 1, 0),
		ins(api.OpMov, 3, 1, 0, 0), ins(api.OpConst, 1, 0, 0, 0), ins(api.OpConst, 2, 0, 0, 0),
	)
}

// P13.3: the registers at first: a, x, y, 0 and 0, each wrapped; byte by byte.
func TestShadeRegisters(t *testing.T) {
	l := [6]int{}
	try := func() {
		t.Helper()
		for i := range 8 {
			want := uint32(0)
			if i < len(l) {
				want = uint32(wantWrapped(whole(l[i])))
			}
			for place := range 4 {
				checkShade(t, "a register", seen(i, place), api.Tex{}, [4]int(l[:4]), l[4], l[5], bytes(int(want>>(8*place)&255), 0, 0, 255), 6)
			}
		}
	}
	try()
	for i := range l {
		for n := range wraps() {
			l = [6]int{1000001, -2000002, 3000003, -4000004, 5000005, -6000006}
			l[i] = n
			try()
		}
	}
}

// P13.3: each part is its own register, wrapped, and held within 0 and 255 ahead of the premultiplying.
func TestShadeHeld(t *testing.T) {
	l := program(ins(api.OpMov, 7, 7, 0, 0))
	for n, want := range map[int]int{
		0: 0, 1: 1, 128: 128, 254: 254, 255: 255, 256: 255, 257: 255, 300: 255, 511: 255, 512: 255, 1 << 16: 255, high: 255,
		-1: 0, -2: 0, -128: 0, -255: 0, -256: 0, -257: 0, low: 0,
		high + 1: 0, low - 1: 255, 1 << 32: 0, 1<<32 + 77: 77, 1<<32 - 1: 0, -1<<32 + 300: 255, most: 0, least: 0, least + 5: 5,
	} {
		checkShade(t, "R", l, api.Tex{}, [4]int{n, 0, 0, 255}, 0, 0, bytes(want, 0, 0, 255), 1)
		checkShade(t, "G", l, api.Tex{}, [4]int{0, n, 0, 255}, 0, 0, bytes(0, want, 0, 255), 1)
		checkShade(t, "B", l, api.Tex{}, [4]int{0, 0, n, 255}, 0, 0, bytes(0, 0, want, 255), 1)
		checkShade(t, "A", l, api.Tex{}, [4]int{255, 0, 0, n}, 0, 0, bytes(want, 0, 0, want), 1)
		checkShade(t, "A, of parts beyond", l, api.Tex{}, [4]int{-1, 256, high, n}, 0, 0, bytes(0, want, want, want), 1)
		checkShade(t, "all", l, api.Tex{}, [4]int{n, n, n, n}, n, n, bytes(nearest(want*want), nearest(want*want), nearest(want*want), want), 1)
	}
	checkShade(t, "held ahead", l, api.Tex{}, [4]int{300, 510, -300, 128}, 0, 0, bytes(128, 128, 0, 128), 1)
	checkShade(t, "below 0 both", l, api.Tex{}, [4]int{-10, -20, -30, -40}, 0, 0, bytes(0, 0, 0, 0), 1)
}

// nearest is the number of which 255 times is nearest to n: told apart from package colour, so that no fault of that hides one here.
func nearest(n int) int { return (2*n + 255) / 510 }

// P13.3: premultiplied: all parts with all A.
func TestShadePre(t *testing.T) {
	l := program(ins(api.OpAdd, 0, 0, 4, 0))
	for a := range 256 {
		for p := range 256 {
			want := bytes(nearest(p*a), nearest((255-p)*a), nearest(p/2*a), a)
			checkShade(t, "premultiplied", l, api.Tex{}, [4]int{p - 9, 255 - p, p / 2, a}, 9, 0, want, 1)
		}
	}
	checkShade(t, "A of 0", l, api.Tex{}, [4]int{255, 200, 1, 0}, 0, 0, api.Colour{}, 1)
	checkShade(t, "A of 255", l, api.Tex{}, [4]int{255, 200, 1, 255}, 0, 0, bytes(255, 200, 1, 255), 1)
	checkShade(t, "A between", l, api.Tex{}, [4]int{255, 200, 1, 128}, 0, 0, bytes(128, 100, 1, 128), 1)
}

// P13.3: registers from 4 on are no part of the colour; what the program makes of them is.
func TestShadeOthers(t *testing.T) {
	a := [4]int{200, 100, 50, 255}
	for i := 4; i < 8; i++ {
		checkShade(t, "no part", program(ins(api.OpConst, i, 0, 0, 77)), api.Tex{}, a, 5, 6, bytes(200, 100, 50, 255), 1)
	}
	checkShade(t, "x and y", program(ins(api.OpMov, 0, 4, 0, 0), ins(api.OpMov, 1, 5, 0, 0)), api.Tex{}, a, 33, 44, bytes(33, 44, 50, 255), 2)
	checkShade(t, "6 and 7", program(ins(api.OpMov, 0, 6, 0, 0), ins(api.OpMov, 1, 7, 0, 0)), api.Tex{}, a, 33, 44, bytes(0, 0, 50, 255), 2)
	checkShade(t, "a jump on x", program(ins(api.OpJump, 0, 4, 0, 1), ins(api.OpConst, 0, 0, 0, 9)), api.Tex{}, a, 1<<32, 0, bytes(9, 100, 50, 255), 2)
	checkShade(t, "a jump on x", program(ins(api.OpJump, 0, 4, 0, 1), ins(api.OpConst, 0, 0, 0, 9)), api.Tex{}, a, 1, 0, bytes(200, 100, 50, 255), 1)
	checkShade(t, "near", program(ins(api.OpNear, 0, 4, 5, 0)), picture(), a, 16, 16, bytes(252, 251, 250, 252), 1)
	checkShade(t, "smooth", program(ins(api.OpSmooth, 0, 4, 5, 0), ins(api.OpConst, 3, 0, 0, 255)), picture(), a, 8, 24, bytes(100, 120, 140, 255), 2)
}

// P13.3: Shade is Run, held and premultiplied.
func TestShadeOfMany(t *testing.T) {
	r := rand.New(rand.NewSource(136))
	for range 10000 {
		l, from := chance(r, 1+r.Intn(32)), anywhere(r)
		from[6], from[7] = 0, 0
		got, steps := wantRun(l, picture(), from)
		part := func(i int) int { return min(max(got[i], 0), 255) }
		want := bytes(nearest(part(0)*part(3)), nearest(part(1)*part(3)), nearest(part(2)*part(3)), part(3))
		checkShade(t, "many", l, picture(), [4]int(from[:4]), from[4], from[5], want, steps)
	}
}

// R7, R6: a program and a picture that are handed in do not change, nor what is behind them in their slices, nor the caller's registers; asked again, it is the same; what becomes of them is seen by the calls behind.
func TestOwn(t *testing.T) {
	r := rand.New(rand.NewSource(137))
	for range 2000 {
		n := 1 + r.Intn(29)
		all := append(chance(r, n), ins(api.OpConst, 1, 0, 0, 5), ins(99, 9, 9, 9, 9))
		x := picture()
		texels := append(x.Px, bytes(9, 9, 9, 9))
		x.Px = texels[:4]
		l, from := all[:n], anywhere(r)
		a := [4]int(from[:4])
		keptIns, keptPx, keptRegs := slices.Clone(all), slices.Clone(texels), from
		first, steps, _ := vm.Run(l, x, from)
		colour, _, _ := vm.Shade(l, x, a, from[4], from[5])
		want := first
		first[3]++
		vm.Run(all, x, some)
		vm.Run(all[:n+1], x, some)
		vm.Shade(all[:1], api.Tex{}, a, 1, 2)
		checkRun(t, "again", l, x, from, want, steps)
		checkShade(t, "again", l, x, a, from[4], from[5], colour, stepsOf(l, x, from))
		if !slices.Equal(all, keptIns) || !slices.Equal(texels, keptPx) || from != keptRegs || x.W != 2 || x.H != 2 {
			t.Fatalf("changed: %+v to %+v, %v to %v, %v to %v", keptIns, all, keptPx, texels, keptRegs, from)
		}
		l[0] = ins(api.OpConst, 0, 8, 0, 0)
		checkNoRun(t, "changed", l, x, from, api.ErrCode)
		x.Px[0] = bytes(31, 32, 33, 34)
		checkRun(t, "another picture", program(ins(api.OpNear, 4, 0, 0, 0)), x, regs{}, regs{4: 31, 5: 32, 6: 33, 7: 34}, 1)
	}
}

// stepsOf is how many steps a program does in Shade, whose last two registers are 0.
func stepsOf(l []api.Ins, x api.Tex, r regs) int {
	r[6], r[7] = 0, 0
	_, n := wantRun(l, x, r)
	return n
}

// R1, R2: programs, pictures and registers of any kind end, none panics, and beside an error there is nothing.
func TestNoPanic(t *testing.T) {
	r := rand.New(rand.NewSource(138))
	pictures := []api.Tex{picture()}
	for _, x := range wrongPictures() {
		pictures = append(pictures, x)
	}
	far := []int{least, least + 1, most, most - 1, low, high, -1, 0, 1, 1 << 32}
	for range 20000 {
		l := chance(r, 1+r.Intn(33))
		x := &l[r.Intn(len(l))]
		switch r.Intn(5) {
		case 0:
			x.Op = uint8(r.Intn(256))
		case 1:
			x.D = uint8(r.Intn(256))
		case 2:
			x.A, x.B = uint8(r.Intn(10)), uint8(r.Intn(256))
		case 3:
			x.N = far[r.Intn(len(far))]
		}
		from := anywhere(r)
		from[r.Intn(8)] = far[r.Intn(len(far))]
		for _, p := range pictures {
			got, n, e := vm.Run(l, p, from)
			if e != api.OK && (got != regs{} || n != 0) || e != api.OK && e != api.ErrCode && e != api.ErrTex || n > len(l) {
				t.Fatalf("Run of %+v: %v, %d, %d", l, got, n, e)
			}
			c, m, again := vm.Shade(l, p, [4]int(from[:4]), from[4], from[5])
			if again != e || e != api.OK && (c != api.Colour{} || m != 0) || m > len(l) || max(c.R, c.G, c.B) > c.A {
				t.Fatalf("Shade of %+v: %v, %d, %d", l, c, m, again)
			}
		}
	}
	for n := range 300 {
		vm.Run(make([]api.Ins, n), api.Tex{}, some)
		vm.Shade(slices.Repeat(program(ins(api.OpSmooth, 0, 0, 0, 0)), n), picture(), [4]int{}, most, least)
	}
}
