package code_test

import (
	"math"
	"math/big"
	"math/rand"
	"slices"
	"testing"

	"glazier/api"
	"glazier/code"
)

const (
	least = math.MinInt
	most  = math.MaxInt
	// asked is up to which places and sizes One is asked, without their sign.
	asked = 1 << 31
	// ops is how many Ops there are.
	ops = 15
	// free is what a row says of an N that the chapter tells below.
	free = -1
)

// row is one of P12.1's table: the greatest of each register, 0 where it is not used, and N from the one to the other.
type row struct {
	name       string
	d, a, b    int
	from, upTo int
}

// table is P12.1's, a row for each Op, so that no fault of the package hides one here.
func table() [ops]row {
	const low, high = -2147483648, 2147483647
	return [ops]row{
		{"const", 7, 0, 0, low, high},
		{"mov", 7, 7, 0, 0, 0},
		{"add", 7, 7, 7, 0, 0},
		{"sub", 7, 7, 7, 0, 0},
		{"mul", 7, 7, 7, 0, 0},
		{"min", 7, 7, 7, 0, 0},
		{"max", 7, 7, 7, 0, 0},
		{"and", 7, 7, 7, 0, 0},
		{"or", 7, 7, 7, 0, 0},
		{"left", 7, 7, 0, 0, 31},
		{"right", 7, 7, 0, 0, 31},
		{"less", 7, 7, 7, 0, 0},
		{"jump", 0, 7, 0, 0, free},
		{"near", 4, 7, 7, 0, 0},
		{"smooth", 4, 7, 7, 0, 0},
	}
}

func ins(op, d, a, b, n int) api.Ins {
	return api.Ins{Op: uint8(op), D: uint8(d), A: uint8(a), B: uint8(b), N: n}
}

func whole(n int) *big.Int { return big.NewInt(int64(n)) }

// ends is where a jump goes on, without a bound.
func ends(x api.Ins, at int) *big.Int {
	sum := new(big.Int).Add(whole(at), whole(1))
	return sum.Add(sum, whole(x.N))
}

// wantOne is what P12.1 says.
func wantOne(x api.Ins, at, n int) bool {
	if at < 0 || n <= at || int(x.Op) >= ops {
		return false
	}
	r := table()[x.Op]
	if int(x.D) > r.d || int(x.A) > r.a || int(x.B) > r.b || x.N < r.from {
		return false
	}
	if r.upTo == free {
		return ends(x, at).Cmp(whole(n)) <= 0
	}
	return x.N <= r.upTo
}

// wantCheck is what P12.2 says.
func wantCheck(l []api.Ins) api.Errno {
	ok := len(l) > 0 && len(l) <= 32
	for at, x := range l {
		ok = ok && wantOne(x, at, len(l))
	}
	if ok {
		return api.OK
	}
	return api.ErrCode
}

func checkOne(t *testing.T, x api.Ins, at, n int, want bool) {
	t.Helper()
	if got := code.One(x, at, n); got != want {
		t.Fatalf("One(%+v, %d, %d) = %v", x, at, n, got)
	}
}

func checkCheck(t *testing.T, what string, l []api.Ins, want api.Errno) {
	t.Helper()
	if got := code.Check(l); got != want {
		t.Fatalf("%s: Check of %d instructions %+v = %d; want %d", what, len(l), l, got, want)
	}
}

// numbers are N at the edges of all that is said of it, and beside them.
func numbers() []int {
	l := []int{least, least + 1, most, most - 1, -2, -1, 0, 1, 2, 30, 31, 32, 33, 255, 256}
	for _, shift := range []int{8, 16, 31, 32, 33, 62} {
		for _, d := range []int{-1, 0, 1, 5} {
			l = append(l, 1<<shift+d, -(1<<shift + d))
		}
	}
	return l
}

// sides are places, and sizes of a program, up to as far as is asked, and beyond.
func sides() []int {
	return []int{0, 1, 2, 3, 31, 32, 33, -1, -2, -32, asked, asked - 1, asked - 2, -asked, -asked + 1, 1 << 32, -1 << 32, most, most - 1, least, least + 1}
}

// filler is a program of so many instructions that may be.
func filler(n int) []api.Ins {
	l := make([]api.Ins, n)
	for i := range l {
		l[i] = ins(api.OpAdd, i%8, (i+1)%8, (i+2)%8, 0)
	}
	return l
}

// with is a program with one of its instructions exchanged.
func with(l []api.Ins, at int, x api.Ins) []api.Ins {
	l = slices.Clone(l)
	l[at] = x
	return l
}

// wrong are instructions that may stand nowhere.
func wrong() map[string]api.Ins {
	return map[string]api.Ins{
		"no Op":               ins(15, 0, 0, 0, 0),
		"the greatest no Op":  ins(255, 0, 0, 0, 0),
		"const beyond":        ins(api.OpConst, 0, 0, 0, 1<<31),
		"const below":         ins(api.OpConst, 0, 0, 0, -1<<31-1),
		"const with A":        ins(api.OpConst, 0, 1, 0, 0),
		"const to 8":          ins(api.OpConst, 8, 0, 0, 0),
		"mov with B":          ins(api.OpMov, 0, 0, 1, 0),
		"mov of 8":            ins(api.OpMov, 0, 8, 0, 0),
		"add with N":          ins(api.OpAdd, 0, 0, 0, 1),
		"or of 8":             ins(api.OpOr, 0, 0, 8, 0),
		"left by 32":          ins(api.OpLeft, 0, 0, 0, 32),
		"right by less":       ins(api.OpRight, 0, 0, 0, -1),
		"less to 8":           ins(api.OpLess, 8, 0, 0, 0),
		"jump backwards":      ins(api.OpJump, 0, 0, 0, -1),
		"jump with D":         ins(api.OpJump, 1, 0, 0, 0),
		"jump with B":         ins(api.OpJump, 0, 0, 1, 0),
		"jump on 8":           ins(api.OpJump, 0, 8, 0, 0),
		"jump that goes far":  ins(api.OpJump, 0, 0, 0, 33),
		"jump of the most":    ins(api.OpJump, 0, 0, 0, most),
		"jump of the least":   ins(api.OpJump, 0, 0, 0, least),
		"near to 5":           ins(api.OpNear, 5, 0, 0, 0),
		"smooth to 5":         ins(api.OpSmooth, 5, 0, 0, 0),
		"near with N":         ins(api.OpNear, 0, 0, 0, 1),
		"smooth of 8":         ins(api.OpSmooth, 0, 8, 0, 0),
		"smooth of none, 255": ins(api.OpSmooth, 0, 0, 255, 0),
	}
}

// P12.1: each Op is the one that the Words name by that number.
func TestOps(t *testing.T) {
	for want, got := range []int{
		api.OpConst, api.OpMov, api.OpAdd, api.OpSub, api.OpMul, api.OpMin, api.OpMax, api.OpAnd, api.OpOr,
		api.OpLeft, api.OpRight, api.OpLess, api.OpJump, api.OpNear, api.OpSmooth,
	} {
		if got != want {
			t.Errorf("Op %d is %d", want, got)
		}
	}
}

// P12.1: by hand.
func TestOne(t *testing.T) {
	for i, x := range []struct {
		x     api.Ins
		at, n int
		want  bool
	}{
		{ins(api.OpConst, 0, 0, 0, 5), 0, 1, true},
		{ins(api.OpConst, 7, 0, 0, -2147483648), 0, 1, true},
		{ins(api.OpConst, 7, 0, 0, 2147483647), 0, 1, true},
		{ins(api.OpConst, 7, 0, 0, -2147483649), 0, 1, false},
		{ins(api.OpConst, 7, 0, 0, 2147483648), 0, 1, false},
		{ins(api.OpConst, 0, 0, 1, 0), 0, 1, false},
		{ins(api.OpMov, 7, 7, 0, 0), 3, 4, true},
		{ins(api.OpMov, 7, 7, 0, 1), 3, 4, false},
		{ins(api.OpMul, 7, 7, 7, 0), 3, 4, true},
		{ins(api.OpMul, 7, 7, 8, 0), 3, 4, false},
		{ins(api.OpLeft, 1, 2, 0, 31), 0, 2, true},
		{ins(api.OpLeft, 1, 2, 0, 32), 0, 2, false},
		{ins(api.OpRight, 1, 2, 0, 0), 0, 2, true},
		{ins(api.OpRight, 1, 2, 1, 0), 0, 2, false},
		{ins(api.OpLess, 1, 2, 3, 0), 1, 2, true},
		{ins(api.OpLess, 1, 2, 3, -1), 1, 2, false},
		{ins(api.OpJump, 0, 0, 0, 0), 0, 1, true},
		{ins(api.OpJump, 0, 0, 0, 1), 0, 1, false},
		{ins(api.OpJump, 0, 7, 0, 3), 0, 4, true},
		{ins(api.OpJump, 0, 7, 0, 4), 0, 4, false},
		{ins(api.OpJump, 0, 7, 0, 1), 2, 4, true},
		{ins(api.OpJump, 0, 7, 0, 2), 2, 4, false},
		{ins(api.OpJump, 0, 0, 0, -1), 2, 4, false},
		{ins(api.OpNear, 4, 7, 7, 0), 0, 1, true},
		{ins(api.OpNear, 5, 7, 7, 0), 0, 1, false},
		{ins(api.OpSmooth, 4, 7, 7, 0), 0, 1, true},
		{ins(api.OpSmooth, 5, 7, 7, 0), 0, 1, false},
		{ins(15, 0, 0, 0, 0), 0, 1, false},
		{ins(255, 0, 0, 0, 0), 0, 1, false},
		{api.Ins{}, 0, 0, false},
		{api.Ins{}, 0, -1, false},
		{api.Ins{}, -1, 1, false},
		{api.Ins{}, 1, 1, false},
		{api.Ins{}, 2, 1, false},
		{api.Ins{}, -2, -1, false},
	} {
		if got := code.One(x.x, x.at, x.n); got != x.want {
			t.Errorf("%d: One(%+v, %d, %d) = %v", i, x.x, x.at, x.n, got)
		}
	}
}

// P12.1: each register of each Op at all bytes, the others 0: an Op has those that it uses, and no others.
func TestOneOfRegisters(t *testing.T) {
	for op, r := range table() {
		for n := range 256 {
			checkOne(t, ins(op, n, 0, 0, 0), 0, 1, n <= r.d)
			checkOne(t, ins(op, 0, n, 0, 0), 0, 1, n <= r.a)
			checkOne(t, ins(op, 0, 0, n, 0), 0, 1, n <= r.b)
			checkOne(t, ins(op, r.d, n, r.b, 0), 1, 3, n <= r.a)
			checkOne(t, ins(op, n, r.a, r.b, 0), 1, 3, n <= r.d)
			checkOne(t, ins(op, r.d, r.a, n, 0), 1, 3, n <= r.b)
		}
	}
}

// P12.1: each N of each Op, from beside all that any of them may have.
func TestOneOfNumbers(t *testing.T) {
	for op, r := range table() {
		for _, n := range append(numbers(), 3, 4, 5) {
			// Four behind it: so far may a jump go.
			upTo := r.upTo
			if upTo == free {
				upTo = 4
			}
			checkOne(t, ins(op, 0, 0, 0, n), 2, 7, r.from <= n && n <= upTo)
			checkOne(t, ins(op, r.d, r.a, r.b, n), 2, 7, r.from <= n && n <= upTo)
		}
	}
}

// P12.1: what is no Op may stand nowhere, whatever it has.
func TestOneOfNoOp(t *testing.T) {
	for op := ops; op < 256; op++ {
		for _, r := range []int{0, 1, 7, 8, 255} {
			for _, n := range []int{0, 1, 31, -1, most, least} {
				for _, place := range [][2]int{{0, 1}, {0, 32}, {31, 32}, {-1, 1}, {1, 1}} {
					checkOne(t, ins(op, r, 0, 0, n), place[0], place[1], false)
					checkOne(t, ins(op, 0, r, r, n), place[0], place[1], false)
				}
			}
		}
	}
}

// P12.1: all at once, against the chapter's words.
func TestOneOfMany(t *testing.T) {
	registers := []int{0, 1, 4, 5, 7, 8, 255}
	places := [][2]int{{0, 1}, {0, 2}, {1, 4}, {3, 4}, {0, 32}, {31, 32}, {4, 4}, {-1, 4}}
	for _, op := range []int{0, 1, 2, 3, 4, 5, 6, 7, 8, 9, 10, 11, 12, 13, 14, 15, 16, 28, 29, 128, 140, 255} {
		for _, d := range registers {
			for _, a := range registers {
				for _, b := range registers {
					for _, n := range []int{least, -1<<31 - 1, -1 << 31, -1, 0, 1, 2, 3, 31, 32, 1<<31 - 1, 1 << 31, most} {
						x := ins(op, d, a, b, n)
						for _, p := range places {
							checkOne(t, x, p[0], p[1], wantOne(x, p[0], p[1]))
						}
					}
				}
			}
		}
	}
}

// P12.1: places and sizes of all kinds, of each Op: a place is from 0 on, and below n.
func TestOneOfPlaces(t *testing.T) {
	for op, r := range table() {
		for _, n := range sides() {
			for _, at := range append(sides(), n-1, n, n+1, n-2) {
				checkOne(t, ins(op, r.d, r.a, r.b, 0), at, n, at >= 0 && at < n)
				checkOne(t, ins(op, r.d, r.a, r.b, -1), at, n, at >= 0 && at < n && op == api.OpConst)
			}
		}
	}
}

// P12.1: jumps from each place of programs of all sizes: up to the end, and not by one beyond it.
func TestOneOfJumps(t *testing.T) {
	for n := 1; n <= 40; n++ {
		for at := range n {
			for k := -n - 3; k <= n+3; k++ {
				checkOne(t, ins(api.OpJump, 0, at%8, 0, k), at, n, k >= 0 && at+1+k <= n)
			}
		}
	}
	for _, n := range []int{1, 2, asked, asked - 1, 1 << 20, 1<<32 + 1, most} {
		for _, at := range []int{0, n / 2, n - 1} {
			behind := n - 1 - at
			checkOne(t, ins(api.OpJump, 0, 3, 0, behind), at, n, true)
			checkOne(t, ins(api.OpJump, 0, 3, 0, 0), at, n, true)
			checkOne(t, ins(api.OpJump, 0, 3, 0, behind+1), at, n, false)
			checkOne(t, ins(api.OpJump, 0, 3, 0, -1), at, n, false)
		}
	}
}

// P12.1: jumps of any N, at any place: no sum wraps round to one that may be.
func TestOneOfFarJumps(t *testing.T) {
	for _, n := range sides() {
		for _, at := range append(sides(), n-1, n-2) {
			for _, k := range append(numbers(), n-at-1, n-at, -at, -at-1, -at-2, most-at, least-at) {
				x := ins(api.OpJump, 0, 0, 0, k)
				checkOne(t, x, at, n, wantOne(x, at, n))
			}
		}
	}
}

// P12.1: Target of a jump, and of all else, whatever its N is.
func TestTarget(t *testing.T) {
	for _, x := range []struct{ at, n, want int }{
		{0, 0, 1}, {0, 1, 2}, {3, 4, 8}, {31, 0, 32}, {5, 31, 37}, {0, asked, asked + 1}, {asked, asked, 2*asked + 1},
		{-1, 0, 0}, {-asked, 0, -asked + 1}, {-asked, asked, 1}, {7, -1, 7}, {7, -8, 0}, {0, -asked, -asked + 1},
	} {
		for r := range 8 {
			if got := code.Target(ins(api.OpJump, 0, r, 0, x.n), x.at); got != x.want {
				t.Errorf("Target of a jump by %d at %d is %d; want %d", x.n, x.at, got, x.want)
			}
		}
	}
	for op := range 256 {
		for _, n := range append(numbers(), 4, -4) {
			for _, at := range []int{0, 1, 3, 31, 32, -1, -2, asked, -asked, asked - 1} {
				x := ins(op, 1, 2, 3, n)
				if op == api.OpJump {
					if n >= -asked && n <= asked && code.Target(x, at) != at+1+n {
						t.Fatalf("Target(%+v, %d) = %d", x, at, code.Target(x, at))
					}
				} else if got := code.Target(x, at); got != at+1 {
					t.Fatalf("Target(%+v, %d) = %d", x, at, got)
				}
			}
		}
	}
}

// P12.1: a jump that may stand somewhere has its Target behind it, and not behind the end.
func TestTargetOfOne(t *testing.T) {
	for n := 1; n <= 34; n++ {
		for at := range n {
			for k := -40; k <= 40; k++ {
				x := ins(api.OpJump, 0, 1, 0, k)
				to := code.Target(x, at)
				if code.One(x, at, n) != (to > at && to <= n) {
					t.Fatalf("One(%+v, %d, %d) = %v, and Target %d", x, at, n, code.One(x, at, n), to)
				}
			}
		}
	}
}

// P12.2: the chapter's examples.
func TestCheckExamples(t *testing.T) {
	checkCheck(t, "const to 0 of 5", []api.Ins{{Op: api.OpConst, D: 0, N: 5}}, api.OK)
	checkCheck(t, "jump on 0 by 1", []api.Ins{{Op: api.OpJump, A: 0, N: 1}}, api.ErrCode)
}

// P12.2: how many there may be, of each Op.
func TestCheckOfSizes(t *testing.T) {
	checkCheck(t, "nil", nil, api.ErrCode)
	checkCheck(t, "none", []api.Ins{}, api.ErrCode)
	checkCheck(t, "none, with room behind", make([]api.Ins, 0, 9), api.ErrCode)
	for n := 1; n <= 70; n++ {
		want := api.OK
		if n > 32 {
			want = api.ErrCode
		}
		checkCheck(t, "so many", filler(n), want)
		for op, r := range table() {
			checkCheck(t, "so many of one Op", slices.Repeat([]api.Ins{ins(op, r.d, r.a, r.b, 0)}, n), want)
		}
	}
	for _, n := range []int{256, 257, 288, 1 << 16, 1<<16 + 1} {
		checkCheck(t, "far too many", make([]api.Ins, n), api.ErrCode)
	}
	checkCheck(t, "32, with room behind", make([]api.Ins, 99)[:32], api.OK)
}

// P12.2: one that may not stand, at each place of programs of all sizes, alone and with a second one.
func TestCheckOfWrong(t *testing.T) {
	for name, x := range wrong() {
		for n := 1; n <= 33; n++ {
			for at := range n {
				l := with(filler(n), at, x)
				checkCheck(t, name, l, api.ErrCode)
				checkCheck(t, name+", twice", with(l, n-1-at, x), api.ErrCode)
			}
		}
	}
}

// P12.2: jumps are held against their own place, and the size of their own program.
func TestCheckOfJumps(t *testing.T) {
	for n := 1; n <= 32; n++ {
		for at := range n {
			for k := 0; k <= 34; k++ {
				want := api.OK
				if at+1+k > n {
					want = api.ErrCode
				}
				checkCheck(t, "a jump", with(filler(n), at, ins(api.OpJump, 0, 5, 0, k)), want)
			}
		}
	}
	l := filler(32)
	for at := range l {
		l[at] = ins(api.OpJump, 0, at%8, 0, 31-at)
	}
	checkCheck(t, "all jump to the end", l, api.OK)
	checkCheck(t, "all but the last", l[:31], api.ErrCode)
	checkCheck(t, "all but the first", l[1:], api.OK)
}

// P12.2: what is behind a jump counts, also where nothing comes there.
func TestCheckOfLeftOut(t *testing.T) {
	jump := ins(api.OpJump, 0, 0, 0, 1)
	one := ins(api.OpConst, 0, 0, 0, 1)
	checkCheck(t, "left out", []api.Ins{one, jump, {Op: 99}, one}, api.ErrCode)
	checkCheck(t, "left out, and right", []api.Ins{one, jump, one, one}, api.OK)
}

// chance is an instruction, most of them such as may stand at a place.
func chance(r *rand.Rand, at, n int) api.Ins {
	op := r.Intn(ops)
	w := table()[op]
	x := ins(op, r.Intn(w.d+1), r.Intn(w.a+1), r.Intn(w.b+1), 0)
	switch op {
	case api.OpConst:
		x.N = r.Intn(1<<32) - 1<<31
	case api.OpLeft, api.OpRight:
		x.N = r.Intn(32)
	case api.OpJump:
		x.N = r.Intn(n - at)
	}
	return x
}

// program is one of so many instructions that may be.
func program(r *rand.Rand, n int) []api.Ins {
	l := make([]api.Ins, n)
	for at := range l {
		l[at] = chance(r, at, n)
	}
	return l
}

// P12.2: programs of all Ops that may be; and with one thing changed, against the chapter's words.
func TestCheckOfMany(t *testing.T) {
	r := rand.New(rand.NewSource(121))
	for range 20000 {
		l := program(r, 1+r.Intn(32))
		checkCheck(t, "may be", l, api.OK)
		x := &l[r.Intn(len(l))]
		switch r.Intn(5) {
		case 0:
			x.Op = uint8(r.Intn(18))
		case 1:
			x.D = uint8(r.Intn(10))
		case 2:
			x.A = uint8(r.Intn(10))
		case 3:
			x.B = uint8(r.Intn(10))
		case 4:
			x.N += r.Intn(9) - 4
		}
		checkCheck(t, "changed", l, wantCheck(l))
	}
}

// P12.2: near and smooth at each place, or nowhere; alone, and beside each other.
func TestSamples(t *testing.T) {
	if code.Samples(nil) || code.Samples([]api.Ins{}) || code.Samples(make([]api.Ins, 0, 4)) {
		t.Error("of no instruction")
	}
	near, smooth := ins(api.OpNear, 4, 1, 2, 0), ins(api.OpSmooth, 0, 7, 7, 0)
	for n := 1; n <= 40; n++ {
		if code.Samples(filler(n)) {
			t.Errorf("of %d without", n)
		}
		for at := range n {
			a := with(filler(n), at, near)
			if !code.Samples(a) || !code.Samples(with(filler(n), at, smooth)) || !code.Samples(with(a, n-1-at, smooth)) {
				t.Errorf("of %d, at %d", n, at)
			}
			if code.Samples(a[:at]) || code.Samples(a[at+1:]) {
				t.Errorf("of %d, ahead of %d and behind it", n, at)
			}
		}
	}
}

// P12.2: of each Op, and of what is none, whatever else the program has: it is asked of programs that may not be, too.
func TestSamplesOfWrong(t *testing.T) {
	for op := range 256 {
		want := op == 13 || op == 14
		for _, r := range []int{0, 4, 5, 8, 255} {
			for _, n := range []int{0, 1, -1, most, least} {
				x := ins(op, r, r, r, n)
				if code.Samples([]api.Ins{x}) != want || code.Samples([]api.Ins{{Op: 99}, x, {N: most}}) != want {
					t.Fatalf("Samples of %+v is not %v", x, want)
				}
			}
		}
	}
	if !code.Samples(slices.Repeat([]api.Ins{{Op: api.OpNear}}, 33)) {
		t.Error("of too many")
	}
	// It is in the program, though nothing comes there.
	if !code.Samples([]api.Ins{{Op: api.OpConst, N: 1}, {Op: api.OpJump, N: 1}, {Op: api.OpNear}}) {
		t.Error("of one that is left out")
	}
	for name, x := range wrong() {
		if got := code.Samples([]api.Ins{x}); got != (x.Op == 13 || x.Op == 14) {
			t.Errorf("%s: Samples is %v", name, got)
		}
	}
}

// steps is how many steps a program does, if a jump is taken where told.
func steps(t *testing.T, l []api.Ins, taken func(at int) bool) int {
	t.Helper()
	n := 0
	for at := 0; at != len(l); n++ {
		// Places that are none, and steps too many, would go on for ever.
		if at < 0 || at > len(l) || n > len(l) {
			t.Fatalf("%+v: at %d behind %d steps", l, at, n)
		}
		next := at + 1
		if l[at].Op == api.OpJump && taken(at) {
			next = code.Target(l[at], at)
		}
		if next <= at || next > len(l) {
			t.Fatalf("%+v: from %d to %d", l, at, next)
		}
		at = next
	}
	return n
}

// P12.3: small programs of jumps alone, all that there are, and of each all choices of jumps that are taken.
func TestEndsOfAllJumps(t *testing.T) {
	for n := 1; n <= 5; n++ {
		l := slices.Repeat([]api.Ins{ins(api.OpJump, 0, 0, 0, -2)}, n)
		for {
			if code.Check(l) == api.OK {
				for choice := range 1 << n {
					got := steps(t, l, func(at int) bool { return choice>>at&1 == 1 })
					if got > n || choice == 0 && got != n {
						t.Fatalf("%+v: %d steps", l, got)
					}
				}
			}
			if !counted(l, -2, n+1) {
				break
			}
		}
	}
}

// counted takes the N of jumps to the next ones from the least up to the most, as a number's digits, till none is next.
func counted(l []api.Ins, least, most int) bool {
	for i := range l {
		if l[i].N < most {
			l[i].N++
			return true
		}
		l[i].N = least
	}
	return false
}

// P12.3: programs of all Ops: whichever jumps are taken they end behind as many steps as they have instructions, or fewer.
func TestEnds(t *testing.T) {
	r := rand.New(rand.NewSource(123))
	for range 5000 {
		n := 1 + r.Intn(32)
		l := program(r, n)
		for at := range l {
			if r.Intn(2) == 0 {
				l[at] = ins(api.OpJump, 0, r.Intn(8), 0, r.Intn(n-at))
			}
		}
		checkCheck(t, "may be", l, api.OK)
		if got := steps(t, l, func(int) bool { return false }); got != n {
			t.Fatalf("%+v: without jumps %d steps", l, got)
		}
		for range 5 {
			if got := steps(t, l, func(int) bool { return r.Intn(2) == 0 }); got > n {
				t.Fatalf("%+v: %d steps", l, got)
			}
		}
		if got := steps(t, l, func(int) bool { return true }); got > n {
			t.Fatalf("%+v: %d steps, with all jumps", l, got)
		}
	}
}

// P12.3: what would go backwards, or stay, or leave its program, may not be.
func TestNoneGoesBack(t *testing.T) {
	for n := 1; n <= 32; n++ {
		for at := range n {
			for to := -2; to <= n+3; to++ {
				x := ins(api.OpJump, 0, 0, 0, to-at-1)
				want := api.ErrCode
				if to > at && to <= n {
					want = api.OK
				}
				checkCheck(t, "a jump", with(filler(n), at, x), want)
			}
		}
	}
}

// R7, R6: a program that is handed in does not change, nor what is behind it in its slice; asked again, it is the same; what becomes of it is seen by the calls behind.
func TestOwn(t *testing.T) {
	r := rand.New(rand.NewSource(127))
	for range 3000 {
		n := 1 + r.Intn(40)
		all := make([]api.Ins, n+3)
		for i := range all {
			all[i] = chance(r, i, len(all))
		}
		l, kept := all[:n], slices.Clone(all)
		check, samples := code.Check(l), code.Samples(l)
		code.Check(all)
		code.Samples(all[:1])
		code.One(all[0], 5, 6)
		if code.Check(l) != check || code.Samples(l) != samples {
			t.Fatalf("%+v: not the same again", l)
		}
		if want := wantCheck(l); check != want {
			t.Fatalf("Check of %+v = %d; want %d", l, check, want)
		}
		if !slices.Equal(all, kept) || len(l) != n {
			t.Fatalf("the program changed from %+v to %+v", kept, all)
		}
		l[r.Intn(n)] = api.Ins{Op: api.OpSmooth, D: 5}
		if code.Check(l) != api.ErrCode || !code.Samples(l) {
			t.Fatalf("of a changed program %+v", l)
		}
	}
}

// R1: instructions, places and sizes of any kind end, and none panics.
func TestNoPanic(t *testing.T) {
	for op := range 256 {
		for _, k := range []int{0, 1, -1, most, least, asked, -asked} {
			for _, r := range []int{0, 7, 255} {
				x := ins(op, r, r, r, k)
				for _, at := range sides() {
					code.Target(x, at)
					for _, n := range sides() {
						checkOne(t, x, at, n, wantOne(x, at, n))
					}
				}
				code.Check([]api.Ins{x, x, x})
				code.Samples([]api.Ins{x})
			}
		}
	}
}
