package codec_test

import (
	"bytes"
	"math"
	"math/rand"
	"reflect"
	"slices"
	"testing"

	"glazier/api"
	"glazier/codec"
	"glazier/scene"
)

const (
	least = math.MinInt
	most  = math.MaxInt
)

// edges are numbers whose bytes change in length or in sign beside them.
var edges = []int{0, 1, 62, 63, 64, 65, 127, 128, 255, 256, 8191, 8192, -1, -2, -63, -64, -65, -66, -128, -8192, -8193, 1 << 32, -1 << 32, 1<<62 - 1, 1 << 62, most - 1, most, least, least + 1}

// said is numbers as bytes, spelt out apart from the program's own way.
func said(l ...int) []byte {
	var b []byte
	for _, n := range l {
		u := uint64(n) << 1
		if n < 0 {
			u = ^u
		}
		for ; u >= 128; u /= 128 {
			b = append(b, byte(u%128)|128)
		}
		b = append(b, byte(u))
	}
	return b
}

// heard is the numbers that bytes are; false, if they are none.
func heard(b []byte) ([]int, bool) {
	var l []int
	for from, i := 0, 0; from < len(b); from = i {
		var u uint64
		for i = from; i < len(b) && b[i] >= 128; i++ {
			u |= uint64(b[i]-128) << (7 * (i - from))
		}
		if i == len(b) {
			return nil, false
		}
		u |= uint64(b[i]) << (7 * (i - from))
		n := int(u >> 1)
		if u%2 == 1 {
			n = ^n
		}
		i++
		if !bytes.Equal(said(n), b[from:i]) {
			return nil, false
		}
		l = append(l, n)
	}
	return l, true
}

// The kinds of places at which numbers stand.
const (
	whole = "a whole number"
	small = "a byte"
	sign  = "a sign"
	count = "a count"
)

// spelt is the numbers that a thing is, and what stands at each of their places: read of its fields, whose order is the chapter's.
func spelt(v reflect.Value) (l []int, kinds []string) {
	add := func(n int, kind string) { l, kinds = append(l, n), append(kinds, kind) }
	each := func(n int, at func(int) reflect.Value) {
		for i := range n {
			more, moreKinds := spelt(at(i))
			l, kinds = append(l, more...), append(kinds, moreKinds...)
		}
	}
	switch v.Kind() {
	case reflect.Int:
		add(int(v.Int()), whole)
	case reflect.Uint8:
		add(int(v.Uint()), small)
	case reflect.Bool:
		n := 0
		if v.Bool() {
			n = 1
		}
		add(n, sign)
	case reflect.Struct:
		each(v.NumField(), v.Field)
	case reflect.Array:
		each(v.Len(), v.Index)
	case reflect.Slice:
		add(v.Len(), count)
		each(v.Len(), v.Index)
	default:
		panic("no such thing")
	}
	return l, kinds
}

func numbers(s api.Scene) []int {
	l, _ := spelt(reflect.ValueOf(s))
	return l
}

// fill makes a thing of the numbers with which l begins, and tells those behind it; false, if they are no such thing.
func fill(v reflect.Value, l []int) (rest []int, ok bool) {
	each := func(n int, at func(int) reflect.Value) bool {
		for i := range n {
			if l, ok = fill(at(i), l); !ok {
				return false
			}
		}
		return true
	}
	switch v.Kind() {
	case reflect.Struct:
		ok = each(v.NumField(), v.Field)
		return l, ok
	case reflect.Array:
		ok = each(v.Len(), v.Index)
		return l, ok
	}
	if len(l) == 0 {
		return nil, false
	}
	n := l[0]
	l = l[1:]
	switch v.Kind() {
	case reflect.Int:
		v.SetInt(int64(n))
		return l, true
	case reflect.Uint8:
		v.SetUint(uint64(n) % 256)
		return l, n >= 0 && n < 256
	case reflect.Bool:
		v.SetBool(n == 1)
		return l, n == 0 || n == 1
	case reflect.Slice:
		if n < 0 || n > len(l) {
			return nil, false
		}
		v.Set(reflect.MakeSlice(v.Type(), n, n))
		ok = each(n, v.Index)
		return l, ok
	}
	panic("no such thing")
}

// answer is what Take is to tell of bytes.
func answer(b []byte) (api.Scene, api.Errno) {
	var s api.Scene
	l, ok := heard(b)
	if ok {
		l, ok = fill(reflect.ValueOf(&s).Elem(), l)
	}
	if !ok || len(l) > 0 || len(b) > 65536 {
		return api.Scene{}, api.ErrBad
	}
	if e := scene.Check(s); e != api.OK {
		return api.Scene{}, e
	}
	return s, api.OK
}

// same tells whether two scenes say the same: a list that is empty is as one that is none.
func same(a, b api.Scene) bool {
	return slices.Equal(numbers(a), numbers(b))
}

// takes holds Take against what it is to tell.
func takes(t *testing.T, what string, b []byte, want api.Scene, wantE api.Errno) {
	t.Helper()
	kept := slices.Clone(b)
	s, e := codec.Take(b)
	if e != wantE {
		t.Errorf("%s: Take(%v) = %d; want %d", what, short(b), e, wantE)
	}
	if e != api.OK && !reflect.DeepEqual(s, api.Scene{}) {
		t.Errorf("%s: Take(%v) tells a scene beside %d", what, short(b), e)
	}
	if !same(s, want) {
		t.Errorf("%s: Take(%v) = %v; want %v", what, short(b), s, want)
	}
	if !bytes.Equal(kept, b) {
		t.Errorf("%s: Take changes its bytes", what)
	}
}

// short is no more of bytes than may be looked at.
func short(b []byte) []byte { return b[:min(len(b), 200)] }

func takesBad(t *testing.T, what string, b []byte) {
	t.Helper()
	takes(t, what, b, api.Scene{}, api.ErrBad)
}

// takesRight holds Take against what is reckoned apart.
func takesRight(t *testing.T, what string, b []byte) api.Errno {
	t.Helper()
	s, e := answer(b)
	takes(t, what, b, s, e)
	return e
}

// says holds Bytes of a scene against numbers that are written out, or reckoned apart.
func says(t *testing.T, what string, s api.Scene, want []int) {
	t.Helper()
	if got := codec.Bytes(s); !bytes.Equal(got, said(want...)) {
		l, _ := heard(got)
		t.Errorf("%s: Bytes are those of %v; want %v", what, l, want)
	}
}

// texels is a picture of such sides, whose texels are all of one colour.
func texels(w, h int) api.Tex {
	return api.Tex{W: w, H: h, Px: slices.Repeat([]api.Colour{{R: 9, A: 65}}, w*h)}
}

// empty is one of a single pixel, and else nothing.
func empty() api.Scene { return api.Scene{W: 1, H: 1} }

// some is a scene that may be, made anew by each call: no two of its numbers that stand beside each other are the same, and of each thing that has a list there is one without between others that have one, where that may be.
func some() api.Scene {
	return api.Scene{
		W: 5, H: 64, Back: api.Colour{R: 1, G: 63, B: 64, A: 128},
		Verts: []api.Vec{{X: -65, Y: 64, Z: -64, W: 63, A: [4]int{1, 2, 3, 4}}, {X: 10, Y: 11, Z: 12, W: 13, A: [4]int{-4096, 4096, -14, 15}}, {X: -32768, Y: 32768, Z: 16, W: 17}},
		Texs:  []api.Tex{{W: 2, H: 1, Px: []api.Colour{{R: 127, G: 128, B: 0, A: 255}, {R: 3, G: 2, B: 1, A: 4}}}, {W: 1, H: 1, Px: []api.Colour{{R: 61, G: 62, B: 60, A: 63}}}},
		Progs: [][]api.Ins{
			{{Op: api.OpConst, D: 3, N: 255}, {Op: api.OpLess, D: 7, A: 6, B: 5}},
			{{Op: api.OpSmooth, D: 4, A: 2, B: 1}},
			{{Op: api.OpJump, A: 1, N: 1}, {}},
		},
		Draws: []api.Draw{
			{Id: 30, Prog: 2, Tex: -1, Tris: []api.Tri{{Id: 9, V: [3]int{0, 1, 2}}, {Id: 8, V: [3]int{2, 0, 1}}}},
			{Id: 9999, Prog: 0, Tex: 1, Opaque: true},
			{Id: 64, Prog: 1, Tex: 0, Opaque: true, Tris: []api.Tri{{Id: 70, V: [3]int{1, 2, 0}}}},
		},
	}
}

// someSaid is the numbers that some is, as the chapter puts them.
func someSaid() []int {
	return []int{
		5, 64, 1, 63, 64, 128,
		3, -65, 64, -64, 63, 1, 2, 3, 4, 10, 11, 12, 13, -4096, 4096, -14, 15, -32768, 32768, 16, 17, 0, 0, 0, 0,
		2, 2, 1, 2, 127, 128, 0, 255, 3, 2, 1, 4, 1, 1, 1, 61, 62, 60, 63,
		3, 2, 0, 3, 0, 0, 255, 11, 7, 6, 5, 0, 1, 14, 4, 2, 1, 0, 2, 12, 0, 1, 0, 1, 0, 0, 0, 0, 0,
		3, 30, 2, -1, 0, 2, 9, 0, 1, 2, 8, 2, 0, 1, 9999, 0, 1, 1, 0, 64, 1, 0, 1, 1, 70, 1, 2, 0,
	}
}

// greatest is a scene that has as much of all as may be, of things that are all as great as may be.
func greatest() api.Scene {
	s := api.Scene{W: 64, H: 64, Back: api.Colour{R: 255, G: 255, B: 255, A: 255}}
	const c, a = 32768, 4096
	for range 32 {
		s.Verts = append(s.Verts, api.Vec{X: c, Y: -c, Z: c, W: c, A: [4]int{a, -a, a, -a}}, api.Vec{X: -c, Y: c, Z: -c, W: 1, A: [4]int{-a, a, -a, a}})
	}
	for range 4 {
		t := api.Tex{W: 16, H: 16, Px: slices.Repeat([]api.Colour{{R: 255, G: 255, B: 255, A: 255}}, 256)}
		s.Texs = append(s.Texs, t)
		s.Progs = append(s.Progs, slices.Repeat([]api.Ins{{Op: api.OpNear, D: 4, A: 7, B: 7}}, 32))
	}
	for i := range 8 {
		var l []api.Tri
		for k := range 32 {
			l = append(l, api.Tri{Id: 9999 - k, V: [3]int{63, 62, 61}})
		}
		s.Draws = append(s.Draws, api.Draw{Id: 9999 - i, Prog: 3, Tex: 3, Opaque: true, Tris: l})
	}
	return s
}

// changed is some, once it is changed.
func changed(change func(s *api.Scene)) api.Scene {
	s := some()
	change(&s)
	return s
}

// wrong is a scene that may not be, and why.
type wrong struct {
	what string
	s    api.Scene
	e    api.Errno
}

// wrongs are scenes that may not be: at least one for each of scene.Check's errors.
func wrongs() []wrong {
	at := func(what string, e api.Errno, change func(s *api.Scene)) wrong {
		return wrong{what, changed(change), e}
	}
	return []wrong{
		{"nothing at all", api.Scene{}, api.ErrSize},
		at("W 0", api.ErrSize, func(s *api.Scene) { s.W = 0 }),
		at("W 65", api.ErrSize, func(s *api.Scene) { s.W = 65 }),
		at("H -1", api.ErrSize, func(s *api.Scene) { s.H = -1 }),
		at("Back", api.ErrArg, func(s *api.Scene) { s.Back.G = 129 }),
		at("65 vertices", api.ErrCount, func(s *api.Scene) { s.Verts = slices.Repeat(s.Verts[:1], 65) }),
		at("5 pictures", api.ErrCount, func(s *api.Scene) { s.Texs = slices.Repeat(s.Texs[:1], 5) }),
		at("5 programs", api.ErrCount, func(s *api.Scene) { s.Progs = slices.Repeat(s.Progs, 2)[:5] }),
		at("9 draws", api.ErrCount, func(s *api.Scene) { s.Draws = slices.Repeat(s.Draws, 3) }),
		at("33 triangles", api.ErrCount, func(s *api.Scene) { s.Draws[1].Tris = slices.Repeat(s.Draws[0].Tris[:1], 33) }),
		at("a vertex", api.ErrCoord, func(s *api.Scene) { s.Verts[2].X = -32769 }),
		at("an attribute", api.ErrCoord, func(s *api.Scene) { s.Verts[1].A[3] = 4097 }),
		at("a picture without texels", api.ErrTex, func(s *api.Scene) { s.Texs[0].Px = nil }),
		at("a picture with one too many", api.ErrTex, func(s *api.Scene) { s.Texs[1].H = 2 }),
		at("a picture that is too wide", api.ErrTex, func(s *api.Scene) { s.Texs[0] = texels(17, 1) }),
		at("a program without instructions", api.ErrCode, func(s *api.Scene) { s.Progs[1] = nil }),
		at("an op", api.ErrCode, func(s *api.Scene) { s.Progs[0][1].Op = 15 }),
		at("a register", api.ErrCode, func(s *api.Scene) { s.Progs[0][1].B = 8 }),
		at("a jump", api.ErrCode, func(s *api.Scene) { s.Progs[2][0].N = -1 }),
		at("an Id", api.ErrIndex, func(s *api.Scene) { s.Draws[0].Id = 10000 }),
		at("a Prog", api.ErrIndex, func(s *api.Scene) { s.Draws[1].Prog = 3 }),
		at("a Tex", api.ErrIndex, func(s *api.Scene) { s.Draws[2].Tex = -1 }),
		at("a triangle's vertex", api.ErrIndex, func(s *api.Scene) { s.Draws[2].Tris[0].V[2] = 3 }),
		at("a draw's Id twice", api.ErrTwice, func(s *api.Scene) { s.Draws[2].Id = 30 }),
		at("a triangle's Id twice", api.ErrTwice, func(s *api.Scene) { s.Draws[0].Tris[1].Id = 9 }),
	}
}

// several are scenes that may be.
func several() map[string]api.Scene {
	one := empty()
	one.Verts = []api.Vec{{W: 1}}
	tex := empty()
	tex.Texs = []api.Tex{texels(16, 3)}
	prog := empty()
	prog.Progs = [][]api.Ins{slices.Repeat([]api.Ins{{Op: api.OpConst, N: 65}}, 32), {{}}}
	drawn := prog
	drawn.Draws = []api.Draw{{Tex: -1}, {Id: 1, Prog: 1, Tex: -1, Opaque: true}}
	bare := empty()
	bare.Verts, bare.Texs, bare.Progs, bare.Draws = []api.Vec{}, []api.Tex{}, [][]api.Ins{}, []api.Draw{}
	return map[string]api.Scene{
		"the chapter's": {W: 1, H: 2}, "the least": empty(), "some": some(), "the greatest": greatest(), "lists that are empty": bare,
		"a vertex": one, "a picture": tex, "programs": prog, "draws without triangles": drawn,
	}
}

// P15.1: the chapter's example, and each list by itself.
func TestBytesOfLittle(t *testing.T) {
	if got := codec.Bytes(api.Scene{W: 1, H: 2}); !bytes.Equal(got, []byte{2, 4, 0, 0, 0, 0, 0, 0, 0, 0}) {
		t.Errorf("the chapter's example: %v", got)
	}
	for _, x := range []struct {
		what string
		s    api.Scene
		want []int
	}{
		{"nothing at all", api.Scene{}, []int{0, 0, 0, 0, 0, 0, 0, 0, 0, 0}},
		{"sides and Back", api.Scene{W: 1, H: 2, Back: api.Colour{R: 3, G: 4, B: 5, A: 6}}, []int{1, 2, 3, 4, 5, 6, 0, 0, 0, 0}},
		{"a vertex", api.Scene{Verts: []api.Vec{{X: 1, Y: 2, Z: 3, W: 4, A: [4]int{5, 6, 7, 8}}}}, []int{0, 0, 0, 0, 0, 0, 1, 1, 2, 3, 4, 5, 6, 7, 8, 0, 0, 0}},
		{"a picture", api.Scene{Texs: []api.Tex{{W: 7, H: 8, Px: []api.Colour{{R: 9, G: 10, B: 11, A: 12}}}}}, []int{0, 0, 0, 0, 0, 0, 0, 1, 7, 8, 1, 9, 10, 11, 12, 0, 0}},
		{"a picture without texels between two with some", api.Scene{Texs: []api.Tex{{W: 1, H: 2, Px: make([]api.Colour, 2)}, {W: 3, H: 4}, {W: 5, H: 6, Px: []api.Colour{{A: 7}}}}},
			[]int{0, 0, 0, 0, 0, 0, 0, 3, 1, 2, 2, 0, 0, 0, 0, 0, 0, 0, 0, 3, 4, 0, 5, 6, 1, 0, 0, 0, 7, 0, 0}},
		{"an instruction", api.Scene{Progs: [][]api.Ins{{{Op: 1, D: 2, A: 3, B: 4, N: 5}}}}, []int{0, 0, 0, 0, 0, 0, 0, 0, 1, 1, 1, 2, 3, 4, 5, 0}},
		{"a program without instructions between two with some", api.Scene{Progs: [][]api.Ins{{{Op: 255, D: 254, A: 253, B: 252, N: -251}, {N: 6}}, {}, {{B: 7}}}},
			[]int{0, 0, 0, 0, 0, 0, 0, 0, 3, 2, 255, 254, 253, 252, -251, 0, 0, 0, 0, 6, 0, 1, 0, 0, 0, 7, 0, 0}},
		{"a draw", api.Scene{Draws: []api.Draw{{Id: 1, Prog: 2, Tex: 3, Opaque: true, Tris: []api.Tri{{Id: 4, V: [3]int{5, 6, 7}}}}}}, []int{0, 0, 0, 0, 0, 0, 0, 0, 0, 1, 1, 2, 3, 1, 1, 4, 5, 6, 7}},
		{"a draw without triangles between two with some", api.Scene{Draws: []api.Draw{{Tris: make([]api.Tri, 2)}, {Id: -1, Prog: -2, Tex: -3, Opaque: true}, {Tris: []api.Tri{{Id: -4, V: [3]int{-5, -6, -7}}}}}},
			[]int{0, 0, 0, 0, 0, 0, 0, 0, 0, 3, 0, 0, 0, 0, 2, 0, 0, 0, 0, 0, 0, 0, 0, -1, -2, -3, 1, 0, 0, 0, 0, 0, 1, -4, -5, -6, -7}},
	} {
		says(t, x.what, x.s, x.want)
	}
}

// P15.1: of a scene that has several of all, written out whole; what the other tests reckon with says the same of it.
func TestBytesOfSome(t *testing.T) {
	says(t, "some", some(), someSaid())
	if got := numbers(some()); !slices.Equal(got, someSaid()) {
		t.Fatalf("the tests' own numbers are %v; want %v", got, someSaid())
	}
}

// leaves are the places in a scene where a number, a byte or a sign stands, in order, and at which of its numbers each is.
func leaves(v reflect.Value, at int) (l []reflect.Value, places []int, next int) {
	n, child := 0, v.Field
	switch v.Kind() {
	case reflect.Struct:
		n = v.NumField()
	case reflect.Array:
		n, child = v.Len(), v.Index
	case reflect.Slice:
		n, child = v.Len(), v.Index
		at++
	default:
		return []reflect.Value{v}, []int{at}, at + 1
	}
	for i := range n {
		more, morePlaces, after := leaves(child(i), at)
		l, places, at = append(l, more...), append(places, morePlaces...), after
	}
	return l, places, at
}

// P15.1: of each place by itself, all numbers at which bytes change; all bytes; both signs.
func TestBytesAtEachPlace(t *testing.T) {
	s := some()
	l, places, end := leaves(reflect.ValueOf(&s).Elem(), 0)
	if end != len(someSaid()) || len(l) < 60 {
		t.Fatalf("%d places, %d numbers", len(l), end)
	}
	for i, v := range l {
		kept := reflect.New(v.Type()).Elem()
		kept.Set(v)
		hold := func(n int) {
			want := someSaid()
			want[places[i]] = n
			says(t, "a number elsewhere", s, want)
		}
		switch v.Kind() {
		case reflect.Int:
			for _, n := range edges {
				v.SetInt(int64(n))
				hold(n)
			}
		case reflect.Uint8:
			for n := range 256 {
				v.SetUint(uint64(n))
				hold(n)
			}
		case reflect.Bool:
			v.SetBool(false)
			hold(0)
			v.SetBool(true)
			hold(1)
		}
		v.Set(kept)
	}
	says(t, "some again", s, someSaid())
}

// P15.1: counts of one byte, of two and of three, of each list; a list that is empty is as one that is none.
func TestBytesOfCounts(t *testing.T) {
	for _, n := range []int{0, 1, 2, 63, 64, 65, 127, 128, 8191, 8192, 20000} {
		says(t, "vertices", api.Scene{Verts: make([]api.Vec, n)}, slices.Concat(make([]int, 6), []int{n}, make([]int, 8*n), []int{0, 0, 0}))
		says(t, "pictures", api.Scene{Texs: make([]api.Tex, n)}, slices.Concat(make([]int, 7), []int{n}, make([]int, 3*n), []int{0, 0}))
		says(t, "texels", api.Scene{Texs: []api.Tex{{Px: make([]api.Colour, n)}}}, slices.Concat(make([]int, 7), []int{1, 0, 0, n}, make([]int, 4*n), []int{0, 0}))
		says(t, "programs", api.Scene{Progs: make([][]api.Ins, n)}, slices.Concat(make([]int, 8), []int{n}, make([]int, n), []int{0}))
		says(t, "instructions", api.Scene{Progs: [][]api.Ins{make([]api.Ins, n)}}, slices.Concat(make([]int, 8), []int{1, n}, make([]int, 5*n), []int{0}))
		says(t, "draws", api.Scene{Draws: make([]api.Draw, n)}, slices.Concat(make([]int, 9), []int{n}, make([]int, 5*n)))
		says(t, "triangles", api.Scene{Draws: []api.Draw{{Tris: make([]api.Tri, n)}}}, slices.Concat(make([]int, 9), []int{1, 0, 0, 0, 0, n}, make([]int, 4*n)))
	}
}

// P15.1: of any scene: those that may be, those that may not be, and those that are made of any numbers.
func TestBytesOfAny(t *testing.T) {
	for what, s := range several() {
		says(t, what, s, numbers(s))
	}
	for _, x := range wrongs() {
		says(t, x.what, x.s, numbers(x.s))
	}
	r := rand.New(rand.NewSource(1))
	for range 2000 {
		s := anyScene(r)
		says(t, "any", s, numbers(s))
	}
}

// anyNumber is one of any length.
func anyNumber(r *rand.Rand) int {
	if r.Intn(4) == 0 {
		return edges[r.Intn(len(edges))]
	}
	return int(r.Uint64()) >> r.Intn(64)
}

// anyScene is one whose numbers are any, with few things of each kind.
func anyScene(r *rand.Rand) api.Scene {
	var s api.Scene
	anyThing(r, reflect.ValueOf(&s).Elem())
	return s
}

func anyThing(r *rand.Rand, v reflect.Value) {
	each := func(n int, at func(int) reflect.Value) {
		for i := range n {
			anyThing(r, at(i))
		}
	}
	switch v.Kind() {
	case reflect.Int:
		v.SetInt(int64(anyNumber(r)))
	case reflect.Uint8:
		v.SetUint(uint64(r.Intn(256)))
	case reflect.Bool:
		v.SetBool(r.Intn(2) == 0)
	case reflect.Struct:
		each(v.NumField(), v.Field)
	case reflect.Array:
		each(v.Len(), v.Index)
	case reflect.Slice:
		n := r.Intn(4)
		v.Set(reflect.MakeSlice(v.Type(), n, n))
		each(n, v.Index)
	}
}

// P15.2: what may be is put, as its Bytes.
func TestPutOfWhatMayBe(t *testing.T) {
	for what, s := range several() {
		if b, e := codec.Put(s); e != api.OK || !bytes.Equal(b, said(numbers(s)...)) {
			t.Errorf("%s: Put = %v, %d", what, b, e)
		}
	}
	if b, e := codec.Put(some()); e != api.OK || !bytes.Equal(b, said(someSaid()...)) {
		t.Errorf("some: Put = %v, %d", b, e)
	}
}

// P15.2, R2: what may not be is not put, with each of scene.Check's errors.
func TestPutOfWhatMayNotBe(t *testing.T) {
	told := map[api.Errno]int{}
	for _, x := range wrongs() {
		if e := scene.Check(x.s); e != x.e {
			t.Fatalf("%s: scene.Check = %d; want %d", x.what, e, x.e)
		}
		if b, e := codec.Put(x.s); e != x.e || len(b) != 0 {
			t.Errorf("%s: Put = %v, %d; want nothing, %d", x.what, b, e, x.e)
		}
		told[x.e]++
	}
	if len(told) != 8 {
		t.Errorf("errors told: %v", told)
	}
	// Of two faults scene.Check's first one.
	s := changed(func(s *api.Scene) { s.Draws[0].Id, s.Verts[0].W = -1, 40000 })
	if b, e := codec.Put(s); e != api.ErrCoord || len(b) != 0 {
		t.Errorf("two faults: Put = %v, %d", b, e)
	}
}

// P15.2, P15.3: what was put is taken, and put again is the same bytes.
func TestTakeOfWhatWasPut(t *testing.T) {
	for what, s := range several() {
		b, e := codec.Put(s)
		if e != api.OK || len(b) > 65536 {
			t.Fatalf("%s: Put: %d bytes, %d", what, len(b), e)
		}
		takes(t, what, b, s, api.OK)
		takes(t, what, said(numbers(s)...), s, api.OK)
		got, _ := codec.Take(b)
		if again, e := codec.Put(got); e != api.OK || !bytes.Equal(again, b) {
			t.Errorf("%s: put again: %v, %d", what, again, e)
		}
	}
	got, e := codec.Take(said(someSaid()...))
	if len(got.Draws) == 3 && len(got.Draws[1].Tris) == 0 {
		// Empty or none: both may be told.
		got.Draws[1].Tris = nil
	}
	if e != api.OK || !reflect.DeepEqual(got, some()) {
		t.Errorf("some: Take = %v, %d; want %v", got, e, some())
	}
	takes(t, "the chapter's example", []byte{2, 4, 0, 0, 0, 0, 0, 0, 0, 0}, api.Scene{W: 1, H: 2}, api.OK)
}

// P15.2, P15.3: no bytes, bytes that are cut at each place, and such as go on, by one byte or by many.
func TestTakeOfCutAndLonger(t *testing.T) {
	takesBad(t, "none", nil)
	takesBad(t, "no bytes", []byte{})
	for what, s := range several() {
		b := said(numbers(s)...)
		for i := range b {
			takesBad(t, what+", cut", b[:i])
		}
		for n := range 256 {
			takesBad(t, what+", and a byte", append(b[:len(b):len(b)], byte(n)))
		}
		takesBad(t, what+", twice", slices.Concat(b, b))
		takesBad(t, what+", and a number", append(b[:len(b):len(b)], said(1<<40)...))
		takesBad(t, what+", and numbers", append(b[:len(b):len(b)], make([]byte, 100)...))
	}
}

// P15.2: cut ahead of each place the bytes are others, that say what they say.
func TestTakeOfLaterBytes(t *testing.T) {
	b := said(someSaid()...)
	for i := range b {
		takesRight(t, "cut ahead", b[i:])
		takesRight(t, "without one", slices.Delete(slices.Clone(b), i, i+1))
		for _, n := range []byte{0, 1, 2, 127, 128, 255} {
			takesRight(t, "with one more", slices.Insert(slices.Clone(b), i, n))
		}
	}
}

// long is scenes of so many bytes, that may not be, each by another list, and what is wrong with each.
func long(size int) []wrong {
	// Few enough things for what else there is, then some of them made longer, by a byte each.
	fit := func(what string, e api.Errno, per int, make func(n int) api.Scene, grow func(s *api.Scene, k int)) wrong {
		s := make((size - 20) / per)
		for k := range size - len(codec.Bytes(s)) {
			grow(&s, k)
		}
		return wrong{what, s, e}
	}
	return []wrong{
		fit("vertices", api.ErrCount, 8, func(n int) api.Scene { return api.Scene{W: 1, H: 1, Verts: make([]api.Vec, n)} }, func(s *api.Scene, k int) { s.Verts[k].X = 64 }),
		fit("pictures", api.ErrCount, 3, func(n int) api.Scene { return api.Scene{W: 1, H: 1, Texs: make([]api.Tex, n)} }, func(s *api.Scene, k int) { s.Texs[k].W = -65 }),
		fit("texels", api.ErrTex, 4, func(n int) api.Scene {
			return api.Scene{W: 1, H: 1, Texs: []api.Tex{{W: 1, H: 1, Px: make([]api.Colour, n)}}}
		}, func(s *api.Scene, k int) { s.Texs[0].Px[k].A = 255 }),
		fit("programs", api.ErrCount, 1, func(n int) api.Scene { return api.Scene{W: 1, H: 1, Progs: make([][]api.Ins, n)} }, func(s *api.Scene, k int) { s.Progs = append(s.Progs, nil) }),
		fit("instructions", api.ErrCode, 5, func(n int) api.Scene { return api.Scene{W: 1, H: 1, Progs: [][]api.Ins{make([]api.Ins, n)}} }, func(s *api.Scene, k int) { s.Progs[0][k].N = 64 }),
		fit("draws", api.ErrCount, 5, func(n int) api.Scene { return api.Scene{W: 1, H: 1, Draws: make([]api.Draw, n)} }, func(s *api.Scene, k int) { s.Draws[k].Id = 64 }),
		fit("triangles", api.ErrCount, 4, func(n int) api.Scene {
			return api.Scene{W: 1, H: 1, Draws: []api.Draw{{Tris: make([]api.Tri, n)}}}
		}, func(s *api.Scene, k int) { s.Draws[0].Tris[k].V[2] = 64 }),
		fit("vertices, and no sides", api.ErrSize, 8, func(n int) api.Scene { return api.Scene{Verts: make([]api.Vec, n)} }, func(s *api.Scene, k int) { s.Verts[k].W = 64 }),
	}
}

// P15.2: of 65,536 bytes what they say, of 65,537 ErrBad, whatever they say.
func TestTakeOfManyBytes(t *testing.T) {
	for _, size := range []int{65535, 65536} {
		for _, x := range long(size) {
			b := codec.Bytes(x.s)
			if len(b) != size {
				t.Fatalf("%s: %d bytes; want %d", x.what, len(b), size)
			}
			takes(t, x.what, b, api.Scene{}, x.e)
			takesBad(t, x.what+", and one byte", append(b, 0))
			takesBad(t, x.what+", cut", b[:size-1])
		}
	}
	for _, size := range []int{65537, 65538, 70000, 131072, 1 << 20} {
		for _, x := range long(size) {
			takesBad(t, x.what, codec.Bytes(x.s))
		}
	}
	for n := range 256 {
		for _, size := range []int{65535, 65536, 65537, 1 << 17} {
			takesBad(t, "a byte, many times", bytes.Repeat([]byte{byte(n)}, size))
		}
	}
}

// padded is a number in more bytes than its one way has.
func padded(n, more int) []byte {
	b := said(n)
	b[len(b)-1] |= 128
	return append(append(b, bytes.Repeat([]byte{128}, more-1)...), 0)
}

// with is some's bytes, with others in the stead of those of one number.
func with(at int, b []byte) []byte {
	l := someSaid()
	return slices.Concat(said(l[:at]...), b, said(l[at+1:]...))
}

// P15.2: at each place a number that is put in more bytes than its one way has.
func TestTakeOfPadded(t *testing.T) {
	for i, n := range someSaid() {
		for more := 1; more <= 12; more++ {
			takesBad(t, "padded", with(i, padded(n, more)))
		}
		takesBad(t, "beyond 64 bits", with(i, append(bytes.Repeat([]byte{255}, 9), 2)))
		takesBad(t, "beyond 64 bits by its low bits", with(i, append(bytes.Repeat([]byte{128}, 9), 2)))
		takesBad(t, "without an end", with(i, bytes.Repeat([]byte{128}, 20)))
		takesBad(t, "without a number", with(i, []byte{128, 0}))
	}
	_, kinds := spelt(reflect.ValueOf(some()))
	for _, kind := range []string{whole, small, sign, count} {
		if !slices.Contains(kinds, kind) {
			t.Errorf("there is no place of %s", kind)
		}
	}
}

// P15.2: at each place all edges, as what stands there says: a byte, a sign and a count may not be all that a number may.
func TestTakeAtEachPlace(t *testing.T) {
	_, kinds := spelt(reflect.ValueOf(some()))
	told := map[string]map[api.Errno]int{whole: {}, small: {}, sign: {}, count: {}}
	for i, n := range someSaid() {
		for _, m := range append([]int{2, 3, 4, n - 1, n + 1, n + 2, n + 256, n - 256, n + 1<<32, n ^ least, -n, 1000}, edges...) {
			b := with(i, said(m))
			e := takesRight(t, kinds[i], b)
			told[kinds[i]][e]++
			outside := kinds[i] == small && (m < 0 || m > 255) || kinds[i] == sign && m != 0 && m != 1 || kinds[i] == count && (m < 0 || m > len(someSaid()))
			if outside && e != api.ErrBad {
				t.Errorf("%s: %d says %d", kinds[i], m, e)
			}
			if kinds[i] == whole && e == api.ErrBad {
				t.Errorf("%s: %d says nothing", kinds[i], m)
			}
		}
	}
	for kind, l := range told {
		if len(l) < 2 {
			t.Errorf("%s: told %v", kind, l)
		}
	}
}

// P15.2: parts of colours, and an Op, a D, an A and a B, that no byte is; signs that are none.
func TestTakeOfNoBytes(t *testing.T) {
	// Each list of numbers with one of its places, where any other number is not to be.
	shapes := []struct {
		what     string
		l        []int
		from, to int
	}{
		{"Back", []int{1, 1, 0, 0, 0, 0, 0, 0, 0, 0}, 2, 6},
		{"a texel", []int{1, 1, 0, 0, 0, 0, 0, 1, 1, 1, 1, 0, 0, 0, 0, 0, 0}, 11, 15},
		{"an instruction", []int{1, 1, 0, 0, 0, 0, 0, 0, 1, 1, 0, 0, 0, 0, 0, 0}, 10, 14},
	}
	for _, x := range shapes {
		takes(t, x.what, said(x.l...), mustFill(t, x.l), api.OK)
		for at := x.from; at < x.to; at++ {
			for _, n := range []int{-1, 256, -256, 257, 511, 512, -255, 1 << 16, 1 << 32, 1<<32 + 1, most, least} {
				l := slices.Clone(x.l)
				l[at] = n
				takesBad(t, x.what, said(l...))
			}
			for n := range 256 {
				l := slices.Clone(x.l)
				l[at] = n
				if e := takesRight(t, x.what, said(l...)); e == api.ErrBad {
					t.Errorf("%s: %d is no byte", x.what, n)
				}
			}
		}
	}
	for n, want := range map[int]api.Errno{0: api.OK, 1: api.OK, 2: api.ErrBad, -1: api.ErrBad, -2: api.ErrBad, 3: api.ErrBad, 255: api.ErrBad, 256: api.ErrBad, 257: api.ErrBad, 1<<32 + 1: api.ErrBad, most: api.ErrBad, least: api.ErrBad, least + 1: api.ErrBad} {
		b := said(1, 1, 0, 0, 0, 0, 0, 0, 1, 1, 0, 0, 0, 0, 0, 1, 7, 0, -1, n, 0)
		s, e := codec.Take(b)
		if e != want || e == api.OK && s.Draws[0].Opaque != (n == 1) {
			t.Errorf("a sign of %d: Take = %v, %d", n, s, e)
		}
	}
}

// mustFill is the scene of numbers.
func mustFill(t *testing.T, l []int) api.Scene {
	t.Helper()
	var s api.Scene
	if rest, ok := fill(reflect.ValueOf(&s).Elem(), l); !ok || len(rest) > 0 {
		t.Fatalf("%v is no scene", l)
	}
	return s
}

// P15.2: counts below 0, of one more and of one less than there is, and far beyond, of each list.
func TestTakeOfCounts(t *testing.T) {
	for _, x := range []struct {
		what string
		l    []int
		at   int
	}{
		{"no vertices", []int{1, 1, 0, 0, 0, 0, 0, 0, 0, 0}, 6},
		{"a vertex", []int{1, 1, 0, 0, 0, 0, 1, 0, 0, 0, 1, 0, 0, 0, 0, 0, 0, 0}, 6},
		{"no pictures", []int{1, 1, 0, 0, 0, 0, 0, 0, 0, 0}, 7},
		{"a picture", []int{1, 1, 0, 0, 0, 0, 0, 1, 1, 1, 1, 0, 0, 0, 0, 0, 0}, 7},
		{"a texel", []int{1, 1, 0, 0, 0, 0, 0, 1, 1, 1, 1, 0, 0, 0, 0, 0, 0}, 10},
		{"no programs", []int{1, 1, 0, 0, 0, 0, 0, 0, 0, 0}, 8},
		{"a program", []int{1, 1, 0, 0, 0, 0, 0, 0, 1, 1, 0, 0, 0, 0, 0, 0}, 8},
		{"an instruction", []int{1, 1, 0, 0, 0, 0, 0, 0, 1, 1, 0, 0, 0, 0, 0, 0}, 9},
		{"no draws", []int{1, 1, 0, 0, 0, 0, 0, 0, 0, 0}, 9},
		{"a draw", []int{1, 1, 0, 0, 0, 0, 0, 0, 1, 1, 0, 0, 0, 0, 0, 1, 5, 0, -1, 0, 0}, 15},
		{"no triangles", []int{1, 1, 0, 0, 0, 0, 0, 0, 1, 1, 0, 0, 0, 0, 0, 1, 5, 0, -1, 0, 0}, 20},
	} {
		takes(t, x.what, said(x.l...), mustFill(t, x.l), api.OK)
		for _, n := range []int{-1, -2, -64, -65, least, least + 1, -1 << 32, x.l[x.at] + 1, x.l[x.at] + 2, len(x.l) - x.at, len(x.l) - x.at - 1, len(x.l), 1000, 65536, 1 << 31, 1 << 32, 1 << 40, most - 1, most} {
			l := slices.Clone(x.l)
			l[x.at] = n
			if n != x.l[x.at] {
				takesRight(t, x.what, said(l...))
			}
			if n < 0 || n > len(l) {
				takesBad(t, x.what, said(l...))
			}
		}
	}
	// One more than there is, where nothing could be mistaken for it: at the last list of all.
	for _, n := range []int{1, 2, -1, most, least} {
		takesBad(t, "draws", said(1, 1, 0, 0, 0, 0, 0, 0, 0, n))
		takesBad(t, "triangles", said(1, 1, 0, 0, 0, 0, 0, 0, 1, 1, 0, 0, 0, 0, 0, 1, 5, 0, -1, 0, n))
	}
	// As many things as could be, each with as many as could be: it ends soon.
	many := slices.Concat([]int{1, 1, 0, 0, 0, 0}, slices.Repeat([]int{30000}, 21000))
	takesBad(t, "lists in lists", said(many...))
}

// P15.2: bytes of scenes that may not be say which error that is; cut, or with more behind them, they say nothing.
func TestTakeOfWhatMayNotBe(t *testing.T) {
	for _, x := range wrongs() {
		b := codec.Bytes(x.s)
		takes(t, x.what, b, api.Scene{}, x.e)
		takes(t, x.what, said(numbers(x.s)...), api.Scene{}, x.e)
		for i := range b {
			takesBad(t, x.what+", cut", b[:i])
		}
		for n := range 256 {
			takesBad(t, x.what+", and a byte", append(b[:len(b):len(b)], byte(n)))
		}
		last := bytes.Clone(b)
		last[len(last)-1] |= 128
		takesBad(t, x.what+", padded", append(last, 0))
	}
	takesBad(t, "no sides, and a part that is none", said(0, 0, 0, 0, 0, 256, 0, 0, 0, 0))
	takesBad(t, "no sides, and a count that is none", said(0, 0, 0, 0, 0, 0, 0, 0, 0, -1))
	// Of two faults scene.Check's first one.
	s := changed(func(s *api.Scene) { s.Draws[0].Id, s.Verts[0].W = -1, 40000 })
	takes(t, "two faults", codec.Bytes(s), api.Scene{}, api.ErrCoord)
}

// P15.2, P15.3: of bytes of which one is changed, at each place, another scene or nothing, and what is taken is put as these bytes.
func TestTakeOfOneByteChanged(t *testing.T) {
	b := said(someSaid()...)
	told := map[api.Errno]int{}
	for i, was := range b {
		for n := range 256 {
			b[i] = byte(n)
			told[takesRight(t, "one byte changed", b)]++
			s, e := codec.Take(b)
			if e != api.OK {
				continue
			}
			if again, e := codec.Put(s); e != api.OK || !bytes.Equal(again, b) {
				t.Errorf("put again: %v, %d; want %v", again, e, b)
			}
			if byte(n) != was && same(s, some()) {
				t.Errorf("%d in the stead of %d at %d says the same", n, was, i)
			}
		}
		b[i] = was
	}
	for _, e := range []api.Errno{api.OK, api.ErrBad, api.ErrSize, api.ErrArg, api.ErrCoord, api.ErrTex, api.ErrCode, api.ErrIndex, api.ErrTwice} {
		if told[e] == 0 {
			t.Errorf("%d is never told: %v", e, told)
		}
	}
}

// R1, P15.2: any bytes, and any numbers, say what they say.
func TestTakeOfAny(t *testing.T) {
	r := rand.New(rand.NewSource(2))
	for range 20000 {
		b := make([]byte, r.Intn(40))
		for i := range b {
			b[i] = byte(r.Intn(1 << (1 + r.Intn(8))))
		}
		takesRight(t, "any bytes", b)
	}
	told := map[api.Errno]int{}
	for range 20000 {
		l := make([]int, 10+r.Intn(30))
		for i := range l {
			l[i] = r.Intn(3)
		}
		told[takesRight(t, "few numbers", said(l...))]++
	}
	for range 3000 {
		told[takesRight(t, "any scene", codec.Bytes(anyScene(r)))]++
	}
	if told[api.ErrBad] == 0 || told[api.ErrSize] == 0 || told[api.OK] == 0 {
		t.Errorf("told: %v", told)
	}
}

// P15.3: scenes that say other numbers have other bytes, where all lists are as long or not.
func TestNoTwoAlike(t *testing.T) {
	r := rand.New(rand.NewSource(3))
	seen := map[string]api.Scene{}
	for range 3000 {
		s := anyScene(r)
		b := string(codec.Bytes(s))
		if was, is := seen[b]; is && !same(was, s) {
			t.Errorf("%v and %v are the same bytes", was, s)
		}
		seen[b] = s
	}
}

// behind is a list with room behind its end, in which something lies.
func behind[T any](l []T, x T) []T {
	return append(slices.Clone(l), x, x)[:len(l)]
}

// R7: what is handed in is not changed, nor what lies behind its ends.
func TestNothingIsChanged(t *testing.T) {
	roomy := func() api.Scene {
		s := some()
		s.Verts, s.Texs, s.Progs, s.Draws = behind(s.Verts, api.Vec{X: 99}), behind(s.Texs, api.Tex{W: 99}), behind(s.Progs, []api.Ins{{N: 99}}), behind(s.Draws, api.Draw{Id: 99})
		for i := range s.Texs {
			s.Texs[i].Px = behind(s.Texs[i].Px, api.Colour{A: 99})
		}
		for i := range s.Progs {
			s.Progs[i] = behind(s.Progs[i], api.Ins{N: 99})
		}
		for i := range s.Draws {
			s.Draws[i].Tris = behind(s.Draws[i].Tris, api.Tri{Id: 99})
		}
		return s
	}
	whole := func(s api.Scene) api.Scene {
		s.Verts, s.Texs, s.Progs, s.Draws = slices.Clone(s.Verts[:cap(s.Verts)]), slices.Clone(s.Texs[:cap(s.Texs)]), slices.Clone(s.Progs[:cap(s.Progs)]), slices.Clone(s.Draws[:cap(s.Draws)])
		for i, x := range s.Texs {
			s.Texs[i].Px = x.Px[:cap(x.Px)]
		}
		for i, x := range s.Progs {
			s.Progs[i] = x[:cap(x)]
		}
		for i, x := range s.Draws {
			s.Draws[i].Tris = x.Tris[:cap(x.Tris)]
		}
		return s
	}
	s, want := roomy(), whole(roomy())
	bytesOf := codec.Bytes(s)
	put, e := codec.Put(s)
	if !reflect.DeepEqual(whole(s), want) {
		t.Errorf("the scene is changed: %v; want %v", whole(s), want)
	}
	if !bytes.Equal(bytesOf, put) || !bytes.Equal(put, said(someSaid()...)) || e != api.OK {
		t.Errorf("with room behind: %v, %v, %d", bytesOf, put, e)
	}
	room := append(said(someSaid()...), 7, 8, 9)
	kept := bytes.Clone(room)
	takes(t, "with room behind", room[:len(room)-3], some(), api.OK)
	if !bytes.Equal(room, kept) {
		t.Errorf("the bytes behind are changed: %v", room)
	}
}

// R7: what is told is its own: neither the bytes, nor the scene, nor two lists of it see what becomes of the others.
func TestWhatIsToldIsItsOwn(t *testing.T) {
	s := some()
	first, second := codec.Bytes(s), codec.Bytes(s)
	put, _ := codec.Put(s)
	clear(first[:cap(first)])
	if !bytes.Equal(second, said(someSaid()...)) || !bytes.Equal(put, second) || !reflect.DeepEqual(s, some()) {
		t.Error("the bytes share with others, or with the scene")
	}
	b := said(someSaid()...)
	one, _ := codec.Take(b)
	other, _ := codec.Take(b)
	clear(b)
	if !same(one, some()) {
		t.Errorf("the scene sees what becomes of the bytes: %v", one)
	}
	spoil(&one)
	if !same(other, some()) {
		t.Errorf("a scene sees what becomes of another: %v", other)
	}
}

// spoil writes over all that a scene has, and behind the ends of its lists.
func spoil(s *api.Scene) {
	for _, x := range s.Texs {
		clear(x.Px[:cap(x.Px)])
	}
	for _, x := range s.Progs {
		clear(x[:cap(x)])
	}
	for _, x := range s.Draws {
		clear(x.Tris[:cap(x.Tris)])
	}
	clear(s.Verts[:cap(s.Verts)])
	clear(s.Texs[:cap(s.Texs)])
	clear(s.Progs[:cap(s.Progs)])
	clear(s.Draws[:cap(s.Draws)])
}

// R7: no two lists of one scene share what lies behind their ends.
func TestListsAreApart(t *testing.T) {
	s := some()
	s.Texs = append(s.Texs, texels(1, 1), texels(2, 2))
	s.Progs = append(s.Progs, s.Progs[0])
	got, e := codec.Take(codec.Bytes(s))
	if e != api.OK {
		t.Fatal(e)
	}
	for i := range got.Texs {
		_ = append(got.Texs[i].Px, api.Colour{R: 99}, api.Colour{R: 98})
	}
	for i := range got.Progs {
		_ = append(got.Progs[i], api.Ins{N: 99}, api.Ins{N: 98})
	}
	for i := range got.Draws {
		_ = append(got.Draws[i].Tris, api.Tri{Id: 99}, api.Tri{Id: 98})
	}
	if !same(got, s) {
		t.Errorf("a list sees what is put behind another: %v", got)
	}
	clear(got.Progs[0])
	if !slices.Equal(got.Progs[3], s.Progs[0]) {
		t.Error("two programs that are alike are one")
	}
}

// R6: asked again, and in between of others, the same is told.
func TestAskedAgain(t *testing.T) {
	b := said(someSaid()...)
	for range 3 {
		says(t, "some", some(), someSaid())
		takes(t, "some", b, some(), api.OK)
		takesBad(t, "cut", b[:50])
		takes(t, "no sides", said(make([]int, 10)...), api.Scene{}, api.ErrSize)
		if got, e := codec.Put(api.Scene{W: 1}); len(got) != 0 || e != api.ErrSize {
			t.Errorf("Put = %v, %d", got, e)
		}
		takes(t, "the greatest", codec.Bytes(greatest()), greatest(), api.OK)
	}
}
