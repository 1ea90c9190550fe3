package scene_test

import (
	"iter"
	"math"
	"math/rand"
	"reflect"
	"slices"
	"testing"

	"glazier/api"
	"glazier/scene"
)

const (
	least = math.MinInt
	most  = math.MaxInt
)

// place is that of a draw, and of a triangle in it.
type place = [2]int

// texels is a picture of such sides, whose texels are all of one colour.
func texels(w, h int) api.Tex {
	return api.Tex{W: w, H: h, Px: slices.Repeat([]api.Colour{{R: 9, A: 5}}, w*h)}
}

// plain is a program that asks for no picture, sampling one that does so at its end.
func plain() []api.Ins {
	return []api.Ins{{Op: api.OpConst, D: 3, N: 255}, {Op: api.OpJump, A: 1, N: 1}, {Op: api.OpMov, A: 2}}
}

func sampling() []api.Ins {
	return append(plain(), api.Ins{Op: api.OpSmooth, A: 4, B: 5})
}

// some is a scene that may be, made anew by each call: of three draws, all of whose things are told by more than one place.
func some() api.Scene {
	return api.Scene{
		W: 5, H: 7, Back: api.Colour{R: 1, G: 2, B: 3, A: 3},
		Verts: []api.Vec{{W: 1}, {X: 4, W: 2, A: [4]int{1, 2, 3, 4}}, {Y: -4, W: 3}, {Z: -9, W: 4}},
		Texs:  []api.Tex{texels(1, 1), texels(2, 3), texels(16, 16)},
		Progs: [][]api.Ins{plain(), sampling(), {{Op: api.OpNear}}, {{}}},
		Draws: []api.Draw{
			{Id: 30, Prog: 0, Tex: -1, Tris: []api.Tri{{Id: 5, V: [3]int{0, 1, 2}}, {Id: 7, V: [3]int{3, 3, 3}}, {Id: 6, V: [3]int{2, 1, 0}}}},
			{Id: 20, Prog: 1, Tex: 2, Opaque: true, Tris: []api.Tri{{Id: 7, V: [3]int{1, 2, 3}}, {Id: 5, V: [3]int{0, 0, 1}}, {Id: 20}}},
			{Id: 5, Prog: 3, Tex: 0, Tris: []api.Tri{{Id: 30, V: [3]int{3, 2, 1}}, {Id: 5}, {Id: 8}}},
		},
	}
}

// greatest is a scene that has as much of all as may be, of things that are all as great as may be.
func greatest() api.Scene {
	s := api.Scene{W: 64, H: 64, Back: api.Colour{R: 255, G: 255, B: 255, A: 255}}
	const c, a = 32768, 4096
	for range 32 {
		s.Verts = append(s.Verts, api.Vec{X: c, Y: -c, Z: c, W: c, A: [4]int{a, -a, a, -a}}, api.Vec{X: -c, Y: c, Z: -c, W: 1, A: [4]int{-a, a, -a, a}})
	}
	for range 4 {
		s.Texs = append(s.Texs, texels(16, 16))
		s.Progs = append(s.Progs, slices.Repeat([]api.Ins{{Op: api.OpNear, D: 4, A: 7, B: 7}}, 32))
	}
	for i := range 8 {
		s.Draws = append(s.Draws, api.Draw{Id: 9999 - i, Prog: 3, Tex: 3, Opaque: true, Tris: tris(32)})
	}
	return s
}

// tris are so many triangles that may be where there are four vertices, with ids from the greatest on.
func tris(n int) []api.Tri {
	var l []api.Tri
	for i := range n {
		l = append(l, api.Tri{Id: 9999 - i, V: [3]int{3, 0, 3}})
	}
	return l
}

// empty is one of a single pixel, and else nothing.
func empty() api.Scene { return api.Scene{W: 1, H: 1} }

func check(t *testing.T, what string, s api.Scene, want api.Errno) {
	t.Helper()
	if got := scene.Check(s); got != want {
		t.Errorf("%s: Check = %d; want %d", what, got, want)
	}
}

// changed checks some, once it is changed.
func changed(t *testing.T, what string, change func(s *api.Scene), want api.Errno) {
	t.Helper()
	s := some()
	change(&s)
	check(t, what, s, want)
}

// P14.1: what may be, from the least to the greatest; the chapter's examples.
func TestCheckOK(t *testing.T) {
	check(t, "the least", empty(), api.OK)
	check(t, "the chapter's second one", api.Scene{W: 65, H: 1}, api.ErrSize)
	check(t, "some", some(), api.OK)
	check(t, "the greatest", greatest(), api.OK)
	check(t, "no scene", api.Scene{}, api.ErrSize)
	s := empty()
	s.Verts, s.Texs, s.Progs, s.Draws = []api.Vec{}, []api.Tex{}, [][]api.Ins{}, []api.Draw{}
	check(t, "lists that are empty, but not nil", s, api.OK)
}

// P14.1, 1: each side by itself.
func TestCheckSize(t *testing.T) {
	for n, want := range map[int]api.Errno{
		0: api.ErrSize, 1: api.OK, 2: api.OK, 63: api.OK, 64: api.OK, 65: api.ErrSize, 66: api.ErrSize,
		-1: api.ErrSize, -2: api.ErrSize, -64: api.ErrSize, most: api.ErrSize, most - 1: api.ErrSize, least: api.ErrSize, least + 1: api.ErrSize,
		1<<32 + 1: api.ErrSize, 1<<8 + 1: api.ErrSize,
	} {
		changed(t, "W", func(s *api.Scene) { s.W = n }, want)
		changed(t, "H", func(s *api.Scene) { s.H = n }, want)
		changed(t, "both", func(s *api.Scene) { s.W, s.H = n, n }, want)
		check(t, "W alone", api.Scene{W: n, H: 1}, want)
		check(t, "H alone", api.Scene{W: 1, H: n}, want)
	}
}

// P14.1, 2: each part of Back.
func TestCheckBack(t *testing.T) {
	for a := range 256 {
		for p := range 256 {
			want := api.OK
			if p > a {
				want = api.ErrArg
			}
			part, all := uint8(p), uint8(a)
			for _, c := range []api.Colour{{R: part, A: all}, {G: part, A: all}, {B: part, A: all}, {R: all, G: all, B: part, A: all}} {
				check(t, "Back", api.Scene{W: 1, H: 1, Back: c}, want)
			}
		}
	}
}

// P14.1, 3: as many as may be, and one more, of each.
func TestCheckCount(t *testing.T) {
	for _, x := range []struct {
		what   string
		most   int
		change func(s *api.Scene, n int)
	}{
		{"vertices", 64, func(s *api.Scene, n int) { s.Verts = slices.Repeat([]api.Vec{{W: 1}}, n) }},
		{"pictures", 4, func(s *api.Scene, n int) { s.Texs = slices.Repeat([]api.Tex{texels(1, 2)}, n) }},
		{"programs", 4, func(s *api.Scene, n int) { s.Progs = slices.Repeat([][]api.Ins{plain()}, n) }},
		{"draws", 8, func(s *api.Scene, n int) {
			s.Progs = [][]api.Ins{plain()}
			for i := range n {
				s.Draws = append(s.Draws, api.Draw{Id: i, Tex: -1})
			}
		}},
		{"triangles of the only draw", 32, func(s *api.Scene, n int) {
			drawn(s, 1)
			s.Draws[0].Tris = tris(n)
		}},
		{"triangles of the first draw", 32, func(s *api.Scene, n int) {
			drawn(s, 8)
			s.Draws[0].Tris = tris(n)
		}},
		{"triangles of the last draw", 32, func(s *api.Scene, n int) {
			drawn(s, 8)
			s.Draws[7].Tris = tris(n)
		}},
		{"triangles of each draw", 32, func(s *api.Scene, n int) {
			drawn(s, 8)
			for i := range s.Draws {
				s.Draws[i].Tris = tris(n)
			}
		}},
	} {
		for n := range 5*x.most + 2 {
			s := empty()
			x.change(&s, n)
			want := api.OK
			if n > x.most {
				want = api.ErrCount
			}
			check(t, x.what, s, want)
		}
	}
}

// drawn gives a scene four vertices, a program, and so many draws without triangles.
func drawn(s *api.Scene, n int) {
	s.Verts = []api.Vec{{W: 1}, {W: 1}, {W: 1}, {W: 1}}
	s.Progs = [][]api.Ins{plain()}
	for i := range n {
		s.Draws = append(s.Draws, api.Draw{Id: i, Tex: -1})
	}
}

// P14.1, 3: how many triangles there are together is not held against anything.
func TestCheckCountTogether(t *testing.T) {
	s := empty()
	drawn(&s, 2)
	s.Draws[0].Tris, s.Draws[1].Tris = tris(32), tris(1)
	check(t, "33 of two draws", s, api.OK)
	s.Draws[0].Tris, s.Draws[1].Tris = tris(31), tris(33)
	check(t, "31 and 33", s, api.ErrCount)
}

// P14.1, 4: each number of a vertex, the first one's, the last one's, and one's between, which no triangle may have.
func TestCheckCoord(t *testing.T) {
	numbers := func(v *api.Vec) []*int {
		return []*int{&v.X, &v.Y, &v.Z, &v.W, &v.A[0], &v.A[1], &v.A[2], &v.A[3]}
	}
	const c, a = 32768, 4096
	bounds := [8][2]int{{-c, c}, {-c, c}, {-c, c}, {1, c}, {-a, a}, {-a, a}, {-a, a}, {-a, a}}
	for i, b := range bounds {
		for n, want := range map[int]api.Errno{
			b[0] - 1: api.ErrCoord, b[0]: api.OK, b[0] + 1: api.OK, b[1] - 1: api.OK, b[1]: api.OK, b[1] + 1: api.ErrCoord,
			least: api.ErrCoord, most: api.ErrCoord, -1 << 32: api.ErrCoord, 1<<32 + 1: api.ErrCoord,
		} {
			for v := range some().Verts {
				changed(t, "a vertex", func(s *api.Scene) { *numbers(&s.Verts[v])[i] = n }, want)
				changed(t, "a vertex, without draws", func(s *api.Scene) { *numbers(&s.Verts[v])[i], s.Draws = n, nil }, want)
			}
			changed(t, "the only vertex", func(s *api.Scene) {
				s.Verts, s.Draws = []api.Vec{{W: 1}}, nil
				*numbers(&s.Verts[0])[i] = n
			}, want)
		}
	}
	for _, at := range []int{0, 1, 31, 62, 63} {
		s := greatest()
		s.Verts[at].W = 0
		check(t, "one of 64", s, api.ErrCoord)
	}
}

// P14.1, 4: pictures that may not be, first, last and between, which no draw may have.
func TestCheckTex(t *testing.T) {
	few, many, none := texels(3, 3), texels(3, 3), texels(3, 3)
	few.Px, many.Px, none.Px = few.Px[1:], append(many.Px, api.Colour{}), nil
	for _, x := range []api.Tex{
		{}, few, many, none, texels(17, 1), texels(1, 17), texels(0, 0), texels(0, 1), texels(1, 0),
		{W: 1, H: 2, Px: texels(1, 1).Px}, {W: -1, H: -1, Px: texels(1, 1).Px}, {W: -2, H: -3, Px: texels(2, 3).Px},
		{W: 1 << 32, H: 1 << 32}, {W: most, H: most, Px: texels(1, 1).Px}, {W: least, H: 1}, {W: least, H: 2}, {W: 1 << 62, H: 4},
	} {
		for at := range some().Texs {
			changed(t, "a picture", func(s *api.Scene) { s.Texs[at] = x }, api.ErrTex)
			changed(t, "a picture, without draws", func(s *api.Scene) { s.Texs[at], s.Draws = x, nil }, api.ErrTex)
		}
		check(t, "the only picture", api.Scene{W: 1, H: 1, Texs: []api.Tex{x}}, api.ErrTex)
	}
	for w := 1; w <= 16; w++ {
		for h := 1; h <= 16; h++ {
			check(t, "a picture that may be", api.Scene{W: 1, H: 1, Texs: []api.Tex{texels(w, h)}}, api.OK)
		}
	}
}

// P14.1, 4: programs that may not be, first, last and between, which no draw may run.
func TestCheckCode(t *testing.T) {
	for _, l := range [][]api.Ins{
		nil, {}, slices.Repeat(plain()[:1], 33), append(plain(), api.Ins{Op: 15}), append(plain(), api.Ins{Op: 255}),
		{{Op: api.OpConst, D: 8}}, {{Op: api.OpMov, A: 8}}, {{Op: api.OpAdd, B: 8}}, {{Op: api.OpConst, A: 1}}, {{Op: api.OpSmooth, D: 5}},
		{{Op: api.OpConst, N: 1 << 31}}, {{Op: api.OpLeft, N: 32}}, {{Op: api.OpJump, N: 1}}, {{Op: api.OpJump, N: -1}}, {{Op: api.OpJump, N: most}},
		append(plain(), api.Ins{Op: api.OpJump, N: 1}), {{Op: api.OpRight, N: -1}, {}},
	} {
		for at := range some().Progs {
			changed(t, "a program", func(s *api.Scene) { s.Progs[at] = l }, api.ErrCode)
			changed(t, "a program, without draws", func(s *api.Scene) { s.Progs[at], s.Draws = l, nil }, api.ErrCode)
		}
		check(t, "the only program", api.Scene{W: 1, H: 1, Progs: [][]api.Ins{l}}, api.ErrCode)
	}
	for n := 1; n <= 32; n++ {
		check(t, "a program that may be", api.Scene{W: 1, H: 1, Progs: [][]api.Ins{slices.Repeat(plain()[:1], n)}}, api.OK)
	}
}

// ids are an id at the edges and beside them, and what is told of it.
func ids() map[int]api.Errno {
	return map[int]api.Errno{
		-1: api.ErrIndex, 0: api.OK, 1: api.OK, 9998: api.OK, 9999: api.OK, 10000: api.ErrIndex, 10001: api.ErrIndex, -2: api.ErrIndex,
		-9999: api.ErrIndex, least: api.ErrIndex, most: api.ErrIndex, 1 << 32: api.ErrIndex, 1<<16 + 1: api.ErrIndex,
	}
}

// places are a place of a row of so many at the edges and beside them, and what is told of it.
func places(n int) map[int]api.Errno {
	l := map[int]api.Errno{
		-2: api.ErrIndex, -1: api.ErrIndex, n: api.ErrIndex, n + 1: api.ErrIndex,
		least: api.ErrIndex, most: api.ErrIndex, 1 << 32: api.ErrIndex, -1 << 32: api.ErrIndex, 256: api.ErrIndex,
	}
	for i := range n {
		l[i] = api.OK
	}
	return l
}

// P14.1, 5: the Id of a draw, and of a triangle, each of them.
func TestCheckIds(t *testing.T) {
	for n, want := range ids() {
		for d := range some().Draws {
			changed(t, "the Id of a draw", func(s *api.Scene) { s.Draws[d].Id = n }, want)
			changed(t, "the Id of a draw without triangles", func(s *api.Scene) { s.Draws[d].Id, s.Draws[d].Tris = n, nil }, want)
			for k := range some().Draws[d].Tris {
				changed(t, "the Id of a triangle", func(s *api.Scene) { s.Draws[d].Tris[k].Id = n }, want)
			}
		}
	}
}

// P14.1, 5: the Prog of a draw.
func TestCheckProg(t *testing.T) {
	for n := 1; n <= 4; n++ {
		for p, want := range places(n) {
			for d := range some().Draws {
				changed(t, "Prog", func(s *api.Scene) {
					s.Progs = slices.Repeat([][]api.Ins{plain()}, n)
					for i := range s.Draws {
						s.Draws[i].Prog = 0
					}
					s.Draws[d].Prog = p
				}, want)
			}
		}
	}
	for p := range places(4) {
		check(t, "no programs", api.Scene{W: 1, H: 1, Draws: []api.Draw{{Prog: p, Tex: -1}}}, api.ErrIndex)
		check(t, "no programs, but pictures", api.Scene{W: 1, H: 1, Texs: []api.Tex{texels(1, 1)}, Draws: []api.Draw{{Prog: p}}}, api.ErrIndex)
	}
}

// P14.1, 5: the Tex of a draw, whose program asks for a picture or does not.
func TestCheckDrawTex(t *testing.T) {
	for n := 0; n <= 4; n++ {
		for x, want := range places(n) {
			for d := range some().Draws {
				give := func(s *api.Scene, l []api.Ins) {
					s.Texs = slices.Repeat([]api.Tex{texels(1, 1)}, n)
					s.Progs = [][]api.Ins{plain(), l}
					for i := range s.Draws {
						s.Draws[i].Prog, s.Draws[i].Tex = 0, -1
					}
					s.Draws[d].Prog, s.Draws[d].Tex = 1, x
				}
				without := want
				if x == -1 {
					without = api.OK
				}
				changed(t, "a program without", func(s *api.Scene) { give(s, plain()) }, without)
				changed(t, "smooth at the end", func(s *api.Scene) { give(s, sampling()) }, want)
				changed(t, "near at first", func(s *api.Scene) { give(s, []api.Ins{{Op: api.OpNear, D: 4}, {}}) }, want)
				changed(t, "near behind a jump", func(s *api.Scene) {
					give(s, []api.Ins{{Op: api.OpConst, N: 1}, {Op: api.OpJump, N: 1}, {Op: api.OpNear}})
				}, want)
			}
		}
	}
}

// P14.1, 5: it is the draw's own program that asks for a picture, no other one's.
func TestCheckOwnProgram(t *testing.T) {
	s := empty()
	s.Progs = [][]api.Ins{plain(), sampling(), plain()}
	for p, want := range []api.Errno{api.OK, api.ErrIndex, api.OK} {
		s.Draws = []api.Draw{{Prog: p, Tex: -1}}
		check(t, "its own", s, want)
	}
}

// P14.1, 5: each vertex of each triangle.
func TestCheckVertices(t *testing.T) {
	for n := 1; n <= 5; n++ {
		for v, want := range places(n) {
			for d := range some().Draws {
				for k := range some().Draws[d].Tris {
					for i := range 3 {
						changed(t, "a vertex", func(s *api.Scene) {
							s.Verts = slices.Repeat([]api.Vec{{W: 1}}, n)
							for _, x := range s.Draws {
								for j := range x.Tris {
									x.Tris[j].V = [3]int{n - 1, 0, n - 1}
								}
							}
							s.Draws[d].Tris[k].V[i] = v
						}, want)
					}
				}
			}
		}
	}
	s := greatest()
	s.Draws[7].Tris[31].V = [3]int{63, 63, 63}
	check(t, "the last of 64", s, api.OK)
	s.Draws[7].Tris[31].V[2] = 64
	check(t, "one beyond 64", s, api.ErrIndex)
	s = some()
	s.Verts = nil
	check(t, "no vertices", s, api.ErrIndex)
}

// P14.1, 5: an Id twice among the draws, next to each other and apart, each pair of eight.
func TestCheckDrawTwice(t *testing.T) {
	for i := range 8 {
		for j := range i {
			for _, id := range []int{0, 1, 9999} {
				s := empty()
				drawn(&s, 8)
				for d := range s.Draws {
					s.Draws[d].Id = 100 + d
				}
				s.Draws[j].Id = id
				check(t, "once", s, api.OK)
				s.Draws[i].Id = id
				check(t, "twice", s, api.ErrTwice)
				s.Draws = s.Draws[:i]
				check(t, "without the second", s, api.OK)
			}
		}
	}
	s := empty()
	drawn(&s, 8)
	for i := range s.Draws {
		s.Draws[i].Id = 0
	}
	check(t, "eight times", s, api.ErrTwice)
}

// P14.1, 5: an Id twice among the triangles of a draw, each pair of 32, in each of three draws.
func TestCheckTriTwice(t *testing.T) {
	for i := range 32 {
		for j := range i {
			for _, id := range []int{0, 1, 9967} {
				for d := range 3 {
					s := empty()
					drawn(&s, 3)
					s.Draws[0].Tris, s.Draws[1].Tris, s.Draws[2].Tris = tris(32), tris(32), tris(32)
					s.Draws[d].Tris[j].Id = id
					check(t, "once", s, api.OK)
					s.Draws[d].Tris[i].Id = id
					check(t, "twice", s, api.ErrTwice)
				}
			}
		}
	}
}

// P14.1, 5: the same Id may be that of triangles of two draws, and of a draw and a triangle.
func TestCheckSameElsewhere(t *testing.T) {
	s := empty()
	drawn(&s, 8)
	for i := range s.Draws {
		s.Draws[i].Id = 9999 - i
		s.Draws[i].Tris = tris(32)
	}
	check(t, "of two draws, of a draw and its own, or another one's", s, api.OK)
	s = empty()
	drawn(&s, 2)
	s.Draws[0].Tris, s.Draws[1].Tris = []api.Tri{{Id: 1}}, []api.Tri{{Id: 0}}
	check(t, "of a draw and another one's", s, api.OK)
	s.Draws[0].Tris, s.Draws[1].Tris = []api.Tri{{Id: 0}}, []api.Tri{{Id: 1}}
	check(t, "of a draw and its own", s, api.OK)
	s.Draws[0].Tris, s.Draws[1].Tris = []api.Tri{{Id: 8}}, []api.Tri{{Id: 8}}
	check(t, "of two draws", s, api.OK)
}

// P14.1: all else may be the same twice.
func TestCheckSameElse(t *testing.T) {
	s := some()
	for i := range s.Verts {
		s.Verts[i] = s.Verts[0]
	}
	s.Texs[1] = s.Texs[0]
	s.Progs[3] = s.Progs[0]
	for i := range s.Draws {
		s.Draws[i].Prog, s.Draws[i].Tex, s.Draws[i].Tris = 1, 1, s.Draws[0].Tris
	}
	check(t, "all the same", s, api.OK)
}

// fault is a way to make some not right: the steps count on in the order in which things are asked, point by point, and draw by draw.
type fault struct {
	step   int
	want   api.Errno
	what   string
	change func(s *api.Scene)
}

// faults are those of the points 1 to 4, in the order in which they are told.
func faults() []fault {
	return []fault{
		{0, api.ErrSize, "W", func(s *api.Scene) { s.W = 0 }},
		{0, api.ErrSize, "H", func(s *api.Scene) { s.H = 65 }},
		{1, api.ErrArg, "Back", func(s *api.Scene) { s.Back.G = 4 }},
		{2, api.ErrCount, "many Verts", func(s *api.Scene) { s.Verts = append(s.Verts, make([]api.Vec, 61)...) }},
		{2, api.ErrCount, "many Texs", func(s *api.Scene) { s.Texs = append(s.Texs, make([]api.Tex, 2)...) }},
		{2, api.ErrCount, "many Progs", func(s *api.Scene) { s.Progs = append(s.Progs, nil) }},
		{2, api.ErrCount, "many Draws", func(s *api.Scene) { s.Draws = append(s.Draws, make([]api.Draw, 6)...) }},
		{2, api.ErrCount, "many Tris, first", func(s *api.Scene) { s.Draws[0].Tris = append(s.Draws[0].Tris, make([]api.Tri, 30)...) }},
		{2, api.ErrCount, "many Tris, last", func(s *api.Scene) { s.Draws[2].Tris = append(s.Draws[2].Tris, make([]api.Tri, 30)...) }},
		{3, api.ErrCoord, "the first vertex", func(s *api.Scene) { s.Verts[0].X = 1 << 16 }},
		{3, api.ErrCoord, "the last vertex", func(s *api.Scene) { s.Verts[3].A[3] = -1 << 16 }},
		{4, api.ErrTex, "the first picture", func(s *api.Scene) { s.Texs[0].W = 0 }},
		{4, api.ErrTex, "the last picture", func(s *api.Scene) { s.Texs[2].H = 17 }},
		{5, api.ErrCode, "the first program", func(s *api.Scene) { s.Progs[0] = nil }},
		{5, api.ErrCode, "the last program", func(s *api.Scene) { s.Progs[3][0].Op = 15 }},
	}
}

// faultsOfDraw are those of point 5 of a draw: ErrIndex, then ErrTwice, of which each changes another thing.
func faultsOfDraw(d int) []fault {
	step := 6 + 2*d
	l := []fault{
		{step, api.ErrIndex, "Prog", func(s *api.Scene) { s.Draws[d].Prog = 4 }},
		{step, api.ErrIndex, "Tex below", func(s *api.Scene) { s.Draws[d].Tex = -2 }},
		{step, api.ErrIndex, "Tex beyond", func(s *api.Scene) { s.Draws[d].Tex = 3 }},
		{step, api.ErrIndex, "no picture", func(s *api.Scene) { s.Draws[d].Prog, s.Draws[d].Tex = 2, -1 }},
		{step, api.ErrIndex, "a triangle's Id", func(s *api.Scene) { s.Draws[d].Tris[2].Id = 10000 }},
		{step, api.ErrIndex, "the first vertex", func(s *api.Scene) { s.Draws[d].Tris[0].V[0] = -1 }},
		{step, api.ErrIndex, "the last vertex", func(s *api.Scene) { s.Draws[d].Tris[2].V[2] = 4 }},
		{step + 1, api.ErrTwice, "triangles", func(s *api.Scene) { s.Draws[d].Tris[1].Id = s.Draws[d].Tris[0].Id }},
	}
	if d > 0 {
		l = append(l, fault{step + 1, api.ErrTwice, "draws", func(s *api.Scene) { s.Draws[d].Id = s.Draws[0].Id }})
	}
	return l
}

func allFaults() []fault {
	l := faults()
	for d := range 3 {
		l = append(l, faultsOfDraw(d)...)
	}
	return l
}

// P14.1, R3: of two things that are so the first is told, of each pair.
func TestCheckFirstOfTwo(t *testing.T) {
	for _, a := range allFaults() {
		changed(t, a.what, a.change, a.want)
		for _, b := range allFaults() {
			want := a.want
			if b.step < a.step {
				want = b.want
			}
			changed(t, a.what+" and "+b.what, func(s *api.Scene) {
				a.change(s)
				b.change(s)
			}, want)
		}
	}
}

// P14.1, R3: of all that is so from a step on, one of each step, the first is told.
func TestCheckFirstOfAll(t *testing.T) {
	all := allFaults()
	last := all[len(all)-1].step
	for first := range last + 1 {
		s := some()
		want := api.OK
		for step := first; step <= last; step++ {
			i := slices.IndexFunc(all, func(f fault) bool { return f.step == step })
			all[i].change(&s)
			if want == api.OK {
				want = all[i].want
			}
		}
		check(t, "all from a step on", s, want)
	}
}

// P14.1, 5: of a draw, a wrong Id of it comes ahead of its triangles' twice, and a draw's ErrTwice ahead of a later draw's ErrIndex.
func TestCheckIndexAndTwice(t *testing.T) {
	changed(t, "ErrIndex ahead of ErrTwice", func(s *api.Scene) { s.Draws[1].Id, s.Draws[1].Tris[1].Id = -1, 7 }, api.ErrIndex)
	changed(t, "both draws' Id wrong", func(s *api.Scene) { s.Draws[0].Id, s.Draws[1].Id = 10000, 10000 }, api.ErrIndex)
	changed(t, "both triangles' Id wrong", func(s *api.Scene) { s.Draws[0].Tris[0].Id, s.Draws[0].Tris[1].Id = -1, -1 }, api.ErrIndex)
	changed(t, "triangles twice, the next draw's Id wrong", func(s *api.Scene) { s.Draws[1].Tris[1].Id, s.Draws[2].Id = 7, -1 }, api.ErrTwice)
	changed(t, "a draw twice, the next one's Prog wrong", func(s *api.Scene) { s.Draws[1].Id, s.Draws[2].Prog = 30, -1 }, api.ErrTwice)
	changed(t, "a draw twice, an Id wrong ahead of it", func(s *api.Scene) { s.Draws[0].Tris[0].Id, s.Draws[1].Id = -1, 30 }, api.ErrIndex)
	changed(t, "a draw twice with the one behind it, that is wrong", func(s *api.Scene) { s.Draws[2].Id, s.Draws[2].Tex = 20, 3 }, api.ErrIndex)
	changed(t, "a draw twice with the one behind it, and one wrong between", func(s *api.Scene) { s.Draws[2].Id, s.Draws[1].Tex = 30, 3 }, api.ErrIndex)
}

// over is all that a range tells.
func over(seq iter.Seq2[int, int]) []place {
	var l []place
	for d, k := range seq {
		l = append(l, place{d, k})
	}
	return l
}

// sized is a scene of draws of so many triangles each, and of nothing else: one that may not be, of which both calls are asked too.
func sized(sizes ...int) api.Scene {
	var s api.Scene
	for _, n := range sizes {
		s.Draws = append(s.Draws, api.Draw{Tris: make([]api.Tri, n)})
	}
	return s
}

func checkEach(t *testing.T, s api.Scene, want ...place) {
	t.Helper()
	if got := over(scene.Each(s)); !slices.Equal(got, want) {
		t.Errorf("Each of %+v: %v; want %v", s.Draws, got, want)
	}
	if got := scene.Count(s); got != len(want) {
		t.Errorf("Count of %+v: %d; want %d", s.Draws, got, len(want))
	}
}

// P14.2: all triangles of all draws, in order; draws without any tell nothing, wherever they are.
func TestEach(t *testing.T) {
	checkEach(t, api.Scene{})
	checkEach(t, empty())
	checkEach(t, sized(0))
	checkEach(t, sized(0, 0, 0))
	checkEach(t, sized(1), place{0, 0})
	checkEach(t, sized(3), place{0, 0}, place{0, 1}, place{0, 2})
	checkEach(t, sized(0, 1), place{1, 0})
	checkEach(t, sized(1, 0), place{0, 0})
	checkEach(t, sized(2, 0, 0, 3, 0, 1, 0), place{0, 0}, place{0, 1}, place{3, 0}, place{3, 1}, place{3, 2}, place{5, 0})
	checkEach(t, some(), place{0, 0}, place{0, 1}, place{0, 2}, place{1, 0}, place{1, 1}, place{1, 2}, place{2, 0}, place{2, 1}, place{2, 2})
}

// P14.2: of draws of all sizes, also of more than may be.
func TestEachOfMany(t *testing.T) {
	r := rand.New(rand.NewSource(142))
	for range 300 {
		sizes := make([]int, r.Intn(12))
		var want []place
		for d := range sizes {
			sizes[d] = r.Intn(4) * r.Intn(16)
			for k := range sizes[d] {
				want = append(want, place{d, k})
			}
		}
		checkEach(t, sized(sizes...), want...)
	}
	if got := scene.Count(greatest()); got != 256 {
		t.Errorf("Count of the greatest: %d", got)
	}
	if got := scene.Count(sized(1<<16, 0, 5)); got != 1<<16+5 {
		t.Errorf("Count of many: %d", got)
	}
}

// P14.2: it goes through places, whatever the ids, the order of them, or how they are drawn.
func TestEachOfPlaces(t *testing.T) {
	s := some()
	want := over(scene.Each(s))
	for i := range s.Draws {
		s.Draws[i] = api.Draw{Id: -1, Prog: most, Tex: least, Opaque: i == 0, Tris: []api.Tri{{Id: 9}, {Id: 9}, {Id: -3, V: [3]int{-1, most, least}}}}
	}
	checkEach(t, s, want...)
	s.W, s.H, s.Verts, s.Texs, s.Progs, s.Back = 0, -1, nil, nil, nil, api.Colour{R: 1}
	checkEach(t, s, want...)
}

// P14.2: left early at each place, and gone over again.
func TestEachLeftEarly(t *testing.T) {
	s := sized(0, 3, 0, 1, 4, 0)
	all := over(scene.Each(s))
	seq := scene.Each(s)
	for n := range all {
		var got []place
		for d, k := range seq {
			got = append(got, place{d, k})
			if len(got) == n+1 {
				break
			}
		}
		if !slices.Equal(got, all[:n+1]) {
			t.Errorf("left behind %d: %v", n, got)
		}
		if again := over(seq); !slices.Equal(again, all) {
			t.Errorf("again behind %d: %v", n, again)
		}
	}
}

// P14.2: no place is told any more once a range is left.
func TestEachEnds(t *testing.T) {
	for n := range 8 {
		calls := 0
		scene.Each(sized(3, 0, 5))(func(int, int) bool {
			calls++
			return calls <= n
		})
		if calls != n+1 {
			t.Errorf("left at %d: %d calls", n, calls)
		}
	}
}

// P14.2: gone over again within itself, and by two that go on in turn.
func TestEachWithinItself(t *testing.T) {
	seq := scene.Each(sized(2, 0, 3))
	all := over(seq)
	var outer []place
	for d, k := range seq {
		outer = append(outer, place{d, k})
		if inner := over(seq); !slices.Equal(inner, all) {
			t.Errorf("within, at %d, %d: %v", d, k, inner)
		}
		for range seq {
			break
		}
	}
	if !slices.Equal(outer, all) {
		t.Errorf("without: %v", outer)
	}
	one, stopOne := iter.Pull2(seq)
	other, stopOther := iter.Pull2(seq)
	defer stopOne()
	defer stopOther()
	for _, want := range all {
		d, k, _ := one()
		e, l, _ := other()
		if want != (place{d, k}) || want != (place{e, l}) {
			t.Errorf("in turn: %d, %d and %d, %d; want %v", d, k, e, l, want)
		}
	}
}

// P14.2, R7: a range goes over the scene that it was told of, not over what the caller's own becomes.
func TestEachKeeps(t *testing.T) {
	s := sized(2, 1)
	seq := scene.Each(s)
	s.Draws = append(s.Draws, api.Draw{Tris: make([]api.Tri, 3)})
	if got := over(seq); !slices.Equal(got, []place{{0, 0}, {0, 1}, {1, 0}}) {
		t.Errorf("more draws: %v", got)
	}
	s.Draws = nil
	if got := over(seq); len(got) != 3 {
		t.Errorf("no draws: %v", got)
	}
}

// shuffled is a scene with its draws, and the triangles of each, in another order.
func shuffled(r *rand.Rand, s api.Scene) api.Scene {
	s.Draws = slices.Clone(s.Draws)
	r.Shuffle(len(s.Draws), func(i, j int) { s.Draws[i], s.Draws[j] = s.Draws[j], s.Draws[i] })
	for i := range s.Draws {
		l := slices.Clone(s.Draws[i].Tris)
		r.Shuffle(len(l), func(i, j int) { l[i], l[j] = l[j], l[i] })
		s.Draws[i].Tris = l
	}
	return s
}

// chance is a scene of few ids and places, which may be or not.
func chance(r *rand.Rand) api.Scene {
	s := some()
	s.Draws = nil
	wide := 3 + r.Intn(40)
	for range r.Intn(10) {
		d := api.Draw{Id: r.Intn(2 * wide), Prog: r.Intn(4), Tex: r.Intn(4) - 1, Opaque: r.Intn(2) == 0}
		for range r.Intn(5) * r.Intn(9) {
			d.Tris = append(d.Tris, api.Tri{Id: r.Intn(30 * wide), V: [3]int{r.Intn(4), r.Intn(4), r.Intn(4)}})
		}
		if r.Intn(8) == 0 && len(d.Tris) > 0 {
			d.Tris[r.Intn(len(d.Tris))].V[r.Intn(3)] = r.Intn(6) - 1
		}
		s.Draws = append(s.Draws, d)
	}
	// Faults ask for three draws.
	if l := faults(); len(s.Draws) > 2 && r.Intn(4) == 0 {
		l[r.Intn(len(l))].change(&s)
	}
	return s
}

// P14.3: whether a scene may be hangs not on the order of its draws, nor of their triangles; nor does an error ahead of point 5, nor Count.
func TestOrder(t *testing.T) {
	r := rand.New(rand.NewSource(143))
	told := map[api.Errno]int{}
	for range 3000 {
		s := chance(r)
		want := scene.Check(s)
		told[want]++
		for range 5 {
			x := shuffled(r, s)
			got := scene.Check(x)
			if (got == api.OK) != (want == api.OK) || got != want && got != api.ErrIndex && got != api.ErrTwice {
				t.Fatalf("Check of %+v is %d, of %+v %d", s, want, x, got)
			}
			if scene.Count(x) != scene.Count(s) {
				t.Fatalf("Count of %+v and %+v", s, x)
			}
		}
	}
	for _, e := range []api.Errno{api.OK, api.ErrSize, api.ErrArg, api.ErrCount, api.ErrCoord, api.ErrTex, api.ErrCode, api.ErrIndex, api.ErrTwice} {
		if told[e] < 20 {
			t.Errorf("%d is told of %d scenes alone", e, told[e])
		}
	}
}

// P14.3: all orders of three draws, and of the triangles of one, with each fault.
func TestAllOrders(t *testing.T) {
	orders := [][3]int{{0, 1, 2}, {0, 2, 1}, {1, 0, 2}, {1, 2, 0}, {2, 0, 1}, {2, 1, 0}}
	for _, f := range append(allFaults(), fault{change: func(*api.Scene) {}, what: "nothing", want: api.OK}) {
		for _, o := range orders {
			changed(t, f.what+", draws in another order", func(s *api.Scene) {
				f.change(s)
				x := slices.Clone(s.Draws)
				for i := range o {
					s.Draws[i] = x[o[i]]
				}
			}, f.want)
			changed(t, f.what+", triangles in another order", func(s *api.Scene) {
				f.change(s)
				for d := range s.Draws {
					x := slices.Clone(s.Draws[d].Tris)
					for i := range min(len(x), 3) {
						s.Draws[d].Tris[i] = x[o[i]]
					}
				}
			}, f.want)
		}
	}
}

// roomy is a scene whose lists go on behind their ends, where nothing may be written either: with all that is there.
func roomy(s api.Scene) (short, whole api.Scene) {
	whole = s
	whole.Verts = append(slices.Clone(s.Verts), api.Vec{X: 1})
	whole.Texs = append(slices.Clone(s.Texs), api.Tex{W: -1})
	whole.Progs = append(slices.Clone(s.Progs), []api.Ins{{Op: 99}})
	whole.Draws = append(slices.Clone(s.Draws), api.Draw{Id: -7, Tris: tris(40)}, api.Draw{Id: -7})
	for i := range whole.Texs {
		l := append(slices.Clone(whole.Texs[i].Px), api.Colour{R: 3})
		whole.Texs[i].Px = l[:len(l)-1]
	}
	for i := range whole.Progs {
		l := append(slices.Clone(whole.Progs[i]), api.Ins{Op: 77})
		whole.Progs[i] = l[:len(l)-1]
	}
	for i := range whole.Draws {
		l := append(slices.Clone(whole.Draws[i].Tris), api.Tri{Id: -8})
		whole.Draws[i].Tris = l[:len(l)-1]
	}
	short = whole
	short.Verts, short.Texs = whole.Verts[:len(s.Verts)], whole.Texs[:len(s.Texs)]
	short.Progs, short.Draws = whole.Progs[:len(s.Progs)], whole.Draws[:len(s.Draws)]
	return short, whole
}

// behind are all lists of a scene up to their room.
func behind(s api.Scene) []any {
	l := []any{slices.Clone(s.Verts[:cap(s.Verts)])}
	for _, x := range s.Texs {
		l = append(l, x.W, x.H, slices.Clone(x.Px[:cap(x.Px)]))
	}
	for _, x := range s.Progs {
		l = append(l, slices.Clone(x[:cap(x)]))
	}
	for _, x := range s.Draws {
		l = append(l, x.Id, x.Prog, x.Tex, x.Opaque, slices.Clone(x.Tris[:cap(x.Tris)]))
	}
	return l
}

// R7, R6: a scene that is handed in does not change, nor what is behind the ends of its lists; asked again, it is the same; what becomes of it is seen by the calls behind.
func TestOwn(t *testing.T) {
	for _, f := range append(allFaults(), fault{change: func(*api.Scene) {}, want: api.OK}) {
		s := some()
		f.change(&s)
		short, whole := roomy(s)
		kept := behind(whole)
		check(t, f.what, short, f.want)
		check(t, f.what+", again", short, f.want)
		first := over(scene.Each(short))
		if n := scene.Count(short); n != len(first) || n != scene.Count(s) {
			t.Errorf("%s: Count is %d, of %d", f.what, n, len(first))
		}
		if !reflect.DeepEqual(kept, behind(whole)) {
			t.Errorf("%s: changed", f.what)
		}
	}
	s := some()
	check(t, "ahead", s, api.OK)
	s.Draws[0].Tris[2].Id = 5
	check(t, "changed", s, api.ErrTwice)
	s.Draws[0].Tris[2].Id = 6
	check(t, "changed back", s, api.OK)
}

// R1: scenes of any kind end, and none panics.
func TestNoPanic(t *testing.T) {
	r := rand.New(rand.NewSource(141))
	far := []int{least, least + 1, -2, -1, 0, 1, 2, 3, 4, 64, 65, 9999, 10000, most - 1, most}
	anyOf := func() int { return far[r.Intn(len(far))] }
	for range 5000 {
		s := chance(r)
		if len(s.Verts) > 0 && r.Intn(9) == 0 {
			s.Verts[r.Intn(len(s.Verts))].Z = anyOf()
		}
		if r.Intn(9) == 0 {
			s.Texs = append(s.Texs[:r.Intn(3)], api.Tex{W: anyOf(), H: anyOf(), Px: make([]api.Colour, r.Intn(5))})
		}
		if r.Intn(9) == 0 {
			s.Progs = s.Progs[:r.Intn(len(s.Progs))]
		}
		for i := range s.Draws {
			d := &s.Draws[i]
			switch r.Intn(9) {
			case 0:
				d.Id = anyOf()
			case 1:
				d.Prog = anyOf()
			case 2:
				d.Tex = anyOf()
			case 3:
				d.Tris = append(d.Tris, api.Tri{Id: anyOf(), V: [3]int{anyOf(), anyOf(), anyOf()}})
			}
		}
		scene.Check(s)
		if got := len(over(scene.Each(s))); got != scene.Count(s) {
			t.Fatalf("Each of %+v: %d; Count: %d", s, got, scene.Count(s))
		}
	}
	for n := range 100 {
		s := some()
		s.Draws = make([]api.Draw, n)
		scene.Check(s)
		s.Texs, s.Progs = nil, nil
		scene.Check(s)
		s.Verts = make([]api.Vec, n)
		scene.Check(s)
	}
}
