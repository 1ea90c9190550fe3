package key_test

import (
	"iter"
	"math"
	"slices"
	"testing"

	"glazier/api"
	"glazier/key"
)

const (
	least = math.MinInt
	most  = math.MaxInt
)

// places are a key's numbers, the one that says the most first.
func places(k api.Key) [4]int { return [4]int{k.Z, k.Draw, k.Tri, k.Part} }

func keyOf(p [4]int) api.Key { return api.Key{Z: p[0], Draw: p[1], Tri: p[2], Part: p[3]} }

// compared is what the document says of two keys: spelt out apart from the program's own way.
func compared(a, b api.Key) int {
	p, q := places(a), places(b)
	for i := range p {
		if p[i] < q[i] {
			return -1
		}
		if p[i] > q[i] {
			return 1
		}
	}
	return 0
}

// everyWay are all keys of four of these numbers.
func everyWay(of ...int) []api.Key {
	l := []api.Key{{}}
	for place := range 4 {
		var longer []api.Key
		for _, k := range l {
			for _, n := range of {
				p := places(k)
				p[place] = n
				longer = append(longer, keyOf(p))
			}
		}
		l = longer
	}
	return l
}

// holds tells whether Compare says want of a and b, and the other of b and a.
func holds(t *testing.T, a, b api.Key, want int) {
	t.Helper()
	if c := key.Compare(a, b); c != want {
		t.Fatal(a, b, "told", c, "asked", want)
	}
	if c := key.Compare(b, a); c != -want {
		t.Fatal(b, a, "told", c, "asked", -want)
	}
}

// P16.1: cases written out by hand.
func TestCompare(t *testing.T) {
	k := api.Key{Z: 10, Draw: 20, Tri: 30, Part: 40}
	for _, c := range []struct {
		k    api.Key
		want int
	}{
		{k, 0},
		{api.Key{Z: 11, Draw: 20, Tri: 30, Part: 40}, -1},
		{api.Key{Z: 9, Draw: 20, Tri: 30, Part: 40}, 1},
		{api.Key{Z: 10, Draw: 21, Tri: 30, Part: 40}, -1},
		{api.Key{Z: 10, Draw: 19, Tri: 30, Part: 40}, 1},
		{api.Key{Z: 10, Draw: 20, Tri: 31, Part: 40}, -1},
		{api.Key{Z: 10, Draw: 20, Tri: 29, Part: 40}, 1},
		{api.Key{Z: 10, Draw: 20, Tri: 30, Part: 41}, -1},
		{api.Key{Z: 10, Draw: 20, Tri: 30, Part: 39}, 1},
		{api.Key{Z: 11, Draw: 0, Tri: 0, Part: 0}, -1},
		{api.Key{Z: 9, Draw: 99, Tri: 99, Part: 99}, 1},
		{api.Key{Z: 10, Draw: 21, Tri: 0, Part: 0}, -1},
		{api.Key{Z: 10, Draw: 19, Tri: 99, Part: 99}, 1},
		{api.Key{Z: 10, Draw: 20, Tri: 31, Part: 0}, -1},
		{api.Key{Z: 10, Draw: 20, Tri: 29, Part: 99}, 1},
		{api.Key{}, 1},
		{api.Key{Z: -10, Draw: -20, Tri: -30, Part: -40}, 1},
	} {
		holds(t, k, c.k, c.want)
	}
	holds(t, api.Key{}, api.Key{}, 0)
}

// P16.1: keys of which one place differs, by one and by as much as ints can, on either side of 0; those ahead are the same, those behind go every way.
func TestCompareOnePlace(t *testing.T) {
	edges := []int{least, least + 1, -1 << 32, -2, -1, 0, 1, 2, 1 << 32, most - 1, most}
	behind := everyWay(least, -1, 0, 1, most)
	for place := range 4 {
		for i, n := range edges {
			for _, m := range edges[i:] {
				for _, k := range behind {
					a, b := places(k), [4]int{7, -7, 7, -7}
					for ahead := range place {
						b[ahead] = a[ahead]
					}
					a[place], b[place] = n, m
					holds(t, keyOf(a), keyOf(b), compared(keyOf(a), keyOf(b)))
					if n < m {
						holds(t, keyOf(a), keyOf(b), -1)
					}
				}
			}
		}
	}
}

// P16.1: all keys of the greatest and least ints and of those about 0, against each other.
func TestCompareEveryWay(t *testing.T) {
	all := everyWay(least, -1, 0, 1, most)
	for i, a := range all {
		for _, b := range all[i:] {
			holds(t, a, b, compared(a, b))
		}
		if key.Compare(a, a) != 0 {
			t.Fatal(a)
		}
	}
}

// P16.1: everyWay begins with the least and tells ever greater ones, so that each is nearer than those behind it.
func TestCompareInOrder(t *testing.T) {
	all := everyWay(least, -2, -1, 0, 1, 2, most)
	if !slices.IsSortedFunc(all, key.Compare) {
		t.Fatal("not in order")
	}
	for i := range all[1:] {
		if key.Compare(all[i], all[i+1]) != -1 {
			t.Fatal(all[i], all[i+1])
		}
	}
}

// named is a thing that may be told apart from others of its key.
type named struct {
	k    api.Key
	name int
}

func ofNamed(x named) api.Key { return x.k }

// told is all that a function to range over tells.
func told[T any](all iter.Seq[T]) []T {
	var l []T
	for x := range all {
		l = append(l, x)
	}
	return l
}

// modelled is a list as the document says it: things in the order they were put in, of which the farthest is looked for anew each time.
type modelled struct{ put []named }

func (m *modelled) far() []named {
	var l []named
	left := slices.Clone(m.put)
	for len(left) > 0 {
		farthest := 0
		for i, x := range left {
			if compared(x.k, left[farthest].k) > 0 {
				farthest = i
			}
		}
		l = append(l, left[farthest])
		left = slices.Delete(left, farthest, farthest+1)
	}
	return l
}

func (m *modelled) cut(n int) {
	stay := m.far()
	if n < 0 {
		n = 0
	}
	if n < len(stay) {
		m.put = stay[:n]
	}
}

// agrees tells whether a list is as the model is.
func agrees(t *testing.T, l *key.List[named], m *modelled) {
	t.Helper()
	if got, want := told(l.Far()), m.far(); !slices.Equal(got, want) || l.Len() != len(want) {
		t.Fatal("told", got, l.Len(), "asked", want)
	}
}

// numbers is a list of numbers, whose depth they are.
func numbers(put ...int) *key.List[int] {
	l := key.New(func(n int) api.Key { return api.Key{Z: n} })
	for _, n := range put {
		l.Put(n)
	}
	return l
}

// shows tells whether a list is of these, in this order.
func shows(t *testing.T, l *key.List[int], want ...int) {
	t.Helper()
	if got := told(l.Far()); !slices.Equal(got, want) || l.Len() != len(want) {
		t.Fatal("told", got, l.Len(), "asked", want)
	}
}

// P16.2: the chapter's example, lists of none and of one, things put in in order, the other way round, and turned.
func TestList(t *testing.T) {
	shows(t, numbers(3, 9, 5), 9, 5, 3)
	shows(t, numbers())
	shows(t, numbers(7), 7)
	shows(t, numbers(0), 0)
	shows(t, numbers(least), least)
	shows(t, numbers(9, 8, 7, 6, 5, 4), 9, 8, 7, 6, 5, 4)
	shows(t, numbers(4, 5, 6, 7, 8, 9), 9, 8, 7, 6, 5, 4)
	for turn := range 6 {
		l := []int{4, 5, 6, 7, 8, 9}
		shows(t, numbers(append(l[turn:], l[:turn]...)...), 9, 8, 7, 6, 5, 4)
		l = []int{9, 8, 7, 6, 5, 4}
		shows(t, numbers(append(l[turn:], l[:turn]...)...), 9, 8, 7, 6, 5, 4)
	}
	shows(t, numbers(0, most, -1, least, 1, least+1, most-1), most, most-1, 1, 0, -1, least+1, least)
	shows(t, numbers(5, 5, 5), 5, 5, 5)
}

// P16.2: all four numbers of a key tell where a thing is, the first of them the most.
func TestListWholeKey(t *testing.T) {
	all := everyWay(least, -1, 0, most)
	want := slices.Clone(all)
	slices.Reverse(want)
	for _, put := range [][]api.Key{all, want} {
		l := key.New(func(k api.Key) api.Key { return k })
		for _, k := range put {
			l.Put(k)
		}
		if got := told(l.Far()); !slices.Equal(got, want) {
			t.Fatal(got)
		}
	}
}

// P16.2: things of one key stay in the order they were put in, alone and between others.
func TestListOneKey(t *testing.T) {
	k := api.Key{Z: 5, Draw: 6, Tri: 7, Part: 8}
	nearer, farther := k, k
	nearer.Part--
	farther.Part++
	for _, put := range [][]named{
		{{k, 1}, {k, 2}, {k, 3}, {k, 4}},
		{{k, 4}, {k, 3}, {k, 2}, {k, 1}},
		{{k, 1}, {nearer, 2}, {k, 3}, {farther, 4}, {k, 5}},
		{{nearer, 1}, {farther, 2}, {k, 3}, {nearer, 4}, {farther, 5}, {k, 6}, {nearer, 7}, {farther, 8}, {k, 9}},
		{{farther, 1}, {farther, 2}, {nearer, 3}, {nearer, 4}, {k, 5}, {k, 6}},
	} {
		l, m := key.New(ofNamed), &modelled{}
		for i, x := range put {
			l.Put(x)
			m.put = append(m.put, x)
			agrees(t, l, m)
			if l.Len() != i+1 {
				t.Fatal(l.Len())
			}
		}
	}
	l := key.New(ofNamed)
	for _, x := range []named{{k, 1}, {nearer, 2}, {k, 3}, {farther, 4}, {k, 5}} {
		l.Put(x)
	}
	if got := told(l.Far()); !slices.Equal(got, []named{{farther, 4}, {k, 1}, {k, 3}, {k, 5}, {nearer, 2}}) {
		t.Fatal(got)
	}
}

// P16.2: many things, of few keys, at each length that there is.
func TestListMany(t *testing.T) {
	for _, by := range []int{1, 7, 64, 999} {
		l, m := key.New(ofNamed), &modelled{}
		for i := range 300 {
			x := named{api.Key{Z: i * by % 13, Draw: i * by % 5}, i}
			l.Put(x)
			m.put = append(m.put, x)
			if l.Len() != i+1 {
				t.Fatal(l.Len())
			}
		}
		agrees(t, l, m)
		for _, n := range []int{299, 298, 150, 17, 16, 3} {
			l.Cut(n)
			m.cut(n)
			agrees(t, l, m)
		}
	}
}

// P16.2: all runs of five calls, of Put of three keys and of Cut to as many as there may be and beside them, held against the model behind each call.
func TestEveryRunOfCalls(t *testing.T) {
	const puts, calls, long = 3, 8, 5
	runs := 1
	for range long {
		runs *= calls
	}
	for run := range runs {
		l, m := key.New(ofNamed), &modelled{}
		for i, left := 0, run; i < long; i, left = i+1, left/calls {
			call := left % calls
			if call < puts {
				x := named{api.Key{Z: call}, i}
				l.Put(x)
				m.put = append(m.put, x)
			} else {
				n := call - puts - 1
				l.Cut(n)
				m.cut(n)
			}
			agrees(t, l, m)
		}
	}
}

// P16.2: Cut at each length to less than none, to none, to each number up to it, and to more.
func TestCut(t *testing.T) {
	for size := range 6 {
		for _, n := range []int{least, least + 1, -2, -1, 0, 1, 2, 3, 4, 5, 6, 7, 1 << 32, most - 1, most} {
			var all []int
			for i := range size {
				all = append(all, 10*(size-i))
			}
			l := numbers(all...)
			shows(t, l, all...)
			stay := all[:min(max(n, 0), size)]
			l.Cut(n)
			shows(t, l, stay...)
			l.Cut(n)
			shows(t, l, stay...)
			l.Cut(most)
			shows(t, l, stay...)
			l.Put(15)
			if want := append(slices.Clone(stay), 15); len(stay) < size || size == 0 {
				slices.Sort(want)
				slices.Reverse(want)
				shows(t, l, want...)
			}
			l.Cut(least)
			shows(t, l)
		}
	}
}

// P16.2: what was cut is gone, also when things are put in behind it, and nearer ones may be put in again.
func TestPutBehindCut(t *testing.T) {
	l := numbers(1, 2, 3, 4, 5)
	l.Cut(3)
	shows(t, l, 5, 4, 3)
	l.Put(1)
	shows(t, l, 5, 4, 3, 1)
	l.Put(6)
	l.Cut(2)
	shows(t, l, 6, 5)
	l.Cut(1)
	shows(t, l, 6)
	l.Cut(0)
	shows(t, l)
	l.Put(2)
	l.Put(3)
	shows(t, l, 3, 2)
	l.Cut(-1)
	l.Put(-9)
	shows(t, l, -9)
}

// P16.2: of things of one key Cut leaves those that were put in first.
func TestCutOneKey(t *testing.T) {
	for n := range 5 {
		l, m := key.New(ofNamed), &modelled{}
		for i := range 4 {
			x := named{api.Key{Draw: 3}, i}
			l.Put(x)
			m.put = append(m.put, x)
		}
		l.Cut(n)
		m.cut(n)
		agrees(t, l, m)
		l.Put(named{api.Key{Draw: 3}, 9})
		m.put = append(m.put, named{api.Key{Draw: 3}, 9})
		agrees(t, l, m)
	}
}

// P16.2: a range left at each place is gone over again from the first on, and tells nothing more of what it left.
func TestFarLeftEarly(t *testing.T) {
	l := numbers(2, 8, 4, 6)
	far := l.Far()
	for leave := range 4 {
		var got []int
		for x := range far {
			got = append(got, x)
			if len(got) == leave+1 {
				break
			}
		}
		if !slices.Equal(got, []int{8, 6, 4, 2}[:leave+1]) {
			t.Fatal(leave, got)
		}
		shows(t, l, 8, 6, 4, 2)
	}
	if got := told(far); !slices.Equal(got, []int{8, 6, 4, 2}) {
		t.Fatal(got)
	}
	calls := 0
	far(func(int) bool { calls++; return false })
	if calls != 1 {
		t.Fatal(calls)
	}
}

// P16.2: a list without any has a range that tells nothing, again and again.
func TestFarOfNone(t *testing.T) {
	l := numbers()
	far := l.Far()
	if far == nil {
		t.Fatal("nil")
	}
	for range 3 {
		for x := range far {
			t.Fatal(x)
		}
	}
	l.Put(1)
	l.Cut(0)
	for x := range l.Far() {
		t.Fatal(x)
	}
}

// P16.2: one range within another of the same list, and of the same function.
func TestFarWithinItself(t *testing.T) {
	l := numbers(1, 3, 2)
	far := l.Far()
	var got []int
	for x := range far {
		for y := range far {
			if y == x {
				break
			}
			for z := range l.Far() {
				got = append(got, 100*x+10*y+z)
			}
		}
	}
	want := []int{233, 232, 231, 133, 132, 131, 123, 122, 121}
	if !slices.Equal(got, want) {
		t.Fatal(got)
	}
	next, stop := iter.Pull(far)
	defer stop()
	other, end := iter.Pull(far)
	defer end()
	for _, want := range []int{3, 2, 1} {
		x, ok := next()
		y, also := other()
		if !ok || !also || x != want || y != want {
			t.Fatal(x, y, want)
		}
	}
	if _, ok := next(); ok {
		t.Fatal("goes on")
	}
}

// P16.2: a range that is under way goes through the things as they were when it began, whatever is put in or cut at each of its places; one that begins behind that goes through them as they are then.
func TestFarUnderWay(t *testing.T) {
	changes := []func(l *key.List[int]){
		func(l *key.List[int]) { l.Put(99) },
		func(l *key.List[int]) { l.Put(50) },
		func(l *key.List[int]) { l.Put(35) },
		func(l *key.List[int]) { l.Put(30) },
		func(l *key.List[int]) { l.Put(5) },
		func(l *key.List[int]) { l.Cut(0) },
		func(l *key.List[int]) { l.Cut(1) },
		func(l *key.List[int]) { l.Cut(2) },
		func(l *key.List[int]) { l.Cut(3) },
		func(l *key.List[int]) { l.Cut(-1); l.Put(7); l.Put(8); l.Put(9); l.Put(11) },
		func(l *key.List[int]) { l.Cut(2); l.Put(45); l.Put(41) },
	}
	for _, change := range changes {
		after := numbers(20, 40, 30)
		change(after)
		want := told(after.Far())
		for at := range 3 {
			l := numbers(20, 40, 30)
			far := l.Far()
			var got []int
			for x := range far {
				if len(got) == at {
					change(l)
					shows(t, l, want...)
				}
				got = append(got, x)
			}
			if !slices.Equal(got, []int{40, 30, 20}) {
				t.Fatal(at, got)
			}
			// The same function begins anew with what there is then.
			if got := told(far); !slices.Equal(got, want) {
				t.Fatal(at, got, want)
			}
		}
	}
}

// P16.2: a range begins when it is gone over, not when Far is called.
func TestFarBegins(t *testing.T) {
	l := numbers()
	far := l.Far()
	l.Put(3)
	if got := told(far); !slices.Equal(got, []int{3}) {
		t.Fatal(got)
	}
	l.Put(5)
	l.Put(1)
	if got := told(far); !slices.Equal(got, []int{5, 3, 1}) {
		t.Fatal(got)
	}
	l.Cut(2)
	if got := told(far); !slices.Equal(got, []int{5, 3}) {
		t.Fatal(got)
	}
	l.Cut(0)
	if got := told(far); len(got) != 0 {
		t.Fatal(got)
	}
}

// P16.2: things that are put in while each one is gone through are gone through by the next range, once each.
func TestPutWhileGoingThrough(t *testing.T) {
	l := numbers(1, 2, 3)
	seen := 0
	for x := range l.Far() {
		l.Put(x)
		l.Put(x + 10)
		seen++
	}
	if seen != 3 {
		t.Fatal(seen)
	}
	shows(t, l, 13, 12, 11, 3, 3, 2, 2, 1, 1)
	for range l.Far() {
		l.Cut(l.Len() - 1)
	}
	shows(t, l)
}

// P16.2: several ranges under way at once, each begun at another time.
func TestRangesOfSeveralTimes(t *testing.T) {
	l := numbers()
	far := l.Far()
	var asked [][]int
	var begun []func() (int, bool)
	for n := 1; n <= 4; n++ {
		l.Put(n)
		next, stop := iter.Pull(far)
		defer stop()
		if x, ok := next(); !ok || x != n {
			t.Fatal(x)
		}
		begun = append(begun, next)
		var rest []int
		for m := n - 1; m > 0; m-- {
			rest = append(rest, m)
		}
		asked = append(asked, rest)
	}
	l.Cut(0)
	l.Put(77)
	for i, next := range begun {
		for _, want := range asked[i] {
			if x, ok := next(); !ok || x != want {
				t.Fatal(i, x, want)
			}
		}
		if x, ok := next(); ok {
			t.Fatal(i, x)
		}
	}
}

// P16.2: lists of things of other types, with other ways of telling a key.
func TestOtherThings(t *testing.T) {
	words := key.New(func(s string) api.Key { return api.Key{Tri: len(s)} })
	for _, s := range []string{"one", "", "three", "two", "nineteen"} {
		words.Put(s)
	}
	if got := told(words.Far()); !slices.Equal(got, []string{"nineteen", "three", "one", "two", ""}) {
		t.Fatal(got)
	}
	frags := key.New(func(f api.Frag) api.Key { return f.Key })
	near, far := api.Frag{X: 9, Key: api.Key{Z: 1}}, api.Frag{Y: 9, Mask: 15, Key: api.Key{Z: 2}, C: api.Colour{R: 7, A: 8}}
	frags.Put(near)
	frags.Put(far)
	if got := told(frags.Far()); !slices.Equal(got, []api.Frag{far, near}) {
		t.Fatal(got)
	}
	turned := key.New(func(n int8) api.Key { return api.Key{Part: -int(n)} })
	for _, n := range []int8{3, -128, 127, 0} {
		turned.Put(n)
	}
	if got := told(turned.Far()); !slices.Equal(got, []int8{-128, 0, 3, 127}) {
		t.Fatal(got)
	}
	pairs := key.New(func(p [2]int) api.Key { return api.Key{Draw: p[1], Z: p[0] / 10} })
	for _, p := range [][2]int{{19, 1}, {11, 2}, {5, 9}, {10, 1}} {
		pairs.Put(p)
	}
	if got := told(pairs.Far()); !slices.Equal(got, [][2]int{{11, 2}, {19, 1}, {10, 1}, {5, 9}}) {
		t.Fatal(got)
	}
	nothing := key.New(func(struct{}) api.Key { return api.Key{} })
	nothing.Put(struct{}{})
	nothing.Put(struct{}{})
	if len(told(nothing.Far())) != 2 || nothing.Len() != 2 {
		t.Fatal(nothing.Len())
	}
	mixed := key.New(func(x any) api.Key { n, _ := x.(int); return api.Key{Z: n} })
	for _, x := range []any{3, "three", nil, 4} {
		mixed.Put(x)
	}
	if got := told(mixed.Far()); !slices.Equal(got, []any{4, 3, "three", nil}) {
		t.Fatal(got)
	}
	funcs := key.New(func(f func() int) api.Key { return api.Key{Z: f()} })
	funcs.Put(func() int { return 1 })
	funcs.Put(func() int { return 2 })
	for f := range funcs.Far() {
		if f() != 2 {
			t.Fatal(f())
		}
		break
	}
	lists := key.New(func(l *key.List[int]) api.Key { return api.Key{Z: l.Len()} })
	short, long := numbers(9), numbers(1, 2)
	lists.Put(short)
	lists.Put(long)
	if got := told(lists.Far()); !slices.Equal(got, []*key.List[int]{long, short}) {
		t.Fatal(got)
	}
}

// R1: a way of telling a key that asks the list itself, or changes it, ahead of its thing being in.
func TestTellingAsksTheList(t *testing.T) {
	var l *key.List[int]
	l = key.New(func(n int) api.Key {
		if n == 9 {
			l.Cut(1)
		}
		return api.Key{Z: -l.Len()}
	})
	for _, n := range []int{1, 2, 3} {
		l.Put(n)
	}
	shows(t, l, 1, 2, 3)
	l.Put(9)
	shows(t, l, 1, 9)
}

// P16.2: several lists know nothing of each other, also those of one way of telling a key.
func TestSeveralLists(t *testing.T) {
	of := func(n int) api.Key { return api.Key{Z: n} }
	a, b, c := key.New(of), key.New(of), key.New(func(n int) api.Key { return api.Key{Z: -n} })
	for n := range 6 {
		a.Put(n)
		if n%2 == 0 {
			b.Put(10 * n)
		}
		c.Put(n)
	}
	shows(t, a, 5, 4, 3, 2, 1, 0)
	shows(t, b, 40, 20, 0)
	shows(t, c, 0, 1, 2, 3, 4, 5)
	for x := range a.Far() {
		b.Cut(1)
		c.Put(x)
	}
	a.Cut(2)
	shows(t, a, 5, 4)
	shows(t, b, 40)
	shows(t, c, 0, 0, 1, 1, 2, 2, 3, 3, 4, 4, 5, 5)
}

// turns goes through every order of a list.
func turns(l []named, at int, each func()) {
	if at == len(l) {
		each()
		return
	}
	for i := at; i < len(l); i++ {
		l[at], l[i] = l[i], l[at]
		turns(l, at+1, each)
		l[at], l[i] = l[i], l[at]
	}
}

// P16.3: things of unlike keys, in every order that they can be put in, and cut to each length behind it.
func TestEveryOrder(t *testing.T) {
	for _, keys := range [][]api.Key{
		{{Z: 1}, {Z: 2}, {Z: 3}, {Z: 4}, {Z: 5}, {Z: 6}},
		{{Z: least}, {Z: -1, Draw: 4}, {Z: 0, Draw: -4}, {Z: 0, Draw: 4, Tri: least}, {Z: 0, Draw: 4, Tri: most}, {Z: most}},
		{{Part: least}, {Part: 0}, {Part: most}, {Tri: 1, Part: least}, {Draw: 1, Tri: least}, {Draw: 1, Tri: least, Part: 1}},
	} {
		var want, put []named
		for i, k := range keys {
			put = append(put, named{k, i})
			want = append([]named{{k, i}}, want...)
		}
		turns(put, 0, func() {
			for n := range 8 {
				l := key.New(ofNamed)
				for _, x := range put {
					l.Put(x)
				}
				l.Cut(n)
				if got := told(l.Far()); !slices.Equal(got, want[:min(n, 6)]) {
					t.Fatal(put, n, got)
				}
			}
		})
	}
}

// P16.3: cut to a length behind each Put, the farthest stay, in whichever order they come.
func TestEveryOrderCutMeanwhile(t *testing.T) {
	var put, want []named
	for i := range 6 {
		put = append(put, named{api.Key{Z: i / 2, Draw: i % 2}, i})
		want = append([]named{put[i]}, want...)
	}
	for n := range 7 {
		turns(put, 0, func() {
			l := key.New(ofNamed)
			for _, x := range put {
				l.Put(x)
				l.Cut(n)
			}
			if got := told(l.Far()); !slices.Equal(got, want[:min(n, 6)]) {
				t.Fatal(put, n, got)
			}
		})
	}
}

// R1: a function that is none, or that panics, tells no key; neither panics, and the things stay in the order they were put in.
func TestNoWayOfTelling(t *testing.T) {
	none := key.New[int](nil)
	panics := key.New(func(n int) api.Key { panic(n) })
	for _, l := range []*key.List[int]{none, panics} {
		shows(t, l)
		l.Cut(1)
		for _, n := range []int{3, 9, 5} {
			l.Put(n)
		}
		shows(t, l, 3, 9, 5)
		l.Cut(2)
		shows(t, l, 3, 9)
		l.Cut(-1)
		shows(t, l)
	}
	some := key.New(func(n int) api.Key { return api.Key{Z: 12 / n} })
	for _, n := range []int{4, 0, -3, 2} {
		some.Put(n)
	}
	shows(t, some, 2, 4, 0, -3)
}

// R1: nothing panics at the greatest and least keys and lengths.
func TestExtremes(t *testing.T) {
	for _, a := range everyWay(least, most) {
		l := key.New(ofNamed)
		l.Put(named{a, 1})
		for _, b := range everyWay(least, most) {
			l.Put(named{b, 2})
		}
		for _, n := range []int{most, 5, 2, 1, 0, least} {
			l.Cut(n)
			if l.Len() != min(max(n, 0), 17) {
				t.Fatal(n, l.Len())
			}
		}
	}
}

// R6: lists of which the same was asked tell the same, and what is asked does not change them.
func TestAskedAgain(t *testing.T) {
	a, b := numbers(), numbers()
	for i := range 40 {
		n := i * 17 % 23
		a.Put(n)
		b.Put(n)
		for range i % 3 {
			if a.Len() != len(told(a.Far())) {
				t.Fatal(a.Len())
			}
		}
		if i%7 == 0 {
			a.Cut(i / 2)
			b.Cut(i / 2)
		}
		shows(t, a, told(b.Far())...)
		shows(t, a, told(b.Far())...)
		k, o := api.Key{Z: n, Part: i}, api.Key{Z: i, Part: n}
		if key.Compare(k, o) != key.Compare(k, o) {
			t.Fatal(k, o)
		}
	}
}

// P16.2, R7: where a thing is does not hang on what becomes of what it refers to once it was put in.
func TestKeptAsPutIn(t *testing.T) {
	l := key.New(func(x *named) api.Key { return x.k })
	var put []*named
	for i, z := range []int{5, 1, 3} {
		put = append(put, &named{api.Key{Z: z}, i})
		l.Put(put[i])
	}
	put[0].k.Z = 0
	put[1].k.Z = 9
	late := &named{api.Key{Z: 4}, 3}
	l.Put(late)
	if got := told(l.Far()); !slices.Equal(got, []*named{put[0], late, put[2], put[1]}) {
		t.Fatal(got)
	}
	l.Cut(2)
	if got := told(l.Far()); !slices.Equal(got, []*named{put[0], late}) {
		t.Fatal(got)
	}
}

// R7: what was handed in does not change, and what becomes of it or of what was told is not seen by the list.
func TestItsOwn(t *testing.T) {
	a, b := api.Key{Z: 1, Draw: 2, Tri: 3, Part: 4}, api.Key{Z: 1, Draw: 2, Tri: 3, Part: 5}
	was, also := a, b
	key.Compare(a, b)
	if a != was || b != also {
		t.Fatal(a, b)
	}
	frags := key.New(func(f api.Frag) api.Key {
		k := f.Key
		f.Key.Z, f.X = 77, 77
		return k
	})
	put := api.Frag{X: 1, Mask: 3, Key: api.Key{Z: 4}}
	asked := put
	frags.Put(put)
	if put != asked {
		t.Fatal(put)
	}
	put.X, put.Key.Z = 8, 8
	for f := range frags.Far() {
		if f != asked {
			t.Fatal(f)
		}
		f.X, f.Mask, f.Key.Z = 9, 9, 9
	}
	if got := told(frags.Far()); !slices.Equal(got, []api.Frag{asked}) {
		t.Fatal(got)
	}
	bytes := key.New(func(b []byte) api.Key { return api.Key{Z: len(b)} })
	behind := []byte{1, 2, 3, 4}
	bytes.Put(behind[:1])
	bytes.Put(behind[:3])
	bytes.Cut(1)
	if !slices.Equal(behind, []byte{1, 2, 3, 4}) {
		t.Fatal(behind)
	}
}
