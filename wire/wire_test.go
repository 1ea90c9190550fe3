package wire_test

import (
	"bytes"
	"iter"
	"math"
	"math/big"
	"slices"
	"testing"

	"glazier/wire"
)

const (
	most  = math.MaxInt
	least = math.MinInt
)

// said are the bytes that the document says of a number: reckoned without bounds, and apart from package wire.
func said(n int) []byte {
	u := new(big.Int).Mul(big.NewInt(2), big.NewInt(int64(n)))
	if n < 0 {
		u.Neg(u).Sub(u, big.NewInt(1))
	}
	var b []byte
	for {
		part := new(big.Int)
		u.QuoRem(u, big.NewInt(128), part)
		if u.Sign() == 0 {
			return append(b, byte(part.Int64()))
		}
		b = append(b, byte(part.Int64())+128)
	}
}

// numbers are 0 and -1, ordinary ones, those at which one more part of seven bits is needed, and the edges of an int.
func numbers() []int {
	l := []int{0, -1, 1, -2, 2, -3, 10, -10, 255, -256, 9999, 1 << 15, -1 << 15, least, least + 1, most, most - 1}
	for bits := 6; bits < 63; bits += 7 {
		edge := 1 << bits
		l = append(l, edge-1, edge, edge+1, -edge+1, -edge, -edge-1)
	}
	for n := -300; n <= 300; n++ {
		l = append(l, n)
	}
	return l
}

// pair is what All tells at a time.
type pair struct {
	n  int
	ok bool
}

// told is all that a function to range over tells.
func told(all iter.Seq2[int, bool]) []pair {
	var l []pair
	for n, ok := range all {
		l = append(l, pair{n, ok})
	}
	return l
}

// P3.1: bytes written out by hand, at the edges of what a part holds.
func TestPutByHand(t *testing.T) {
	for _, x := range []struct {
		n    int
		want string
	}{
		{0, "\x00"},
		{-1, "\x01"},
		{1, "\x02"},
		{-2, "\x03"},
		{63, "\x7e"},
		{-64, "\x7f"},
		{64, "\x80\x01"},
		{-65, "\x81\x01"},
		{100, "\xc8\x01"},
		{8191, "\xfe\x7f"},
		{-8192, "\xff\x7f"},
		{8192, "\x80\x80\x01"},
		{-8193, "\x81\x80\x01"},
		{1<<62 - 1, "\xfe\xff\xff\xff\xff\xff\xff\xff\x7f"},
		{-1 << 62, "\xff\xff\xff\xff\xff\xff\xff\xff\x7f"},
		{1 << 62, "\x80\x80\x80\x80\x80\x80\x80\x80\x80\x01"},
		{-1<<62 - 1, "\x81\x80\x80\x80\x80\x80\x80\x80\x80\x01"},
		{most, "\xfe\xff\xff\xff\xff\xff\xff\xff\xff\x01"},
		{least, "\xff\xff\xff\xff\xff\xff\xff\xff\xff\x01"},
	} {
		if got := wire.Put(x.n); string(got) != x.want {
			t.Errorf("Put(%d) = %v; want %v", x.n, got, []byte(x.want))
		}
	}
}

// P3.1: of no numbers nothing; of some, one behind the other.
func TestPutOfSome(t *testing.T) {
	if b := wire.Put(); len(b) != 0 {
		t.Errorf("Put() = %v", b)
	}
	if b := wire.Put([]int{}...); len(b) != 0 {
		t.Errorf("Put of an empty list = %v", b)
	}
	if b := wire.Put(0, -1, 64); string(b) != "\x00\x01\x80\x01" {
		t.Errorf("Put(0, -1, 64) = %v", b)
	}
	if b := wire.Put(64, 64, 0, 0, -1); string(b) != "\x80\x01\x80\x01\x00\x00\x01" {
		t.Errorf("Put(64, 64, 0, 0, -1) = %v", b)
	}
	l := numbers()
	var want []byte
	for _, n := range l {
		want = append(want, said(n)...)
	}
	if !bytes.Equal(wire.Put(l...), want) {
		t.Error("Put of all is not that of each, one behind the other")
	}
}

// P3.1: what the document says, of each number.
func TestPutIsWhatIsSaid(t *testing.T) {
	for _, n := range numbers() {
		if got, want := wire.Put(n), said(n); !bytes.Equal(got, want) {
			t.Errorf("Put(%d) = %v; want %v", n, got, want)
		}
	}
}

// R7: a list that is handed in is not changed, and what is told is the caller's own.
func TestPutLeavesItsList(t *testing.T) {
	l := numbers()
	b := wire.Put(l...)
	if !slices.Equal(l, numbers()) {
		t.Error("Put changed the list")
	}
	kept := slices.Clone(b)
	clear(b)
	if !bytes.Equal(wire.Put(l...), kept) {
		t.Error("what was told is seen by a later call")
	}
}

// P3.2, P3.3: what was put is taken, whatever follows.
func TestTakeOfWhatWasPut(t *testing.T) {
	for _, tail := range []string{"", "z", "\x00", "\x80", "\xff\xff\xff", "\x01\x02\x03"} {
		for _, n := range numbers() {
			b := append(said(n), tail...)
			got, rest, ok := wire.Take(b)
			if got != n || string(rest) != tail || !ok {
				t.Errorf("Take(%v) = %d, %v, %v; want %d and %v", b, got, rest, ok, n, []byte(tail))
			}
		}
	}
}

// P3.3: one after the other, till there are no bytes left.
func TestTakeOneAfterTheOther(t *testing.T) {
	l := numbers()
	rest := wire.Put(l...)
	for i, n := range l {
		got, behind, ok := wire.Take(rest)
		if got != n || !ok {
			t.Fatalf("number %d: %d, %v; want %d", i, got, ok, n)
		}
		rest = behind
	}
	if len(rest) != 0 {
		t.Errorf("left: %v", rest)
	}
}

// noNumber checks that neither Take nor All finds a number at the beginning of b.
func noNumber(t *testing.T, what string, b []byte) {
	t.Helper()
	if n, rest, ok := wire.Take(b); n != 0 || len(rest) != 0 || ok {
		t.Errorf("%s: Take(%v) = %d, %v, %v", what, b, n, rest, ok)
	}
	want := []pair{{0, false}}
	if len(b) == 0 {
		want = nil
	}
	if got := told(wire.All(b)); !slices.Equal(got, want) {
		t.Errorf("%s: All(%v) = %v", what, b, got)
	}
}

// P3.2: no bytes, and bytes that end within a number.
func TestCut(t *testing.T) {
	noNumber(t, "nil", nil)
	noNumber(t, "empty", []byte{})
	for _, n := range numbers() {
		b := said(n)
		for size := range b {
			noNumber(t, "cut", b[:size])
			// The bytes behind it, which its capacity has, are none of it.
			noNumber(t, "cut", slices.Clone(b[:size]))
		}
	}
}

// P3.2: more parts than there need be.
func TestMoreParts(t *testing.T) {
	for _, n := range numbers() {
		b := said(n)
		b[len(b)-1] += 128
		for range 12 {
			noNumber(t, "longer", append(slices.Clone(b), 0))
			noNumber(t, "longer, with more behind", append(slices.Clone(b), 0, 2, 4))
			b = append(b, 128)
		}
	}
}

// P3.2: a number that does not fit.
func TestTooGreat(t *testing.T) {
	for _, low := range []byte{128, 129, 254, 255} {
		nine := bytes.Repeat([]byte{low}, 9)
		for last := 2; last < 256; last++ {
			noNumber(t, "ten parts", append(slices.Clone(nine), byte(last)))
		}
		for _, last := range []byte{128, 129, 255} {
			for _, end := range []byte{0, 1, 2, 127} {
				noNumber(t, "eleven parts", append(slices.Clone(nine), last, end))
			}
		}
	}
	noNumber(t, "without an end", bytes.Repeat([]byte{255}, 1000))
	noNumber(t, "without an end", bytes.Repeat([]byte{128}, 1000))
}

// P3.2: of all pairs of bytes: the number whose bytes they begin with, or none.
func TestTakeOfAllPairsOfBytes(t *testing.T) {
	known := map[string]int{}
	for n := -8192; n < 8192; n++ {
		known[string(said(n))] = n
	}
	for a := range 256 {
		for b := range 256 {
			two := []byte{byte(a), byte(b)}
			size := 1
			n, is := known[string(two[:1])]
			if !is {
				size = 2
				n, is = known[string(two)]
			}
			if !is {
				noNumber(t, "pair", two)
				continue
			}
			got, rest, ok := wire.Take(two)
			if got != n || !bytes.Equal(rest, two[size:]) || !ok {
				t.Fatalf("Take(%v) = %d, %v, %v; want %d", two, got, rest, ok, n)
			}
		}
	}
}

// R7: bytes that are handed in are not changed, and those behind a number are the caller's own.
func TestTakeSharesNothing(t *testing.T) {
	b := []byte{128, 1, 7, 8, 9}
	_, rest, _ := wire.Take(b)
	if string(b) != "\x80\x01\x07\x08\x09" {
		t.Errorf("Take changed its bytes: %v", b)
	}
	b[2] = 77
	if string(rest) != "\x07\x08\x09" {
		t.Errorf("what was told sees the caller's: %v", rest)
	}
	rest[1] = 99
	_ = append(rest[:1], 55, 55)
	if string(b) != "\x80\x01\x4d\x08\x09" {
		t.Errorf("the caller's sees what was told: %v", b)
	}
}

// P3.2, P3.3: All tells each number that was put, in order, with true, and no more.
func TestAll(t *testing.T) {
	l := numbers()
	for size := range l {
		var want []pair
		for _, n := range l[:size] {
			want = append(want, pair{n, true})
		}
		if got := told(wire.All(wire.Put(l[:size]...))); !slices.Equal(got, want) {
			t.Fatalf("All of %v = %v", l[:size], got)
		}
	}
}

// P3.2: where there are bytes left it ends with 0 and false, told once.
func TestAllWithBytesLeft(t *testing.T) {
	for _, left := range []string{"\x80", "\x80\x00", "\x80\x00\x02", "\x81\x00\x02\x02", "\xff\xff\xff\xff\xff\xff\xff\xff\xff\x02\x02"} {
		b := append(wire.Put(2, -70, 0), left...)
		want := []pair{{2, true}, {-70, true}, {0, true}, {0, false}}
		if got := told(wire.All(b)); !slices.Equal(got, want) {
			t.Errorf("All(%v) = %v; want %v", b, got, want)
		}
	}
}

// P3.2: of no bytes it tells nothing, and is not nil.
func TestAllOfNothing(t *testing.T) {
	for _, b := range [][]byte{nil, {}, wire.Put()} {
		all := wire.All(b)
		if all == nil {
			t.Fatal("All is nil")
		}
		if got := told(all); got != nil {
			t.Errorf("All(%v) = %v", b, got)
		}
	}
}

// P3.2: it may be left at each place, at the false too, and gone over again from the first on.
func TestAllLeftEarly(t *testing.T) {
	all := wire.All([]byte{4, 128, 1, 1, 128, 0, 2})
	want := []pair{{2, true}, {64, true}, {-1, true}, {0, false}}
	for size := 1; size <= len(want); size++ {
		var got []pair
		for n, ok := range all {
			got = append(got, pair{n, ok})
			if len(got) == size {
				break
			}
		}
		if !slices.Equal(got, want[:size]) {
			t.Errorf("left after %d: %v", size, got)
		}
		if got := told(all); !slices.Equal(got, want) {
			t.Errorf("gone over again: %v", got)
		}
	}
}

// P3.2: a function that was told to stop is not called again.
func TestAllStops(t *testing.T) {
	for _, b := range [][]byte{{2, 4, 6}, {2, 128}, {128}, {128, 0, 2}} {
		calls := 0
		wire.All(b)(func(int, bool) bool {
			calls++
			return false
		})
		if calls != 1 {
			t.Errorf("All(%v): %d calls", b, calls)
		}
	}
}

// P3.2: one range within another one of the same function: neither moves the other on.
func TestAllWithinAll(t *testing.T) {
	all := wire.All(wire.Put(1, 100, -1))
	var got []int
	for n := range all {
		for m := range all {
			got = append(got, 1000*n+m)
		}
	}
	want := []int{1001, 1100, 999, 100001, 100100, 99999, -999, -900, -1001}
	if !slices.Equal(got, want) {
		t.Errorf("%v; want %v", got, want)
	}
}

// R7: All leaves its bytes as they are.
func TestAllLeavesItsBytes(t *testing.T) {
	b := append(wire.Put(numbers()...), 128, 0)
	before := slices.Clone(b)
	told(wire.All(b))
	if !bytes.Equal(b, before) {
		t.Error("All changed its bytes")
	}
}

// P3.2: of many numbers, each is read once: with a copy of the rest for each of them this would take minutes.
func TestAllOfMany(t *testing.T) {
	const many = 1 << 21
	b := bytes.Repeat([]byte{2}, many)
	sum := 0
	for n, ok := range wire.All(b) {
		if !ok {
			t.Fatal("a number is not told")
		}
		sum += n
	}
	if sum != many {
		t.Errorf("sum %d", sum)
	}
}
