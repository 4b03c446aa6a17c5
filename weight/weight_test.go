package weight_test

import (
	"math"
	"math/big"
	"slices"
	"sync"
	"testing"

	"deckle/api"
	"deckle/weight"
)

const (
	top    = math.MaxInt64
	bottom = math.MinInt64
)

// edges are weights at whose sums the numbers' bytes, halves or signs change.
func edges() []int64 {
	return []int64{bottom, bottom + 1, bottom + 2, -1 << 62, -1<<62 - 1, -1<<62 + 1, -1 << 32, -1<<32 - 1, -1 << 31, -256, -3, -2, -1,
		0, 1, 2, 3, 255, 1 << 31, 1<<32 - 1, 1 << 32, 1<<62 - 1, 1 << 62, 1<<62 + 1, top - 2, top - 1, top}
}

// mixed are n weights of all lengths and both signs, other ones for each start.
func mixed(start uint64, n int) []int64 {
	x := start*2685821657736338717 + 88172645463325252
	var l []int64
	for range n {
		x ^= x << 13
		x ^= x >> 7
		x ^= x << 17
		l = append(l, int64(x)>>(x>>5%64))
	}
	return l
}

// told is what the document's words ask of a sum: a number without any bound, and whether it is an int64.
func told(l ...int64) (int64, api.Errno) {
	sum := new(big.Int)
	for _, w := range l {
		sum.Add(sum, big.NewInt(w))
	}
	if !sum.IsInt64() {
		return 0, api.ErrOver
	}
	return sum.Int64(), api.OK
}

// total is one to which these weights were added.
func total(t *testing.T, l ...int64) *weight.Total {
	t.Helper()
	x := new(weight.Total)
	for i, w := range l {
		if e := x.Add(w); e != api.OK {
			t.Fatalf("Add %d of %v: %v", i, l, e)
		}
	}
	return x
}

func checkTotal(t *testing.T, x *weight.Total, want int64, wantError api.Errno, count int) {
	t.Helper()
	if n, e := x.Sum(); n != want || e != wantError {
		t.Fatalf("Total.Sum: %d %v; want %d %v", n, e, want, wantError)
	}
	if n := x.Count(); n != count {
		t.Fatalf("Total.Count: %d; want %d", n, count)
	}
}

// checkSum holds Sum and a Total against the document's words.
func checkSum(t *testing.T, l ...int64) {
	t.Helper()
	want, wantError := told(l...)
	if n, e := weight.Sum(l...); n != want || e != wantError {
		t.Fatalf("Sum(%v): %d %v; want %d %v", l, n, e, want, wantError)
	}
	checkTotal(t, total(t, l...), want, wantError, len(l))
}

// orders calls f with the list in each order that it may have.
func orders(l []int64, f func([]int64)) {
	var from func(i int)
	from = func(i int) {
		if i == len(l) {
			f(l)
			return
		}
		for k := i; k < len(l); k++ {
			l[i], l[k] = l[k], l[i]
			from(i + 1)
			l[i], l[k] = l[k], l[i]
		}
	}
	from(0)
}

// P7.1

func TestAdd(t *testing.T) {
	for _, c := range []struct {
		a, b, want int64
		e          api.Errno
	}{
		{0, 0, 0, api.OK},
		{1, 2, 3, api.OK},
		{5, -5, 0, api.OK},
		{-1, -2, -3, api.OK},
		{top, 0, top, api.OK},
		{top - 1, 1, top, api.OK},
		{top, 1, 0, api.ErrOver},
		{top, top, 0, api.ErrOver},
		{1 << 62, 1 << 62, 0, api.ErrOver},
		{1 << 62, 1<<62 - 1, top, api.OK},
		{bottom, 0, bottom, api.OK},
		{bottom + 1, -1, bottom, api.OK},
		{bottom, -1, 0, api.ErrOver},
		{bottom, bottom, 0, api.ErrOver},
		{-1 << 62, -1 << 62, bottom, api.OK},
		{-1 << 62, -1<<62 - 1, 0, api.ErrOver},
		{top, bottom, -1, api.OK},
	} {
		if n, e := weight.Add(c.a, c.b); n != c.want || e != c.e {
			t.Errorf("Add(%d, %d): %d %v; want %d %v", c.a, c.b, n, e, c.want, c.e)
		}
		if n, e := weight.Add(c.b, c.a); n != c.want || e != c.e {
			t.Errorf("Add(%d, %d): %d %v; want %d %v", c.b, c.a, n, e, c.want, c.e)
		}
	}
}

func TestAddAsTold(t *testing.T) {
	l := append(edges(), mixed(1, 300)...)
	for _, a := range l {
		for _, b := range l {
			want, wantError := told(a, b)
			if n, e := weight.Add(a, b); n != want || e != wantError {
				t.Fatalf("Add(%d, %d): %d %v; want %d %v", a, b, n, e, want, wantError)
			}
		}
	}
}

func TestNeg(t *testing.T) {
	for _, c := range []struct {
		a, want int64
		e       api.Errno
	}{
		{0, 0, api.OK},
		{1, -1, api.OK},
		{-1, 1, api.OK},
		{1 << 32, -1 << 32, api.OK},
		{top, -top, api.OK},
		{bottom + 1, top, api.OK},
		{bottom, 0, api.ErrOver},
	} {
		if n, e := weight.Neg(c.a); n != c.want || e != c.e {
			t.Errorf("Neg(%d): %d %v; want %d %v", c.a, n, e, c.want, c.e)
		}
	}
	for _, a := range append(edges(), mixed(2, 1000)...) {
		want := new(big.Int).Neg(big.NewInt(a))
		if n, e := weight.Neg(a); a != bottom && (e != api.OK || big.NewInt(n).Cmp(want) != 0) {
			t.Errorf("Neg(%d): %d %v; want %v", a, n, e, want)
		}
	}
}

func TestSumOfFew(t *testing.T) {
	for _, c := range []struct {
		l    []int64
		want int64
		e    api.Errno
	}{
		{nil, 0, api.OK},
		{[]int64{}, 0, api.OK},
		{[]int64{7}, 7, api.OK},
		{[]int64{top}, top, api.OK},
		{[]int64{bottom}, bottom, api.OK},
		{[]int64{1, 2, 3, -4}, 2, api.OK},
		{[]int64{top, 1, -1}, top, api.OK},
		{[]int64{top, 1}, 0, api.ErrOver},
		{[]int64{top, top, bottom, bottom}, -2, api.OK},
		{[]int64{bottom, bottom, top, top, 2}, 0, api.OK},
		{[]int64{bottom, -1, 1}, bottom, api.OK},
		{[]int64{bottom, -1, 1, -1}, 0, api.ErrOver},
		{[]int64{bottom, bottom}, 0, api.ErrOver},                            // whose lower number is 0
		{[]int64{top, top, 2}, 0, api.ErrOver},                               // likewise
		{[]int64{top, top, 1}, 0, api.ErrOver},                               // the lower one is -1
		{[]int64{bottom, bottom, bottom, bottom}, 0, api.ErrOver},            // the higher one is -2
		{[]int64{bottom, bottom, bottom, top, top, 2, top}, -1, api.OK},      // a part is no int64
		{[]int64{1 << 62, 1 << 62, -1 << 62, -1 << 62, -1}, -1, api.OK},      // likewise
		{[]int64{top, top, top, top, top, 5, bottom}, 0, api.ErrOver},        // four times 2^63
		{[]int64{top, 1, top, 1, top, 1, top, 1, -5}, 0, api.ErrOver},        // likewise, less 5
		{[]int64{top, 1, bottom, top, 1, bottom, top, 1, bottom}, 0, api.OK}, // over and back
	} {
		if n, e := weight.Sum(c.l...); n != c.want || e != c.e {
			t.Errorf("Sum(%v): %d %v; want %d %v", c.l, n, e, c.want, c.e)
		}
	}
}

func TestSumAsTold(t *testing.T) {
	for start := range uint64(400) {
		checkSum(t, mixed(start, int(start%40))...)
	}
	l := edges()
	for _, a := range l {
		for _, b := range l {
			for _, c := range l {
				checkSum(t, a, b, c)
			}
		}
	}
}

// TestSumNearTheEnds brings long sums to just each end, from each side.
func TestSumNearTheEnds(t *testing.T) {
	for _, n := range []int{1, 2, 3, 64, 1000} {
		for _, end := range []int64{bottom, -1, 0, top} {
			for _, beside := range []int64{-2, -1, 0, 1, 2} {
				l := append(slices.Repeat([]int64{top}, n), slices.Repeat([]int64{bottom}, n)...)
				l = append(l, int64(n), end, beside)
				checkSum(t, l...)
				slices.Reverse(l)
				checkSum(t, l...)
			}
		}
	}
}

// TestSumOfMany goes far beyond an int64 on both sides, and comes back.
func TestSumOfMany(t *testing.T) {
	const n = 1 << 20
	l := append(slices.Repeat([]int64{bottom}, n), slices.Repeat([]int64{top}, n)...)
	for _, c := range []struct {
		more int64
		want int64
		e    api.Errno
	}{{0, -n, api.OK}, {n, 0, api.OK}, {top, top - n, api.OK}, {bottom, 0, api.ErrOver}, {bottom + n, bottom, api.OK}, {bottom + n - 1, 0, api.ErrOver}} {
		if got, e := weight.Sum(append(l, c.more)...); got != c.want || e != c.e {
			t.Errorf("and %d: %d %v; want %d %v", c.more, got, e, c.want, c.e)
		}
	}
	if got, e := weight.Sum(l[:n]...); got != 0 || e != api.ErrOver {
		t.Error("the least ones alone:", got, e)
	}
	if got, e := weight.Sum(l[n:]...); got != 0 || e != api.ErrOver {
		t.Error("the greatest ones alone:", got, e)
	}
}

func TestSumLeavesItsList(t *testing.T) {
	l := append(make([]int64, 0, 9), top, 1, -1)
	behind := l[3:9]
	for i := range behind {
		behind[i] = 77
	}
	if n, e := weight.Sum(l...); n != top || e != api.OK {
		t.Error(n, e)
	}
	if !slices.Equal(l[:9], []int64{top, 1, -1, 77, 77, 77, 77, 77, 77}) {
		t.Error("the list was changed:", l[:9])
	}
}

// P7.2

func TestTotalOfNone(t *testing.T) {
	var x weight.Total
	checkTotal(t, &x, 0, api.OK, 0)
	checkTotal(t, new(weight.Total), 0, api.OK, 0)
}

func TestNilTotal(t *testing.T) {
	var x *weight.Total
	for _, w := range []int64{0, 1, bottom, top} {
		if e := x.Add(w); e != api.ErrNil {
			t.Error("Add:", e)
		}
	}
	if n, e := x.Sum(); n != 0 || e != api.ErrNil {
		t.Error("Sum:", n, e)
	}
	if n := x.Count(); n != 0 {
		t.Error("Count:", n)
	}
}

// TestTotalOnItsWay asks behind each weight that is added: asking changes nothing.
func TestTotalOnItsWay(t *testing.T) {
	for start := range uint64(100) {
		l := append(mixed(start, 20), edges()...)
		var x weight.Total
		for i, w := range l {
			if e := x.Add(w); e != api.OK {
				t.Fatal(e)
			}
			want, wantError := told(l[:i+1]...)
			checkTotal(t, &x, want, wantError, i+1)
			checkTotal(t, &x, want, wantError, i+1)
		}
	}
}

// TestTotalComesBack is a sum that was told to be over, and is none any more.
func TestTotalComesBack(t *testing.T) {
	x := total(t, top, 1)
	checkTotal(t, x, 0, api.ErrOver, 2)
	x.Add(-1)
	checkTotal(t, x, top, api.OK, 3)
	x.Add(0)
	checkTotal(t, x, top, api.OK, 4)
	x.Add(bottom)
	x.Add(bottom)
	checkTotal(t, x, 0, api.ErrOver, 6)
	x.Add(1)
	checkTotal(t, x, bottom, api.OK, 7)
}

func TestTotalsAreApart(t *testing.T) {
	var a, b weight.Total
	a.Add(5)
	checkTotal(t, &b, 0, api.OK, 0)
	b.Add(top)
	b.Add(top)
	checkTotal(t, &a, 5, api.OK, 1)
	checkTotal(t, &b, 0, api.ErrOver, 2)
}

// TestManyAtATime asks by many goroutines at a time, each with a total of its own.
func TestManyAtATime(t *testing.T) {
	var all sync.WaitGroup
	for start := range uint64(16) {
		all.Go(func() {
			l := mixed(start, 200)
			want, wantError := told(l...)
			var x weight.Total
			for _, w := range l {
				x.Add(w)
			}
			n, e := x.Sum()
			m, d := weight.Sum(l...)
			if n != want || e != wantError || m != want || d != wantError || x.Count() != len(l) {
				t.Error(start, n, e, m, d, x.Count())
			}
		})
	}
	all.Wait()
}

// P7.3

func TestSumInEachOrder(t *testing.T) {
	for _, l := range [][]int64{
		{top, 1, -1},
		{top, 1, 0},
		{top, top, bottom, bottom},
		{bottom, -1, 1, top, 1},
		{1 << 62, 1 << 62, -1, -2, 3, 0},
		{bottom, bottom, bottom, top, top, top},
		mixed(3, 6),
		mixed(4, 6),
	} {
		want, wantError := told(l...)
		orders(l, func(l []int64) {
			if n, e := weight.Sum(l...); n != want || e != wantError {
				t.Fatalf("Sum(%v): %d %v; want %d %v", l, n, e, want, wantError)
			}
			checkTotal(t, total(t, l...), want, wantError, len(l))
		})
	}
}

// TestSumOfTheOtherSign leaves out the least weight, which has no other sign.
func TestSumOfTheOtherSign(t *testing.T) {
	for start := range uint64(400) {
		var l, other []int64
		for _, w := range append(mixed(start, int(start%30)), edges()[int(start)%len(edges()):]...) {
			if n, e := weight.Neg(w); e == api.OK {
				l = append(l, w)
				other = append(other, n)
			}
		}
		checkOther(t, l, other)
	}
	checkOther(t, []int64{top, 1}, []int64{-top, -1})
	checkOther(t, []int64{top, 2}, []int64{-top, -2})
	checkOther(t, []int64{-top, -1, 1}, []int64{top, 1, -1})
}

// checkOther holds two sums of other signs against each other; where one is the least weight, the other is over.
func checkOther(t *testing.T, l, other []int64) {
	t.Helper()
	n, e := weight.Sum(l...)
	m, d := weight.Sum(other...)
	if e == api.OK {
		want, wantError := weight.Neg(n)
		if m != want || d != wantError {
			t.Fatalf("Sum(%v): %d %v; want %d %v", other, m, d, want, wantError)
		}
		return
	}
	if d == api.OK && m != bottom {
		t.Fatalf("Sum(%v): %d; of the other sign it is over", other, m)
	}
}

func TestSumOfParts(t *testing.T) {
	for start := range uint64(200) {
		l := mixed(start, 12)
		at := int(start % 13)
		a, e := weight.Sum(l[:at]...)
		b, d := weight.Sum(l[at:]...)
		if e != api.OK || d != api.OK {
			continue
		}
		want, wantError := weight.Sum(l...)
		if n, e := weight.Add(a, b); n != want || e != wantError {
			t.Fatalf("Add(%d, %d): %d %v; want %d %v", a, b, n, e, want, wantError)
		}
	}
}
