package zset_test

import (
	"math"
	"math/big"
	"slices"
	"strconv"
	"strings"
	"sync"
	"testing"

	"deckle/api"
	"deckle/cell"
	"deckle/row"
	"deckle/schema"
	"deckle/zset"
)

const (
	top    = math.MaxInt64
	bottom = math.MinInt64
)

// example is the schema of the document's own example.
var example = []api.Column{{Name: "id", Kind: api.Int}, {Name: "name", Kind: api.Text}}

// columns are such of those kinds, named a, b, c and so on.
func columns(kinds ...int) []api.Column {
	var s []api.Column
	for i, kind := range kinds {
		s = append(s, api.Column{Name: string(rune('a' + i)), Kind: kind})
	}
	return s
}

func num(x uint64) api.Cell { return api.Cell{Num: x} }

func text(s string) api.Cell { return api.Cell{Text: s} }

func cells(l ...api.Cell) []api.Cell { return l }

// named is a pair of the example's schema.
func named(w int64, id int64, name string) api.Pair {
	return api.Pair{Row: cells(cell.Int(id), text(name)), Weight: w}
}

// one is a pair of one number.
func one(w int64, x uint64) api.Pair { return api.Pair{Row: cells(num(x)), Weight: w} }

func pairs(l ...api.Pair) []api.Pair { return l }

// many are n pairs of one number each, in order.
func many(n int) []api.Pair {
	var l []api.Pair
	for i := range n {
		l = append(l, one(1, uint64(i)))
	}
	return l
}

// with is a copy of l in which the i-th one is another.
func with(l []api.Pair, i int, p api.Pair) []api.Pair {
	l = slices.Clone(l)
	l[i] = p
	return l
}

// deep is a copy that shares no row.
func deep(l []api.Pair) []api.Pair {
	l = slices.Clone(l)
	for i, p := range l {
		l[i].Row = slices.Clone(p.Row)
	}
	return l
}

// turned is the list from its last one to its first one.
func turned(l []api.Pair) []api.Pair {
	l = slices.Clone(l)
	slices.Reverse(l)
	return l
}

// wrongSchemas are such as may not be, and what layer 5 says of them.
func wrongSchemas() map[api.Errno][]api.Column {
	return map[api.Errno][]api.Column{
		api.ErrNone:  {},
		api.ErrLimit: make([]api.Column, 9),
		api.ErrLong:  {{Name: strings.Repeat("a", 33)}},
		api.ErrArg:   {{Name: "A"}},
		api.ErrKind:  {{Name: "a", Kind: 6}},
	}
}

// schemas are some with each kind.
func schemas() [][]api.Column {
	return [][]api.Column{
		columns(api.Int), columns(api.Uint), columns(api.Bool), columns(api.Bytes), columns(api.Text), columns(api.Float),
		example, columns(api.Float, api.Bytes), columns(api.Bool, api.Bool, api.Bool),
		columns(api.Int, api.Uint, api.Bool, api.Bytes, api.Text, api.Float, api.Int, api.Text),
	}
}

// cellsOf are some of a kind.
func cellsOf(kind int) []api.Cell {
	switch kind {
	case api.Int:
		return cells(cell.Int(bottom), cell.Int(-10), cell.Int(-1), num(0), num(1), num(10), cell.Int(top))
	case api.Uint:
		return cells(num(0), num(1), num(9), num(10), num(1<<63), num(math.MaxUint64))
	case api.Bool:
		return cells(num(0), num(1))
	case api.Bytes:
		return cells(text(""), text("\x00"), text("; "), text("-"), text("a"), text("aa"), text("\xff"), text(strings.Repeat("\xff", 256)))
	case api.Text:
		return cells(text(""), text("\x00"), text("; "), text("-"), text("a"), text("aa"), text("ä"), text(strings.Repeat("ä", 128)))
	}
	return cells(num(math.MaxUint64), num(0xfff0000000000000), num(0xbff0000000000000), num(1<<63), num(0), num(1), num(0x7ff0000000000000), num(0x7ff8000000000001))
}

// mixer tells numbers below n, other ones for each start.
func mixer(start uint64) func(n int) int {
	x := start*2685821657736338717 + 88172645463325252
	return func(n int) int {
		x ^= x << 13
		x ^= x >> 7
		x ^= x << 17
		return int(x >> 1 % uint64(n))
	}
}

// weights are small, so that they come to none, and some are great, so that they come to what is over.
func weights() []int64 {
	return []int64{-3, -2, -1, -1, 0, 1, 1, 2, 3, -3, -2, -1, 1, 2, 3, 1 << 62, -1 << 62, top, -top, bottom}
}

// mixed are n pairs of few rows, in no order; of low pairs the weights are small.
func mixed(s []api.Column, start uint64, n int, low bool) []api.Pair {
	next := mixer(start)
	var l []api.Pair
	for range n {
		var r []api.Cell
		for _, c := range s {
			some := cellsOf(c.Kind)
			if len(s) > 2 {
				some = some[:2]
			}
			r = append(r, some[next(len(some))])
		}
		some := weights()
		if low {
			some = some[:15]
		}
		l = append(l, api.Pair{Row: r, Weight: some[next(len(some))]})
	}
	return l
}

// sets are some that may be, of a schema.
func sets(t *testing.T, s []api.Column) [][]api.Pair {
	t.Helper()
	l := [][]api.Pair{nil, {}}
	for start := range uint64(25) {
		l = append(l, collected(t, s, mixed(s, start, int(start), true)...))
	}
	return l
}

// checkOf is Check as the document tells it.
func checkOf(s []api.Column, l []api.Pair) api.Errno {
	if e := schema.Check(s); e != api.OK {
		return e
	}
	if len(l) > 1024 {
		return api.ErrLimit
	}
	for i := range l {
		if e := row.Check(s, l[i].Row); e != api.OK {
			return e
		}
		if l[i].Weight == 0 {
			return api.ErrArg
		}
		if i > 0 && row.Compare(s, l[i-1].Row, l[i].Row) != -1 {
			return api.ErrOrder
		}
	}
	return api.OK
}

// collectOf is Collect as the document tells it: sums without a bound, by the rows' texts, and each row put behind all that are ahead of it.
func collectOf(s []api.Column, l []api.Pair) ([]api.Pair, api.Errno) {
	if e := schema.Check(s); e != api.OK {
		return nil, e
	}
	sums := map[string]*big.Int{}
	var rows [][]api.Cell
	for _, p := range l {
		x, e := row.Text(s, p.Row)
		if e != api.OK {
			return nil, e
		}
		if sums[x] == nil {
			sums[x] = new(big.Int)
			at := 0
			for at < len(rows) && row.Compare(s, rows[at], p.Row) < 0 {
				at++
			}
			rows = slices.Insert(rows, at, p.Row)
		}
		sums[x].Add(sums[x], big.NewInt(p.Weight))
	}
	var set []api.Pair
	for _, r := range rows {
		x, _ := row.Text(s, r)
		if !sums[x].IsInt64() {
			return nil, api.ErrOver
		}
		if w := sums[x].Int64(); w != 0 {
			set = append(set, api.Pair{Row: r, Weight: w})
		}
	}
	if len(set) > 1024 {
		return nil, api.ErrLimit
	}
	return set, api.OK
}

// textOf is the text of a set that Check lets be.
func textOf(s []api.Column, a []api.Pair) string {
	if len(a) == 0 {
		return "-"
	}
	all := ""
	for i, p := range a {
		if i > 0 {
			all += "; "
		}
		x, _ := row.Text(s, p.Row)
		all += strconv.FormatInt(p.Weight, 10) + " " + x
	}
	return all
}

// readOf is Read as the document tells it.
func readOf(s []api.Column, t string) ([]api.Pair, api.Errno) {
	if e := schema.Check(s); e != api.OK {
		return nil, e
	}
	if t == "-" {
		return nil, api.OK
	}
	var l []api.Pair
	for _, part := range strings.Split(t, "; ") {
		at := strings.IndexByte(part, ' ')
		if at < 0 {
			return nil, api.ErrForm
		}
		w, err := strconv.ParseInt(part[:at], 10, 64)
		if err != nil || strconv.FormatInt(w, 10) != part[:at] {
			return nil, api.ErrForm
		}
		r, e := row.Read(s, part[at+1:])
		if e != api.OK {
			return nil, e
		}
		l = append(l, api.Pair{Row: r, Weight: w})
	}
	if e := checkOf(s, l); e != api.OK {
		return nil, e
	}
	return l, api.OK
}

// equal holds pairs against each other by the cells alone.
func equal(a, b []api.Pair) bool {
	if len(a) != len(b) {
		return false
	}
	for i := range a {
		if a[i].Weight != b[i].Weight || !slices.Equal(a[i].Row, b[i].Row) {
			return false
		}
	}
	return true
}

// collected is the set of pairs that have one.
func collected(t *testing.T, s []api.Column, l ...api.Pair) []api.Pair {
	t.Helper()
	a, e := zset.Collect(s, l...)
	if e != api.OK {
		t.Fatalf("Collect(%v, %.200v): %v", s, l, e)
	}
	return a
}

// checkAnswer holds what was answered against what is to be.
func checkAnswer(t *testing.T, call string, got []api.Pair, e api.Errno, want []api.Pair, wantE api.Errno) {
	t.Helper()
	if e != wantE || !equal(got, want) {
		t.Fatalf("%s: %.200v, %v; want %.200v, %v", call, got, e, want, wantE)
	}
}

// checkCollect holds Collect against the document's words.
func checkCollect(t *testing.T, s []api.Column, l []api.Pair) {
	t.Helper()
	want, wantE := collectOf(s, l)
	got, e := zset.Collect(s, l...)
	checkAnswer(t, "Collect", got, e, want, wantE)
	if e == api.OK && zset.Check(s, got) != api.OK {
		t.Fatalf("Collect's %.200v is no set: %v", got, zset.Check(s, got))
	}
}

// checkRead holds Read against the document's words.
func checkRead(t *testing.T, s []api.Column, x string) {
	t.Helper()
	want, wantE := readOf(s, x)
	got, e := zset.Read(s, x)
	checkAnswer(t, "Read("+strconv.Quote(x)+")", got, e, want, wantE)
}

// P8.1

func TestTheDocumentsExample(t *testing.T) {
	l := pairs(named(2, 1, "a"), named(1, 2, "b"), named(-1, 1, "a"))
	a := collected(t, example, l...)
	if !equal(a, pairs(named(1, 1, "a"), named(1, 2, "b"))) {
		t.Error("Collect:", a)
	}
	if x, e := zset.Text(example, a); x != "1 1,61; 1 2,62" || e != api.OK {
		t.Error("Text:", x, e)
	}
	b, e := zset.Read(example, "1 1,61; 1 2,62")
	checkAnswer(t, "Read", b, e, a, api.OK)
}

func TestCheck(t *testing.T) {
	long := strings.Repeat("a", 257)
	wrong := api.Pair{Row: cells(num(0)), Weight: 0}
	for i, c := range []struct {
		l    []api.Pair
		want api.Errno
	}{
		{nil, api.OK},
		{pairs(), api.OK},
		{pairs(named(1, 1, "a")), api.OK},
		{pairs(named(-1, 1, "a")), api.OK},
		{pairs(named(top, 1, "a"), named(bottom, 1, "b"), named(5, 2, "")), api.OK},
		{pairs(named(1, -1, "b"), named(1, 0, "a")), api.OK},
		{pairs(named(0, 1, "a")), api.ErrArg},
		{pairs(named(1, 1, "a"), named(0, 2, "a")), api.ErrArg},
		{pairs(named(1, 1, "a"), named(1, 1, "a")), api.ErrOrder},
		{pairs(named(1, 1, "a"), named(-1, 1, "a")), api.ErrOrder},
		{pairs(named(1, 1, "b"), named(1, 1, "a")), api.ErrOrder},
		{pairs(named(1, 2, "a"), named(1, 1, "b")), api.ErrOrder},
		{pairs(named(1, 0, "a"), named(1, -1, "a")), api.ErrOrder},
		{pairs(named(1, 1, ""), named(1, 2, ""), named(1, 2, "")), api.ErrOrder},
		{pairs(named(1, 1, ""), named(1, 3, ""), named(1, 2, "")), api.ErrOrder},
		{pairs(named(1, 2, ""), named(1, 3, ""), named(1, 1, "")), api.ErrOrder},
		{pairs(api.Pair{Weight: 1}), api.ErrArg},
		{pairs(api.Pair{Row: cells(num(0), text(""), num(0)), Weight: 1}), api.ErrArg},
		{pairs(named(1, 1, "\xff")), api.ErrType},
		{pairs(named(1, 1, long)), api.ErrLong},
		{pairs(api.Pair{Row: cells(text("a"), text(long)), Weight: 1}), api.ErrType},
		// Of one pair the row goes ahead, then the weight, then the order.
		{pairs(named(0, 1, "\xff")), api.ErrType},
		{pairs(named(0, 1, long)), api.ErrLong},
		{pairs(named(1, 2, "a"), named(0, 1, "a")), api.ErrArg},
		{pairs(named(1, 2, "a"), named(1, 1, "\xff")), api.ErrType},
		{pairs(named(1, 2, "a"), named(1, 1, long)), api.ErrLong},
		{pairs(named(1, 2, "a"), named(0, 1, "\xff")), api.ErrType},
		// All of one pair goes ahead of the next one's.
		{pairs(named(0, 1, "a"), named(1, 2, "\xff")), api.ErrArg},
		{pairs(named(0, 1, "a"), named(1, 0, "a")), api.ErrArg},
		{pairs(named(1, 1, "\xff"), named(0, 2, "a")), api.ErrType},
		{pairs(named(1, 1, "a"), named(1, 1, "a"), named(1, 2, "\xff")), api.ErrOrder},
		{pairs(named(1, 1, "a"), named(1, 1, "a"), named(0, 2, "a")), api.ErrOrder},
		{pairs(named(1, 1, long), wrong), api.ErrLong},
		{pairs(named(1, 1, "a"), wrong, named(1, 1, long)), api.ErrArg},
	} {
		if e := zset.Check(example, c.l); e != c.want {
			t.Errorf("%d: Check(%v) = %v; want %v", i, c.l, e, c.want)
		}
		if x, e := zset.Text(example, c.l); e != c.want || e != api.OK && x != "" {
			t.Errorf("%d: Text(%v) = %q, %v; want %v", i, c.l, x, e, c.want)
		}
	}
}

func TestCheckOfAsManyRowsAsMayBe(t *testing.T) {
	s := columns(api.Uint)
	for _, n := range []int{1023, 1024} {
		if e := zset.Check(s, many(n)); e != api.OK {
			t.Error(n, e)
		}
	}
	for _, n := range []int{1025, 1026, 2048, 70000} {
		if e := zset.Check(s, many(n)); e != api.ErrLimit {
			t.Error(n, e)
		}
	}
	// How many there are goes ahead of each.
	for _, p := range []api.Pair{one(0, 0), {Weight: 1}, {Row: cells(text("a")), Weight: 1}, {Row: cells(text(strings.Repeat("a", 257))), Weight: 1}, one(1, math.MaxUint64)} {
		if e := zset.Check(s, with(many(1025), 0, p)); e != api.ErrLimit {
			t.Error(p, e)
		}
	}
	// What the last one has wrong is seen.
	for want, p := range map[api.Errno]api.Pair{api.ErrArg: one(0, 1023), api.ErrOrder: one(1, 1022), api.ErrType: {Row: cells(text("a")), Weight: 1}} {
		if e := zset.Check(s, with(many(1024), 1023, p)); e != want {
			t.Error(p, e)
		}
	}
}

func TestCheckOfMixedPairs(t *testing.T) {
	for _, s := range schemas() {
		for start := range uint64(200) {
			l := mixed(s, start, int(start%5), true)
			if e, want := zset.Check(s, l), checkOf(s, l); e != want {
				t.Fatalf("Check(%v, %v) = %v; want %v", s, l, e, want)
			}
		}
	}
}

func TestTheSchemasErrorGoesAheadOfAll(t *testing.T) {
	bad := pairs(api.Pair{}, api.Pair{Row: cells(text("\xff")), Weight: bottom}, one(top, 1), one(1, 1))
	for want, s := range wrongSchemas() {
		for _, l := range [][]api.Pair{nil, {}, many(1), bad, many(1025), make([]api.Pair, 1025)} {
			if e := zset.Check(s, l); e != want {
				t.Error("Check:", e, want)
			}
			got, e := zset.Collect(s, l...)
			checkAnswer(t, "Collect", got, e, nil, want)
			got, e = zset.Sum(s, l, bad)
			checkAnswer(t, "Sum", got, e, nil, want)
			got, e = zset.Sum(s, nil, l)
			checkAnswer(t, "Sum", got, e, nil, want)
			got, e = zset.Neg(s, l)
			checkAnswer(t, "Neg", got, e, nil, want)
			if x, e := zset.Text(s, l); x != "" || e != want {
				t.Error("Text:", x, e, want)
			}
			if w := zset.Weight(s, l, cells(num(0))); w != 0 {
				t.Error("Weight:", w)
			}
		}
		for _, x := range []string{"-", "", "1 1", "0 1", "?", "1 1; 1 1", strings.Repeat("1 1; ", 1025) + "1 1"} {
			got, e := zset.Read(s, x)
			checkAnswer(t, "Read", got, e, nil, want)
		}
	}
}

// P8.2

func TestCollect(t *testing.T) {
	for i, c := range []struct {
		l    []api.Pair
		want string
	}{
		{nil, "-"},
		{pairs(named(1, 1, "a")), "1 1,61"},
		{pairs(named(-1, 1, "a")), "-1 1,61"},
		{pairs(named(0, 1, "a")), "-"},
		{pairs(named(0, 1, "a"), named(0, 2, "a"), named(0, 1, "a")), "-"},
		{pairs(named(1, 1, "a"), named(-1, 1, "a")), "-"},
		{pairs(named(1, 1, "a"), named(2, 1, "a")), "3 1,61"},
		{pairs(named(1, 1, "a"), named(0, 1, "a")), "1 1,61"},
		{pairs(named(1, 1, "a"), named(1, 1, "b"), named(-1, 1, "a")), "1 1,62"},
		{pairs(named(1, 1, "b"), named(1, 1, "a"), named(-1, 1, "b")), "1 1,61"},
		{pairs(named(1, 2, ""), named(1, 1, "z"), named(1, -1, "zz")), "1 -1,7a7a; 1 1,7a; 1 2,-"},
		{pairs(named(4, 3, ""), named(1, 3, ""), named(1, 1, ""), named(-5, 3, ""), named(1, 2, "")), "1 1,-; 1 2,-"},
		{pairs(named(top, 1, ""), named(1, 1, ""), named(-1, 1, "")), "9223372036854775807 1,-"},
		{pairs(named(top, 1, ""), named(top, 2, ""), named(bottom, 3, "")), "9223372036854775807 1,-; 9223372036854775807 2,-; -9223372036854775808 3,-"},
		{pairs(named(bottom, 1, ""), named(bottom, 1, ""), named(top, 1, ""), named(top, 1, ""), named(2, 1, "")), "-"},
		{pairs(named(bottom, 1, ""), named(-1, 1, ""), named(1, 2, ""), named(1, 1, "")), "-9223372036854775808 1,-; 1 2,-"},
		// Rows whose texts together are the same are unlike.
		{pairs(named(1, 1, "1"), named(-1, 11, "")), "1 1,31; -1 11,-"},
	} {
		for _, l := range [][]api.Pair{c.l, turned(c.l)} {
			a := collected(t, example, l...)
			if x, e := zset.Text(example, a); x != c.want || e != api.OK {
				t.Errorf("%d: %q, %v; want %q", i, x, e, c.want)
			}
			checkCollect(t, example, l)
		}
	}
}

func TestCollectOfWhatHasNoSet(t *testing.T) {
	long := strings.Repeat("a", 257)
	for i, c := range []struct {
		l    []api.Pair
		want api.Errno
	}{
		{pairs(api.Pair{}), api.ErrArg},
		{pairs(api.Pair{Row: cells(num(0)), Weight: 1}), api.ErrArg},
		{pairs(named(1, 1, "\xff")), api.ErrType},
		{pairs(named(1, 1, long)), api.ErrLong},
		{pairs(named(top, 1, ""), named(1, 1, "")), api.ErrOver},
		{pairs(named(bottom, 1, ""), named(-1, 1, "")), api.ErrOver},
		{pairs(named(bottom, 1, ""), named(bottom, 1, "")), api.ErrOver},
		{pairs(named(1, 0, ""), named(top, 1, ""), named(1, 2, ""), named(1, 1, "")), api.ErrOver},
		{pairs(named(top, 3, ""), named(1, 2, ""), named(1, 1, ""), named(1, 3, "")), api.ErrOver},
		// A row is looked at, also where its weight is 0, or comes to 0.
		{pairs(named(0, 1, "\xff")), api.ErrType},
		{pairs(named(1, 1, "\xff"), named(-1, 1, "\xff")), api.ErrType},
		{pairs(named(1, 1, ""), named(0, 0, long)), api.ErrLong},
		// The first one in the list goes ahead, not the first one in order; and rows go ahead of sums.
		{pairs(named(1, 2, long), named(1, 1, "\xff")), api.ErrLong},
		{pairs(named(1, 2, "\xff"), named(1, 1, long)), api.ErrType},
		{pairs(named(1, 5, ""), named(1, 1, long), api.Pair{}), api.ErrLong},
		{pairs(named(top, 1, ""), named(1, 1, ""), named(1, 2, long)), api.ErrLong},
		{pairs(named(top, 1, ""), named(1, 1, ""), api.Pair{}), api.ErrArg},
	} {
		got, e := zset.Collect(example, c.l...)
		checkAnswer(t, strconv.Itoa(i), got, e, nil, c.want)
		checkCollect(t, example, c.l)
	}
}

// TestCollectTellsFloatsByTheirBits has rows that floats themselves would take for the same, or for none.
func TestCollectTellsFloatsByTheirBits(t *testing.T) {
	s := columns(api.Float)
	bits := []uint64{math.MaxUint64, 0xfff8000000000000, 0xfff0000000000000, 1 << 63, 0, 0x7ff0000000000000, 0x7ff8000000000000, 0x7ff8000000000001}
	var l, want []api.Pair
	for i, x := range bits {
		l = append(l, one(int64(i+1), x), one(1, x))
		want = append(want, one(int64(i+2), x))
	}
	for _, l := range [][]api.Pair{l, turned(l)} {
		got, e := zset.Collect(s, l...)
		checkAnswer(t, "Collect", got, e, want, api.OK)
	}
}

func TestCollectOfAsManyRowsAsMayBe(t *testing.T) {
	s := columns(api.Uint)
	full := many(1024)
	for _, l := range [][]api.Pair{
		full,
		turned(full),
		slices.Concat(full, full, turned(full)), // more pairs than rows
		append(slices.Clone(full), one(0, 5000), one(7, 6000), one(-7, 6000)), // rows that aren't there
		slices.Concat(many(1500), pairs(one(-1, 3)), negated(many(1500)[1024:]), pairs(one(1, 3))),
		slices.Repeat(pairs(one(1, 2), one(-2, 1)), 3000),
		slices.Concat(many(3000), negated(many(3000))),
	} {
		got, e := zset.Collect(s, l...)
		if e != api.OK || len(got) > 1024 {
			t.Fatal(len(got), e)
		}
		checkCollect(t, s, l)
	}
	for i, l := range [][]api.Pair{many(1025), turned(many(1025)), many(5000), append(slices.Clone(full), one(-1, math.MaxUint64))} {
		got, e := zset.Collect(s, l...)
		checkAnswer(t, strconv.Itoa(i), got, e, nil, api.ErrLimit)
	}
	// What is over, and rows, go ahead, wherever they are.
	for _, x := range []uint64{0, 500, 1023, 1024, 1025, 1999, math.MaxUint64} {
		l := append(many(2000), one(top, x), one(top, x))
		got, e := zset.Collect(s, l...)
		checkAnswer(t, "over", got, e, nil, api.ErrOver)
		got, e = zset.Collect(s, append(l, api.Pair{Row: cells(text("a"))})...)
		checkAnswer(t, "a row", got, e, nil, api.ErrType)
	}
}

// negated are pairs of the other signs.
func negated(l []api.Pair) []api.Pair {
	l = slices.Clone(l)
	for i := range l {
		l[i].Weight = -l[i].Weight
	}
	return l
}

func TestCollectOfMixedPairs(t *testing.T) {
	over := 0
	for _, s := range schemas() {
		for start := range uint64(120) {
			for _, low := range []bool{true, false} {
				l := mixed(s, start, int(start), low)
				checkCollect(t, s, l)
				if _, e := collectOf(s, l); e == api.ErrOver {
					over++
				}
			}
		}
	}
	if over < 100 {
		t.Error("few are over:", over)
	}
}

func TestSum(t *testing.T) {
	for i, c := range []struct {
		a, b []api.Pair
		want string
	}{
		{nil, nil, "-"},
		{pairs(), pairs(named(1, 1, "a")), "1 1,61"},
		{pairs(named(1, 1, "a")), nil, "1 1,61"},
		{pairs(named(1, 1, "a")), pairs(named(-1, 1, "a")), "-"},
		{pairs(named(1, 1, "a")), pairs(named(2, 1, "a")), "3 1,61"},
		{pairs(named(1, 1, "a"), named(1, 3, "")), pairs(named(1, 0, ""), named(-1, 1, "a"), named(5, 2, ""), named(2, 3, ""), named(1, 4, "")), "1 0,-; 5 2,-; 3 3,-; 1 4,-"},
		{pairs(named(top, 1, "")), pairs(named(bottom, 1, "")), "-1 1,-"},
		{pairs(named(top, 1, "")), pairs(named(top, 2, "")), "9223372036854775807 1,-; 9223372036854775807 2,-"},
	} {
		for _, two := range [][2][]api.Pair{{c.a, c.b}, {c.b, c.a}} {
			got, e := zset.Sum(example, two[0], two[1])
			if x, d := zset.Text(example, got); x != c.want || e != api.OK || d != api.OK {
				t.Errorf("%d: %q, %v; want %q", i, x, e, c.want)
			}
		}
	}
}

func TestSumOfWhatHasNone(t *testing.T) {
	good := pairs(named(1, 1, "a"))
	long := pairs(named(1, 1, strings.Repeat("a", 257)))
	zero := pairs(named(0, 1, "a"))
	double := pairs(named(1, 1, "a"), named(1, 1, "a"))
	other := pairs(named(1, 2, ""), named(1, 1, ""))
	for i, c := range []struct {
		a, b []api.Pair
		want api.Errno
	}{
		{good, long, api.ErrLong},
		{long, good, api.ErrLong},
		{good, zero, api.ErrArg},
		{zero, good, api.ErrArg},
		{double, good, api.ErrOrder},
		{good, double, api.ErrOrder},
		{other, nil, api.ErrOrder},
		{nil, other, api.ErrOrder},
		// What a has goes ahead of what b has.
		{zero, long, api.ErrArg},
		{long, zero, api.ErrLong},
		{double, long, api.ErrOrder},
		{zero, double, api.ErrArg},
		{zero, make([]api.Pair, 1025), api.ErrArg},
		{make([]api.Pair, 1025), long, api.ErrLimit},
		{good, make([]api.Pair, 1025), api.ErrLimit},
		{pairs(named(top, 1, "")), pairs(named(1, 1, "")), api.ErrOver},
		{pairs(named(bottom, 1, "")), pairs(named(1, 0, ""), named(-1, 1, "")), api.ErrOver},
		{pairs(named(top, 1, "")), pairs(named(1, 1, ""), named(1, 1, "")), api.ErrOrder},
	} {
		got, e := zset.Sum(example, c.a, c.b)
		checkAnswer(t, strconv.Itoa(i), got, e, nil, c.want)
	}
}

func TestSumOfAsManyRowsAsMayBe(t *testing.T) {
	s := columns(api.Uint)
	full := many(2048)
	for _, c := range []struct {
		a, b []api.Pair
		n    int
		want api.Errno
	}{
		{full[:1024], full[:1024], 1024, api.OK},
		{full[:1024], nil, 1024, api.OK},
		{full[:512], full[512:1024], 1024, api.OK},
		{full[:1024], full[1024:], 0, api.ErrLimit},
		{full[:1024], full[1024:1025], 0, api.ErrLimit},
		{full[512:1024], full[:513], 1024, api.OK},
		{full[:1024], append(negated(full[:1]), full[1024]), 1024, api.OK},
		{full[:1024], negated(full[:1024]), 0, api.OK},
		{full[:1024], append(negated(full[:1]), full[1024:1026]...), 0, api.ErrLimit},
		{with(full[:1024], 1023, one(top, 1023)), full[1023:1025], 0, api.ErrOver},
	} {
		got, e := zset.Sum(s, c.a, c.b)
		if e != c.want || len(got) != c.n {
			t.Errorf("%d rows, %v; want %d, %v", len(got), e, c.n, c.want)
		}
	}
}

func TestSumOfEachTwo(t *testing.T) {
	for _, s := range schemas() {
		l := sets(t, s)
		for _, a := range l {
			for _, b := range l {
				want, wantE := collectOf(s, slices.Concat(a, b))
				got, e := zset.Sum(s, a, b)
				checkAnswer(t, "Sum", got, e, want, wantE)
			}
		}
	}
}

func TestNeg(t *testing.T) {
	for i, c := range []struct {
		a    []api.Pair
		want string
	}{
		{nil, "-"},
		{pairs(), "-"},
		{pairs(named(1, 1, "a")), "-1 1,61"},
		{pairs(named(-3, 1, "a"), named(top, 1, "b"), named(-top, 2, "")), "3 1,61; -9223372036854775807 1,62; 9223372036854775807 2,-"},
	} {
		got, e := zset.Neg(example, c.a)
		if x, d := zset.Text(example, got); x != c.want || e != api.OK || d != api.OK {
			t.Errorf("%d: %q, %v; want %q", i, x, e, c.want)
		}
	}
	for i, c := range []struct {
		a    []api.Pair
		want api.Errno
	}{
		{pairs(named(bottom, 1, "")), api.ErrOver},
		{pairs(named(1, 1, ""), named(bottom, 2, ""), named(1, 3, "")), api.ErrOver},
		{pairs(named(1, 1, ""), named(1, 2, ""), named(bottom, 3, "")), api.ErrOver},
		{pairs(named(0, 1, "")), api.ErrArg},
		{pairs(named(1, 1, "\xff")), api.ErrType},
		{pairs(named(1, 2, ""), named(1, 1, "")), api.ErrOrder},
		// What Check tells goes ahead.
		{pairs(named(bottom, 1, ""), named(0, 2, "")), api.ErrArg},
		{pairs(named(bottom, 1, ""), named(1, 1, "")), api.ErrOrder},
		{pairs(named(bottom, 1, ""), named(1, 2, "\xff")), api.ErrType},
		{slices.Repeat(pairs(named(bottom, 1, "")), 1025), api.ErrLimit},
	} {
		got, e := zset.Neg(example, c.a)
		checkAnswer(t, strconv.Itoa(i), got, e, nil, c.want)
	}
	s := columns(api.Uint)
	got, e := zset.Neg(s, many(1024))
	checkAnswer(t, "as many as may be", got, e, negated(many(1024)), api.OK)
}

// P8.3

func TestWeight(t *testing.T) {
	a := pairs(named(2, -1, "a"), named(-3, 1, ""), named(top, 1, "a"), named(bottom, 5, "b"))
	for i, c := range []struct {
		r    []api.Cell
		want int64
	}{
		{cells(cell.Int(-1), text("a")), 2},
		{cells(num(1), text("")), -3},
		{cells(num(1), text("a")), top},
		{cells(num(5), text("b")), bottom},
		{cells(num(5), text("a")), 0},
		{cells(num(5), text("")), 0},
		{cells(num(5), text("bb")), 0},
		{cells(num(0), text("a")), 0},
		{cells(num(2), text("")), 0},
		{cells(cell.Int(-2), text("a")), 0},
		{cells(num(9), text("b")), 0},
		{nil, 0},
		{cells(), 0},
		{cells(num(1)), 0},
		{cells(num(1), text("a"), num(0)), 0},
		{cells(num(1), api.Cell{Num: 1, Text: "a"}), 0},
		{cells(api.Cell{Num: 1, Text: "x"}, text("a")), 0},
		{cells(num(1), text("\xff")), 0},
		{cells(num(1), text(strings.Repeat("a", 257))), 0},
	} {
		if w := zset.Weight(example, a, c.r); w != c.want {
			t.Errorf("%d: Weight(%v) = %d; want %d", i, c.r, w, c.want)
		}
		if w := zset.Weight(example, nil, c.r); w != 0 {
			t.Errorf("%d: Weight(%v) in none = %d", i, c.r, w)
		}
	}
}

func TestWeightInWhatIsNoSet(t *testing.T) {
	r := cells(num(1), text("a"))
	for i, a := range [][]api.Pair{
		pairs(named(5, 1, "a"), named(5, 1, "a")),
		pairs(named(5, 1, "a"), named(5, 0, "a")),
		pairs(named(5, 1, "a"), named(0, 2, "a")),
		pairs(named(5, 1, "a"), named(1, 2, "\xff")),
		pairs(named(5, 1, "a"), api.Pair{}),
		pairs(api.Pair{}, named(5, 1, "a")),
		pairs(named(5, 2, "a"), named(5, 1, "a")),
	} {
		if w := zset.Weight(example, a, r); w != 0 {
			t.Errorf("%d: %d", i, w)
		}
	}
	s := columns(api.Uint)
	for _, x := range []uint64{0, 1, 512, 1022, 1023} {
		if w := zset.Weight(s, with(many(1024), int(x), one(77, x)), cells(num(x))); w != 77 {
			t.Error("of as many as may be:", x, w)
		}
		if w := zset.Weight(s, many(1025), cells(num(x))); w != 0 {
			t.Error("of more than may be:", x, w)
		}
	}
	// Rows that may not be are none's, also where they are the same as one of the list's.
	for _, r := range [][]api.Cell{nil, cells(text("a")), cells(num(0), num(0))} {
		if w := zset.Weight(s, pairs(api.Pair{Row: r, Weight: 3}), r); w != 0 {
			t.Error(r, w)
		}
	}
}

func TestWeightOfEachRow(t *testing.T) {
	for _, s := range schemas() {
		for start := range uint64(60) {
			l := mixed(s, start, int(start), true)
			a := collected(t, s, l...)
			for _, p := range l {
				sum := int64(0)
				for _, q := range l {
					if slices.Equal(p.Row, q.Row) {
						sum += q.Weight
					}
				}
				if w := zset.Weight(s, a, p.Row); w != sum {
					t.Fatalf("Weight(%v, %v, %v) = %d; want %d", s, a, p.Row, w, sum)
				}
			}
		}
	}
}

func TestSame(t *testing.T) {
	a := pairs(named(1, 1, "a"), named(-2, 2, "b"))
	for i, c := range []struct {
		a, b []api.Pair
		want bool
	}{
		{nil, nil, true},
		{nil, pairs(), true},
		{nil, pairs(api.Pair{}), false},
		{a, deep(a), true},
		{a, a[:1], false},
		{a, a[1:], false},
		{a, append(deep(a), named(1, 3, "c")), false},
		{a, turned(a), false},
		{a, pairs(named(1, 1, "a"), named(2, 2, "b")), false},
		{a, pairs(named(2, 1, "a"), named(-2, 2, "b")), false},
		{a, pairs(named(1, 1, "a"), named(-2, 2, "c")), false},
		{a, pairs(named(1, 1, "a"), named(-2, 3, "b")), false},
		{a, pairs(named(1, 0, "a"), named(-2, 2, "b")), false},
		{a, pairs(named(1, 1, "a"), api.Pair{Row: cells(num(2)), Weight: -2}), false},
		{a, pairs(named(1, 1, "a"), api.Pair{Row: cells(num(2), text("b"), num(0)), Weight: -2}), false},
		{pairs(one(1, 1<<63)), pairs(one(1, 0)), false},
		{pairs(one(top, 0)), pairs(one(bottom, 0)), false},
		{pairs(one(1, 0)), pairs(one(1+1<<32, 0)), false},
		// What is no set is the same, too.
		{pairs(api.Pair{}), pairs(api.Pair{Row: cells()}), true},
		{pairs(one(1, math.MaxUint64)), pairs(one(1, math.MaxUint64)), true},
		{turned(a), turned(a), true},
		{pairs(named(0, 1, "\xff"), named(0, 1, "\xff")), pairs(named(0, 1, "\xff"), named(0, 1, "\xff")), true},
		{pairs(named(0, 1, "\xff")), pairs(named(0, 1, "\ufffd")), false},
		{make([]api.Pair, 70000), make([]api.Pair, 70000), true},
		{make([]api.Pair, 70000), with(make([]api.Pair, 70000), 69999, one(0, 0)), false},
	} {
		if zset.Same(c.a, c.b) != c.want || zset.Same(c.b, c.a) != c.want {
			t.Errorf("%d: Same(%.200v, %.200v) isn't %v", i, c.a, c.b, c.want)
		}
	}
}

// P8.4

func TestText(t *testing.T) {
	for _, c := range []struct {
		s    []api.Column
		a    []api.Pair
		want string
	}{
		{example, nil, "-"},
		{example, pairs(), "-"},
		{example, pairs(named(1, 1, "")), "1 1,-"},
		{example, pairs(named(top, -7, "a"), named(bottom, 0, "b"), named(-1, 10, "; ")), "9223372036854775807 -7,61; -9223372036854775808 0,62; -1 10,3b20"},
		{columns(api.Bytes), pairs(api.Pair{Row: cells(text("")), Weight: -1}), "-1 -"},
		{columns(api.Bool), pairs(one(3, 0), one(10, 1)), "3 false; 10 true"},
		{columns(api.Float), pairs(one(1, 1<<63), one(1, 0)), "1 8000000000000000; 1 0000000000000000"},
	} {
		if x, e := zset.Text(c.s, c.a); x != c.want || e != api.OK {
			t.Errorf("Text(%v) = %q, %v; want %q", c.a, x, e, c.want)
		}
		got, e := zset.Read(c.s, c.want)
		checkAnswer(t, "Read", got, e, c.a, api.OK)
	}
	s := columns(api.Uint)
	x, e := zset.Text(s, many(1024))
	if x != textOf(s, many(1024)) || e != api.OK {
		t.Error("of as many as may be:", len(x), e)
	}
	got, e := zset.Read(s, x)
	checkAnswer(t, "Read", got, e, many(1024), api.OK)
	if x, e := zset.Text(s, many(1025)); x != "" || e != api.ErrLimit {
		t.Error("of more than may be:", len(x), e)
	}
}

func TestReadOfWhatIsNoSet(t *testing.T) {
	long := strings.Repeat("61", 257)
	for x, want := range map[string]api.Errno{
		"":                              api.ErrForm,
		" ":                             api.ErrForm,
		"; ":                            api.ErrForm,
		"--":                            api.ErrForm,
		"- ":                            api.ErrForm,
		" -":                            api.ErrForm,
		"-; -":                          api.ErrForm,
		"-; 1 1,61":                     api.ErrForm,
		"1 1,61; -":                     api.ErrForm,
		"1":                             api.ErrForm,
		"1 ":                            api.ErrForm,
		"1,61":                          api.ErrForm,
		" 1,61":                         api.ErrForm,
		" 1 1,61":                       api.ErrForm,
		"1 1,61 ":                       api.ErrForm,
		"1  1,61":                       api.ErrForm,
		"1 1, 61":                       api.ErrForm,
		"1\t1,61":                       api.ErrForm,
		"1\u00a01,61":                   api.ErrForm,
		"+1 1,61":                       api.ErrForm,
		"01 1,61":                       api.ErrForm,
		"-0 1,61":                       api.ErrForm,
		"1.0 1,61":                      api.ErrForm,
		"1e1 1,61":                      api.ErrForm,
		"- 1,61":                        api.ErrForm,
		"a 1,61":                        api.ErrForm,
		"9223372036854775808 1,61":      api.ErrForm,
		"-9223372036854775809 1,61":     api.ErrForm,
		"1 1,61;":                       api.ErrForm,
		"1 1,61; ":                      api.ErrForm,
		"; 1 1,61":                      api.ErrForm,
		"1 1,61;1 2,62":                 api.ErrForm,
		"1 1,61 ;1 2,62":                api.ErrForm,
		"1 1,61 ; 1 2,62":               api.ErrForm,
		"1 1,61;  1 2,62":               api.ErrForm,
		"1 1,61;; 1 2,62":               api.ErrForm,
		"1 1,61; ; 1 2,62":              api.ErrForm,
		"1 1,61, 1 2,62":                api.ErrForm,
		"1 1,61\n1 2,62":                api.ErrForm,
		"1 1":                           api.ErrForm,
		"1 1,61,61":                     api.ErrForm,
		"1 61,a":                        api.ErrForm,
		"1 1,6":                         api.ErrForm,
		"1 1,6A":                        api.ErrForm,
		"1 1,ff":                        api.ErrType,
		"1 1," + long:                   api.ErrLong,
		"0 1,61":                        api.ErrArg,
		"1 1,61; 1 1,61":                api.ErrOrder,
		"1 2,61; 1 1,61":                api.ErrOrder,
		"1 1,62; 1 1,61":                api.ErrOrder,
		"1 1,-; 0 2,-":                  api.ErrArg,
		"1 2,-; 0 1,-":                  api.ErrArg,
		"0 1,ff":                        api.ErrType, // the row is read ahead of all that Check tells
		"0 1,61; 1 2,ff":                api.ErrType,
		"1 2,61; 1 1," + long:           api.ErrLong,
		"1 2,61; 1 1,61; 1":             api.ErrForm,
		"0 1,61; 1 0,61":                api.ErrArg,
		"1 1,61; 1 1,61; 0 2,61":        api.ErrOrder,
		"? 1,ff":                        api.ErrForm, // of a part the weight goes ahead
		"1 1,ff; ? 1,61":                api.ErrType, // what a part ahead has goes ahead
		"1 1," + long + "; 1 2,ff":      api.ErrLong,
		"1 1,ff; 1 2," + long:           api.ErrType,
		"1; 1 2,ff":                     api.ErrForm,
		strings.Repeat("; ", 70000):     api.ErrForm,
		strings.Repeat("1", 70000):      api.ErrForm,
		strings.Repeat(" ", 70000):      api.ErrForm,
		"1 " + strings.Repeat(",", 999): api.ErrForm,
	} {
		got, e := zset.Read(example, x)
		checkAnswer(t, "Read("+strconv.Quote(x)+")", got, e, nil, want)
		checkRead(t, example, x)
	}
}

func TestReadOfAsManyRowsAsMayBe(t *testing.T) {
	s := columns(api.Uint)
	full := textOf(s, many(1024))
	for x, want := range map[string]api.Errno{
		full:                                   api.OK,
		full + "; 1 1024":                      api.ErrLimit,
		full + "; 0 1024":                      api.ErrLimit,
		full + "; 1 0":                         api.ErrLimit,
		"0 0; " + full:                         api.ErrLimit, // how many there are goes ahead of each
		full + "; " + full:                     api.ErrLimit,
		full + "; 1 1024; 1":                   api.ErrForm, // and each part goes ahead of that
		full + "; 1 1024; ":                    api.ErrForm,
		full + "; 1 -1":                        api.ErrForm,
		full + "; -":                           api.ErrForm,
		"0 0; " + full[5:]:                     api.ErrArg,
		full[:5] + full:                        api.ErrLimit,
		full[5:] + "; 1 0":                     api.ErrOrder,
		full[5:] + "; 1 1023":                  api.ErrOrder,
		strings.Repeat("1 0; ", 70000) + "1 0": api.ErrLimit,
		strings.Repeat("1 0; ", 70000) + "1":   api.ErrForm,
	} {
		if got, e := zset.Read(s, x); e != want || e != api.OK && len(got) != 0 {
			t.Errorf("Read of %d bytes: %d, %v; want %v", len(x), len(got), e, want)
		}
		checkRead(t, s, x)
	}
	// A long text's error is told where the parts are more than may be, too.
	b := columns(api.Bytes)
	x := strings.Repeat("1 00; ", 1500) + "1 " + strings.Repeat("61", 257)
	got, e := zset.Read(b, x)
	checkAnswer(t, "Read", got, e, nil, api.ErrLong)
}

// TestReadOfWhatIsAllButASet cuts and changes the texts of sets.
func TestReadOfWhatIsAllButASet(t *testing.T) {
	for _, s := range schemas() {
		for start := range uint64(6) {
			x := textOf(s, collected(t, s, mixed(s, start, 4, true)...))
			if len(x) > 150 {
				continue
			}
			for at := range x {
				checkRead(t, s, x[:at])
				checkRead(t, s, x[at:])
				checkRead(t, s, x[:at]+x[at+1:])
				for _, c := range []string{" ", ";", "; ", ",", "-", "0", "1", "a", "\x00", "\xff"} {
					checkRead(t, s, x[:at]+c+x[at+1:])
					checkRead(t, s, x[:at]+c+x[at:])
				}
			}
		}
	}
}

func TestATextIsReadAsItsSet(t *testing.T) {
	for _, s := range schemas() {
		seen := map[string][]api.Pair{}
		for _, a := range sets(t, s) {
			x, e := zset.Text(s, a)
			if x != textOf(s, a) || e != api.OK {
				t.Fatalf("Text(%v) = %q, %v; want %q", a, x, e, textOf(s, a))
			}
			got, e := zset.Read(s, x)
			checkAnswer(t, "Read", got, e, a, api.OK)
			if other, ok := seen[x]; ok && !zset.Same(other, a) {
				t.Fatalf("%v and %v have %q", other, a, x)
			}
			seen[x] = a
		}
	}
}

// P8.5

func TestCollectInEachOrder(t *testing.T) {
	for _, l := range [][]api.Pair{
		{named(2, 1, "a"), named(1, 2, "b"), named(-1, 1, "a")},
		{named(top, 1, "a"), named(1, 1, "a"), named(-1, 1, "a"), named(5, 0, ""), named(0, 2, "")},
		{named(bottom, 1, ""), named(bottom, 1, ""), named(top, 1, ""), named(top, 1, ""), named(2, 2, "")},
		{named(top, 1, ""), named(1, 1, ""), named(1, 2, ""), named(-1, 3, ""), named(1, 3, "")},
		mixed(example, 7, 6, true),
		mixed(example, 8, 6, false),
	} {
		want, wantE := collectOf(example, l)
		orders(slices.Clone(l), func(l []api.Pair) {
			got, e := zset.Collect(example, l...)
			checkAnswer(t, "Collect", got, e, want, wantE)
		})
	}
}

// orders calls f with the list in each order that it may have.
func orders(l []api.Pair, f func([]api.Pair)) {
	var from func(i int)
	from = func(i int) {
		if i == len(l) {
			f(l)
			return
		}
		for k := i; k < len(l); k++ {
			l[i], l[k] = l[k], l[i]
			from(i + 1)
			l[i], l[k] = l[k], l[i]
		}
	}
	from(0)
}

// sum is one that there is.
func sum(t *testing.T, s []api.Column, a, b []api.Pair) []api.Pair {
	t.Helper()
	c, e := zset.Sum(s, a, b)
	if e != api.OK {
		t.Fatalf("Sum(%v, %v, %v): %v", s, a, b, e)
	}
	return c
}

func TestSumsGoBothWaysAndOn(t *testing.T) {
	for _, s := range schemas() {
		l := sets(t, s)
		for i, a := range l {
			b, c := l[(i*7+3)%len(l)], l[(i*11+5)%len(l)]
			if !zset.Same(sum(t, s, a, b), sum(t, s, b, a)) {
				t.Fatalf("%v and %v aren't the same the other way", a, b)
			}
			if !zset.Same(sum(t, s, sum(t, s, a, b), c), sum(t, s, a, sum(t, s, b, c))) {
				t.Fatalf("%v, %v and %v aren't the same the other way about", a, b, c)
			}
			if !zset.Same(sum(t, s, a, nil), a) || !zset.Same(sum(t, s, nil, a), a) {
				t.Fatalf("%v and none aren't that", a)
			}
			if !zset.Same(collected(t, s, a...), a) {
				t.Fatalf("the set of %v isn't that", a)
			}
		}
	}
}

func TestASetAndItsNegComeToNone(t *testing.T) {
	for _, s := range schemas() {
		for _, a := range sets(t, s) {
			n, e := zset.Neg(s, a)
			checkAnswer(t, "Neg", n, e, negated(a), api.OK)
			if c := sum(t, s, a, n); len(c) != 0 {
				t.Fatalf("%v and its Neg come to %v", a, c)
			}
			again, e := zset.Neg(s, n)
			checkAnswer(t, "Neg", again, e, a, api.OK)
		}
	}
}

// The rules of all layers.

// TestWhatIsHandedInStays calls all with lists that have more behind their length, and rows that have.
func TestWhatIsHandedInStays(t *testing.T) {
	room := columns(api.Int, api.Text, api.Bool)
	s := room[:2]
	wide := cells(num(1), text("a"), num(9))
	all := pairs(api.Pair{Row: wide[:2], Weight: 2}, named(3, 2, "b"), named(-2, 1, "a"), named(7, 7, "z"))
	mix := all[1:3]
	a, b := all[:2], all[3:4]
	keep, keepWide := deep(all), slices.Clone(wide)
	for range 2 {
		zset.Check(s, a)
		zset.Collect(s, mix...)
		zset.Sum(s, a, b)
		zset.Sum(s, a[:1], b)
		zset.Neg(s, a)
		zset.Weight(s, a, wide[:2])
		zset.Same(a, b)
		zset.Text(s, a)
	}
	if !equal(all, keep) || !slices.Equal(wide, keepWide) || !slices.Equal(room, columns(api.Int, api.Text, api.Bool)) {
		t.Errorf("what was handed in became %v, %v, %v", all, wide, room)
	}
}

// TestWhatIsAnsweredIsApart changes all that is answered, and what could lie behind it.
func TestWhatIsAnsweredIsApart(t *testing.T) {
	low := append(make([]api.Cell, 0, 9), num(1), text("a"))
	high := append(make([]api.Cell, 0, 9), num(2), text("b"))
	a := append(make([]api.Pair, 0, 9), api.Pair{Row: low, Weight: 2}, api.Pair{Row: high, Weight: 3})
	b := pairs(api.Pair{Row: low, Weight: 1})
	keepA, keepB := deep(a), deep(b)
	calls := map[string]func() ([]api.Pair, api.Errno){
		"Collect":        func() ([]api.Pair, api.Errno) { return zset.Collect(example, a...) },
		"Collect of two": func() ([]api.Pair, api.Errno) { return zset.Collect(example, append(turned(a), b...)...) },
		"Sum":            func() ([]api.Pair, api.Errno) { return zset.Sum(example, a, b) },
		"Sum with none":  func() ([]api.Pair, api.Errno) { return zset.Sum(example, a, nil) },
		"Sum of none":    func() ([]api.Pair, api.Errno) { return zset.Sum(example, nil, a) },
		"Neg":            func() ([]api.Pair, api.Errno) { return zset.Neg(example, a) },
		"Read":           func() ([]api.Pair, api.Errno) { return zset.Read(example, "2 1,61; 3 2,62") },
	}
	for name, call := range calls {
		first, e := call()
		second, d := call()
		if e != api.OK || d != api.OK || len(first) != 2 {
			t.Fatal(name, first, e, d)
		}
		keep := deep(second)
		spoil(first)
		if !equal(second, keep) || !equal(a, keepA) || !equal(b, keepB) {
			t.Errorf("%s: what was answered is shared", name)
		}
		if len(low[:3][2].Text) > 0 || len(high[:3][2].Text) > 0 || a[:3][2].Row != nil {
			t.Errorf("%s: what lies behind what was handed in is handed out", name)
		}
	}
	// No two rows of one answer share anything.
	l, e := zset.Neg(example, a)
	if e != api.OK {
		t.Fatal(e)
	}
	spoil(l[:1:1])
	if !slices.Equal(l[1].Row, keepA[1].Row) {
		t.Error("rows of one answer share parts")
	}
}

// spoil changes all of a list, and what lies behind it and its rows.
func spoil(l []api.Pair) {
	for i := range l {
		r := l[i].Row[:cap(l[i].Row)]
		for k := range r {
			r[k] = api.Cell{Num: 99, Text: "spoilt"}
		}
		l[i].Weight = 99
	}
	l = l[:cap(l)]
	for i := range l {
		l[i] = api.Pair{Row: cells(num(99)), Weight: 99}
	}
}

// TestManyAtATime asks by many goroutines at a time, of the same lists.
func TestManyAtATime(t *testing.T) {
	l := mixed(example, 3, 300, true)
	want, _ := collectOf(example, l)
	wantText := textOf(example, want)
	var all sync.WaitGroup
	for range 16 {
		all.Go(func() {
			a, e := zset.Collect(example, l...)
			x, d := zset.Text(example, a)
			n, f := zset.Neg(example, a)
			b, g := zset.Sum(example, a, n)
			if e != api.OK || d != api.OK || f != api.OK || g != api.OK || x != wantText || len(b) != 0 {
				t.Error(e, d, f, g, x, b)
			}
		})
	}
	all.Wait()
}
