package batch_test

import (
	"bytes"
	"fmt"
	"math"
	"math/big"
	"slices"
	"strings"
	"sync"
	"testing"

	"deckle/api"
	"deckle/batch"
	"deckle/cell"
	"deckle/column"
	"deckle/reader"
	"deckle/row"
	"deckle/schema"
	"deckle/wire"
	"deckle/zset"
)

const (
	top    = math.MaxInt64
	bottom = math.MinInt64
)

// example is the schema of the document's own example.
var example = []api.Column{{Name: "id", Kind: api.Int}, {Name: "name", Kind: api.Text}}

// columns are such of those kinds, named a, b, c and so on.
func columns(kinds ...int) []api.Column {
	var s []api.Column
	for i, kind := range kinds {
		s = append(s, api.Column{Name: string(rune('a' + i)), Kind: kind})
	}
	return s
}

func num(x uint64) api.Cell { return api.Cell{Num: x} }

func text(s string) api.Cell { return api.Cell{Text: s} }

func pair(w int64, l ...api.Cell) api.Pair { return api.Pair{Row: l, Weight: w} }

func pairs(l ...api.Pair) []api.Pair { return l }

// named is a pair of the example's schema.
func named(w int64, id int64, name string) api.Pair { return pair(w, cell.Int(id), text(name)) }

// many are n pairs of one number each, in order.
func many(n int) []api.Pair {
	var l []api.Pair
	for i := range n {
		l = append(l, pair(1, num(uint64(i))))
	}
	return l
}

// deep is a copy that shares no row.
func deep(l []api.Pair) []api.Pair {
	l = slices.Clone(l)
	for i, p := range l {
		l[i].Row = slices.Clone(p.Row)
	}
	return l
}

// wrongSchemas are such as may not be, and what layer 5 says of them.
func wrongSchemas() map[api.Errno][]api.Column {
	return map[api.Errno][]api.Column{
		api.ErrNone:  {},
		api.ErrLimit: make([]api.Column, 9),
		api.ErrLong:  {{Name: strings.Repeat("a", 33)}},
		api.ErrArg:   {{Name: "A"}},
		api.ErrKind:  {{Name: "a", Kind: 6}},
	}
}

// schemas are some with each kind, and with as many columns as may be.
func schemas() [][]api.Column {
	return [][]api.Column{
		columns(api.Int), columns(api.Uint), columns(api.Bool), columns(api.Bytes), columns(api.Text), columns(api.Float),
		example, columns(api.Float, api.Bytes), columns(api.Bool, api.Uint), columns(api.Bool, api.Bool, api.Bool),
		columns(api.Bool, api.Text, api.Bool, api.Int, api.Bool),
		columns(api.Int, api.Uint, api.Bool, api.Bytes, api.Text, api.Float, api.Int, api.Text),
		columns(api.Bool, api.Bool, api.Bool, api.Bool, api.Bool, api.Bool, api.Bool, api.Bool),
	}
}

// brief is a text of x that can be told whole, if x is small.
func brief(x any) string {
	s := fmt.Sprint(x)
	if len(s) > 300 {
		return s[:300] + ".."
	}
	return s
}

// The document's words, told anew.

// numberOf are the bytes of a number below 2^64.
func numberOf(x *big.Int) []byte {
	rest, seven := new(big.Int).Set(x), new(big.Int)
	base := big.NewInt(128)
	var b []byte
	for {
		rest.DivMod(rest, base, seven)
		if rest.Sign() == 0 {
			return append(b, byte(seven.Int64()))
		}
		b = append(b, byte(seven.Int64())+128)
	}
}

// signedOf are the bytes of a number of either sign.
func signedOf(n int64) []byte {
	x := big.NewInt(n)
	twice := new(big.Int).Add(x, x)
	if x.Sign() < 0 {
		twice.Neg(twice)
		twice.Sub(twice, big.NewInt(1))
	}
	return numberOf(twice)
}

// writeOf are the bytes of a set.
func writeOf(s []api.Column, a []api.Pair) []byte {
	b := numberOf(big.NewInt(int64(len(a))))
	for i := range s {
		var l []api.Cell
		for _, p := range a {
			l = append(l, p.Row[i])
		}
		cells, e := column.Write(s[i].Kind, l...)
		if e != api.OK {
			panic(e)
		}
		b = append(b, cells...)
	}
	for _, p := range a {
		b = append(b, signedOf(p.Weight)...)
	}
	return b
}

// took is what stands in bytes up to a place: the set there, or why it ended.
type took struct {
	set []api.Pair
	at  int
	e   api.Errno
}

// takeOf takes a set off the front, and says nothing of what is behind it.
func takeOf(b []byte, s []api.Column) took {
	if e := schema.Check(s); e != api.OK {
		return took{e: e}
	}
	n, at, e := wire.GetUint(b)
	if e == api.OK && n > 1024 {
		e = api.ErrRange
	}
	if e != api.OK {
		return took{e: e}
	}
	set := make([]api.Pair, n)
	for _, c := range s {
		l, size, e := columnOf(b[at:], c.Kind, int(n))
		at += size
		if e != api.OK {
			return took{at: at, e: e}
		}
		for i := range set {
			set[i].Row = append(set[i].Row, l[i])
		}
	}
	for i := range set {
		w, size, e := wire.GetInt(b[at:])
		if e != api.OK {
			return took{at: at, e: e}
		}
		at += size
		if w == 0 {
			return took{at: at, e: api.ErrArg}
		}
		set[i].Weight = w
	}
	// All else that layer 8 asks of a set was asked.
	if zset.Check(s, set) != api.OK {
		return took{at: at, e: api.ErrOrder}
	}
	return took{set: set, at: at}
}

// columnOf takes n cells off the front.
func columnOf(b []byte, kind, n int) ([]api.Cell, int, api.Errno) {
	var l []api.Cell
	went := false
	at, e := reader.Run(b, func(r *reader.Reader) {
		l = column.Take(r, kind, n)
		went = true
	})
	if went {
		e = api.OK
	}
	return l, at, e
}

// readOf takes all of bytes.
func readOf(b []byte, s []api.Column) took {
	x := takeOf(b, s)
	if x.e == api.OK && x.at < len(b) {
		return took{at: x.at, e: api.ErrLong}
	}
	return x
}

// checkWrite holds Write against the document's words.
func checkWrite(t *testing.T, s []api.Column, a []api.Pair) []byte {
	t.Helper()
	want := writeOf(s, a)
	b, e := batch.Write(s, a)
	if e != api.OK || !bytes.Equal(b, want) {
		t.Fatalf("Write(%v, %s) = %s, %v; want %s", s, brief(a), brief(b), e, brief(want))
	}
	return b
}

// checkRead holds Read, and Take with bytes ahead and behind, against the document's words, and what is read against its bytes.
func checkRead(t *testing.T, b []byte, s []api.Column) {
	t.Helper()
	want := readOf(b, s)
	a, at, e := batch.Read(b, s)
	if !zset.Same(a, want.set) || at != want.at || e != want.e {
		t.Fatalf("Read(%s, %v) = %s, %d, %v; want %s", brief(b), s, brief(a), at, e, brief(want))
	}
	checkTake(t, b, s)
	if e != api.OK {
		return
	}
	if again, e := batch.Write(s, a); e != api.OK || !bytes.Equal(again, b) {
		t.Fatalf("Read(%s, %v) = %s, whose bytes are %s, %v", brief(b), s, brief(a), brief(again), e)
	}
}

// checkTake lets Take take off a reader that stands at each of some places.
func checkTake(t *testing.T, b []byte, s []api.Column) {
	t.Helper()
	want := takeOf(b, s)
	for _, ahead := range []int{0, 3} {
		all := append(bytes.Repeat([]byte{200}, ahead), b...)
		var a []api.Pair
		went := false
		at, e := reader.Run(all, func(r *reader.Reader) {
			for range ahead {
				r.Byte()
			}
			a = batch.Take(r, s)
			went = true
			if r.At() != ahead+want.at {
				t.Fatalf("Take(%v) of %s: At %d; want %d", s, brief(b), r.At()-ahead, want.at)
			}
		})
		wantE := want.e
		if wantE == api.OK && want.at < len(b) {
			wantE = api.ErrLong
		}
		if went != (want.e == api.OK) || !zset.Same(a, want.set) || at != ahead+want.at || e != wantE {
			t.Fatalf("Take(%v) of %s, %d ahead: went through: %v, %s, %d, %v; want %s", s, brief(b), ahead, went, brief(a), at, e, brief(want))
		}
	}
}

// Sets to be tried.

// mixer makes the same numbers at each run, that look like any.
type mixer uint32

func (m *mixer) below(n int) int {
	*m ^= *m << 13
	*m ^= *m >> 17
	*m ^= *m << 5
	return int(uint32(*m)>>3) % n
}

// cellsOf are such of a kind as may be.
func cellsOf(kind int) []api.Cell {
	switch kind {
	case api.Int:
		return []api.Cell{cell.Int(bottom), cell.Int(-65), cell.Int(-64), cell.Int(-1), num(0), num(1), num(63), num(64), cell.Int(top)}
	case api.Uint:
		return []api.Cell{num(0), num(1), num(127), num(128), num(300), num(1 << 63), num(math.MaxUint64)}
	case api.Bool:
		return []api.Cell{num(0), num(1)}
	case api.Bytes:
		return []api.Cell{text(""), text("\x00"), text("a"), text("ab"), text("abc"), text("b"), text("\xc3"), text("\xff"), text(strings.Repeat("\xff", 255)), text(strings.Repeat("\xff", 256))}
	case api.Text:
		return []api.Cell{text(""), text("\x00"), text("a"), text("ab"), text("abc"), text("b"), text("ä"), text("ö"), text("€"), text(strings.Repeat("ä", 127)), text(strings.Repeat("ä", 128))}
	}
	return []api.Cell{num(math.MaxUint64), num(0xfff0000000000000), num(0xbff0000000000000), num(1 << 63), num(0), num(1), num(0x3ff0000000000000), num(0x7ff0000000000000), num(0x7ff8000000000001)}
}

func weights() []int64 {
	return []int64{-1, 1, 1, 1, 2, -2, 63, 64, -64, -65, 300, 1 << 62, -1 << 62, top, -top, bottom}
}

// set is one that is put together of n pairs, of which some may be of one row.
func (m *mixer) set(t *testing.T, s []api.Column, n int) []api.Pair {
	t.Helper()
	seen := map[string]bool{}
	var l []api.Pair
	for range n {
		var r []api.Cell
		for _, c := range s {
			from := cellsOf(c.Kind)
			r = append(r, from[m.below(len(from))])
		}
		x, e := row.Text(s, r)
		if e != api.OK {
			t.Fatal(r, e)
		}
		if !seen[x] {
			seen[x] = true
			l = append(l, pair(weights()[m.below(len(weights()))], r...))
		}
	}
	a, e := zset.Collect(s, l...)
	if e != api.OK || len(a) != len(l) {
		t.Fatal(len(l), len(a), e)
	}
	return a
}

// sets are some of each length that may be told from others.
func sets(t *testing.T, s []api.Column) [][]api.Pair {
	t.Helper()
	m := mixer(2463534242)
	l := [][]api.Pair{nil, {}}
	for n := range 24 {
		l = append(l, m.set(t, s, n), m.set(t, s, n))
	}
	return append(l, m.set(t, s, 200), m.set(t, s, 1024))
}

// full are as many rows as may be, of each kind and 8 columns, with texts that are as long as may be.
func full() ([]api.Column, []api.Pair) {
	long := strings.Repeat("x", 255)
	var a []api.Pair
	for i := range 1024 {
		x := uint64(i)
		end := string(rune('a' + i%2))
		a = append(a, pair(bottom, num(x), num(x<<63), num(x%2), text(end+long), text(long+end), num(x<<63), num(x<<63+x), text(end+long)))
	}
	return columns(api.Int, api.Uint, api.Bool, api.Bytes, api.Text, api.Float, api.Int, api.Text), a
}

// P10.1

func TestExamples(t *testing.T) {
	greatest := "\xfe\xff\xff\xff\xff\xff\xff\xff\xff\x01"
	least := "\xff\xff\xff\xff\xff\xff\xff\xff\xff\x01"
	for i, c := range []struct {
		s    []api.Column
		a    []api.Pair
		want string
	}{
		{example, pairs(named(2, 1, "a"), named(1, 2, "b")), "\x02\x02\x02\x00\x01a\x00\x01b\x04\x02"},
		{example, nil, "\x00"},
		{example, pairs(), "\x00"},
		{columns(api.Bool, api.Text, api.Float, api.Int, api.Uint, api.Bytes), nil, "\x00"},
		{example, pairs(named(-1, -1, "")), "\x01\x01\x00\x00\x01"},
		{example, pairs(named(1, 5, "ab"), named(-1, 5, "abc"), named(3, 7, "b")), "\x03\x0a\x00\x04\x00\x02ab\x02\x01c\x00\x01b\x02\x01\x06"},
		{columns(api.Int), pairs(pair(1, cell.Int(bottom)), pair(1, cell.Int(top))), "\x02" + least + "\x01\x02\x02"},
		{columns(api.Uint), pairs(pair(1, num(299)), pair(300, num(300)), pair(-300, num(math.MaxUint64))), "\x03\xab\x02\x02\xd9\x04\x02\xd8\x04\xd7\x04"},
		{columns(api.Bool), pairs(pair(top, num(0)), pair(bottom, num(1))), "\x02\x02" + greatest + least},
		{columns(api.Bool), pairs(pair(1, num(1))), "\x01\x01\x02"},
		{columns(api.Bytes), pairs(pair(1, text("")), pair(1, text("\xff"))), "\x02\x00\x00\x00\x01\xff\x02\x02"},
		{columns(api.Float), pairs(pair(1, cell.Float(math.Copysign(0, -1))), pair(2, cell.Float(0))), "\x02\x80\x80\x80\x80\x80\x80\x80\x80\x80\x01" + least + "\x02\x04"},
		// Nine rows: the bools have two bytes, and the columns stand in the schema's order, not in that of their kinds.
		{columns(api.Uint, api.Bool), pairs(
			pair(1, num(0), num(1)), pair(1, num(1), num(0)), pair(1, num(2), num(0)), pair(1, num(3), num(0)), pair(1, num(4), num(0)),
			pair(1, num(5), num(0)), pair(1, num(6), num(0)), pair(1, num(7), num(1)), pair(1, num(8), num(1))),
			"\x09\x00\x02\x02\x02\x02\x02\x02\x02\x02\x81\x01\x02\x02\x02\x02\x02\x02\x02\x02\x02"},
		{columns(api.Bool, api.Uint), pairs(pair(1, num(0), num(7)), pair(1, num(1), num(6))), "\x02\x02\x07\x01\x02\x02"},
		{columns(api.Int, api.Int, api.Int), pairs(pair(7, num(1), num(2), num(3)), pair(8, num(1), num(2), num(4))), "\x02\x02\x00\x04\x00\x06\x02\x0e\x10"},
	} {
		b, e := batch.Write(c.s, c.a)
		if e != api.OK || string(b) != c.want {
			t.Errorf("%d: Write(%v) = %v, %v; want %v", i, c.a, b, e, []byte(c.want))
		}
		a, at, e := batch.Read([]byte(c.want), c.s)
		if e != api.OK || at != len(c.want) || !zset.Same(a, c.a) {
			t.Errorf("%d: Read(%v) = %v, %d, %v; want %v", i, []byte(c.want), a, at, e, c.a)
		}
		checkWrite(t, c.s, c.a)
		checkRead(t, []byte(c.want), c.s)
	}
}

// TestWriteOfWhatIsNoSet tells what layer 8 tells, in its order.
func TestWriteOfWhatIsNoSet(t *testing.T) {
	for want, s := range wrongSchemas() {
		for _, a := range [][]api.Pair{nil, pairs(named(0, 1, "a")), pairs(named(1, 1, "a")), many(1025)} {
			if b, e := batch.Write(s, a); len(b) != 0 || e != want {
				t.Errorf("Write(%v) = %v, %v; want %v", s, b, e, want)
			}
		}
	}
	uints := columns(api.Uint)
	wrong := append(many(1024), pair(0))
	for i, c := range []struct {
		s    []api.Column
		a    []api.Pair
		want api.Errno
	}{
		{uints, many(1025), api.ErrLimit},
		{uints, many(3000), api.ErrLimit},
		{uints, wrong, api.ErrLimit},
		{uints, many(1024), api.OK},
		{example, pairs(pair(1)), api.ErrArg},
		{example, pairs(pair(1, num(1))), api.ErrArg},
		{example, pairs(pair(1, num(1), text("a"), num(1))), api.ErrArg},
		{example, pairs(named(0, 1, "a")), api.ErrArg},
		{example, pairs(named(1, 1, "a"), named(0, 2, "a")), api.ErrArg},
		{example, pairs(named(1, 1, "\xff")), api.ErrType},
		{example, pairs(named(0, 1, "\xff")), api.ErrType},
		{example, pairs(pair(1, text("a"), text("a"))), api.ErrType},
		{example, pairs(pair(1, num(1), num(1))), api.ErrType},
		{columns(api.Bool), pairs(pair(1, num(2))), api.ErrType},
		{example, pairs(named(1, 1, strings.Repeat("x", 257))), api.ErrLong},
		{example, pairs(named(1, 1, strings.Repeat("x", 256))), api.OK},
		{example, pairs(named(1, 1, "a"), named(1, 1, "a")), api.ErrOrder},
		{example, pairs(named(1, 1, "b"), named(1, 1, "a")), api.ErrOrder},
		{example, pairs(named(1, 2, "a"), named(1, 1, "b")), api.ErrOrder},
		{example, pairs(named(1, 2, "a"), named(0, 1, "b")), api.ErrArg},
		{example, pairs(named(1, 2, "a"), named(1, 1, "b"), named(0, 3, "c")), api.ErrOrder},
		{example, pairs(named(1, 2, "a"), named(0, 3, "b"), named(1, 1, "c")), api.ErrArg},
		{columns(api.Float), pairs(pair(1, cell.Float(0)), pair(1, cell.Float(math.Copysign(0, -1)))), api.ErrOrder},
	} {
		if told := zset.Check(c.s, c.a); told != c.want {
			t.Fatalf("%d: layer 8 tells %v; want %v", i, told, c.want)
		}
		b, e := batch.Write(c.s, c.a)
		if e != c.want || e != api.OK && len(b) != 0 {
			t.Errorf("%d: Write = %s, %v; want %v", i, brief(b), e, c.want)
		}
	}
}

func TestBound(t *testing.T) {
	const most = 1 << 20
	for _, c := range []struct{ rows, columns, bytes, want int }{
		{0, 0, 0, 12}, {0, 0, 1, 13}, {1, 0, 0, 22}, {0, 1, 0, 12}, {1, 1, 0, 32}, {2, 3, 5, 97}, {1024, 8, 2097152 / 2, 12 + 92160 + 1048576},
		{most, 0, 0, 12 + 10*most}, {0, most, 0, 12}, {0, 0, most, 12 + most}, {1, most, 0, 12 + 10*(most+1)},
		{most, most, most, 12 + 10*most*(most+1) + most}, {most - 1, most - 1, most - 1, 12 + 10*(most-1)*most + most - 1},
		{most + 1, 0, 0, 0}, {0, most + 1, 0, 0}, {0, 0, most + 1, 0}, {most + 1, most, most, 0}, {most, most + 1, most, 0}, {most, most, most + 1, 0},
		{-1, 0, 0, 0}, {0, -1, 0, 0}, {0, 0, -1, 0}, {-1, 2, 3, 0}, {1, -1, 3, 0}, {1, 2, -1, 0}, {-1, -1, -1, 0}, {0, -2, 5, 0},
		{math.MinInt, 1, 1, 0}, {1, math.MinInt, 1, 0}, {1, 1, math.MinInt, 0}, {math.MaxInt, 1, 1, 0}, {1, math.MaxInt, 1, 0}, {1, 1, math.MaxInt, 0},
		{math.MaxInt, math.MaxInt, math.MaxInt, 0}, {math.MinInt, math.MinInt, math.MinInt, 0},
		{1 << 32, 1, 1, 0}, {1, 1 << 32, 1, 0}, {1, 1, 1 << 32, 0}, {1<<32 + 1, 1, 1, 0}, {1, 1<<32 + 1, 1, 0}, {1, 1, 1<<32 + 1, 0},
	} {
		if n := batch.Bound(c.rows, c.columns, c.bytes); n != c.want {
			t.Errorf("Bound(%d, %d, %d) = %d; want %d", c.rows, c.columns, c.bytes, n, c.want)
		}
	}
}

// P10.2, P10.3

func TestReadEnds(t *testing.T) {
	over := strings.Repeat("\xff", 9) + "\x02" // 2^64 and more
	max := strings.Repeat("\xff", 9) + "\x01"
	ints := columns(api.Int)
	floats := columns(api.Float)
	for i, c := range []struct {
		b    string
		s    []api.Column
		at   int
		want api.Errno
	}{
		// How many rows there are.
		{"", example, 0, api.ErrShort},
		{"\x80", example, 0, api.ErrShort},
		{"\x80\x00", example, 0, api.ErrForm},
		{over, example, 0, api.ErrLong},
		{max, example, 0, api.ErrRange},
		{"\x81\x08", example, 0, api.ErrRange},
		{"\x81\x08" + strings.Repeat("\x02", 2050), ints, 0, api.ErrRange},
		{"\x80\x08" + strings.Repeat("\x02", 2048), ints, 2050, api.OK},
		{"\x80\x08" + strings.Repeat("\x02", 2047), ints, 2049, api.ErrShort},
		{"\x80\x08" + strings.Repeat("\x02", 2049), ints, 2050, api.ErrLong},
		{"\x00", example, 1, api.OK},
		{"\x00\x00", example, 1, api.ErrLong},
		{"\x00\x80\x00", example, 1, api.ErrLong},
		// Cells, column by column.
		{"\x01", example, 1, api.ErrShort},
		{"\x01\x80", example, 1, api.ErrShort},
		{"\x01\x80\x00", example, 1, api.ErrForm},
		{"\x01" + over, example, 1, api.ErrLong},
		{"\x01\x02", example, 2, api.ErrShort},
		{"\x01\x02\x01", example, 2, api.ErrRange},
		{"\x01\x02\x00", example, 3, api.ErrShort},
		{"\x01\x02\x00\x01", example, 3, api.ErrShort},
		{"\x01\x02\x00\x81\x02", example, 3, api.ErrLimit},
		{"\x01\x02\x00\x01\xff\x02", example, 5, api.ErrType},
		{"\x02\x02\x02\x00\x01a\x00\x01a\x02\x02", example, 9, api.ErrForm},
		{"\x01\x02", columns(api.Bool), 2, api.ErrForm},
		{"\x02\x02\x00", columns(api.Bool, api.Bool), 3, api.ErrShort},
		{"\x02\x02\x04\x02\x02", columns(api.Bool, api.Bool), 3, api.ErrForm},
		// Weights.
		{"\x01\x02\x00\x01a", example, 5, api.ErrShort},
		{"\x01\x02\x00\x01a\x80", example, 5, api.ErrShort},
		{"\x01\x02\x00\x01a\x80\x00", example, 5, api.ErrForm},
		{"\x01\x02\x00\x01a" + over, example, 5, api.ErrLong},
		{"\x01\x02\x00\x01a" + max, example, 15, api.OK},
		{"\x01\x02\x00\x01a\x00", example, 6, api.ErrArg},
		{"\x01\x02\x00\x01a\x00\x00", example, 6, api.ErrArg}, // ahead of the bytes that are left
		{"\x01\x02\x00\x01a\x02\x00", example, 6, api.ErrLong},
		{"\x02\x02\x02\x02", ints, 4, api.ErrShort},
		{"\x02\x02\x02\x02\x80", ints, 4, api.ErrShort},
		{"\x02\x02\x02\x02\x00", ints, 5, api.ErrArg},
		{"\x02\x02\x02\x00", ints, 4, api.ErrArg},         // a weight of 0 ahead of the next one, that isn't there
		{"\x02\x02\x02\x00\x80\x00", ints, 4, api.ErrArg}, // and that is of no form
		{"\x02\x02\x02\x80\x00\x00", ints, 3, api.ErrForm},
		// Order.
		{"\x02\x02\x02\x02\x02", ints, 5, api.OK},
		{"\x02\x02\x00\x02\x02", ints, 5, api.ErrOrder},     // one row twice
		{"\x02\x02\x01\x02\x02", ints, 5, api.ErrOrder},     // the lesser one behind
		{"\x02\x02\x01\x02\x02\x02", ints, 5, api.ErrOrder}, // ahead of the bytes that are left
		{"\x02\x02\x01\x02\x00", ints, 5, api.ErrArg},       // behind all weights
		{"\x02\x02\x01\x00\x02", ints, 4, api.ErrArg},
		{"\x02\x02\x01\x02", ints, 4, api.ErrShort},
		{"\x02\x02\x01\x02\x80\x00", ints, 4, api.ErrForm},
		{"\x03\x02\x02\x00\x02\x02\x02", ints, 7, api.ErrOrder},
		{"\x03\x02\x00\x02\x02\x02\x02", ints, 7, api.ErrOrder},
		{"\x03\x02\x04\x01\x02\x02\x02", ints, 7, api.ErrOrder},              // behind the first one, but not behind the second one
		{"\x02\xfe" + max[1:] + "\x02\x02\x02", ints, 14, api.ErrOrder},      // the greatest one, then the least one
		{"\x02" + max + "\x02\x02\x02", columns(api.Uint), 14, api.ErrOrder}, // the greatest one, then 0
		{"\x02\x02\x00\x00\x01a\x01\x00\x02\x02", example, 10, api.ErrOrder}, // a, a text a begins with
		{"\x02\x02\x00\x00\x01b\x00\x01a\x02\x02", example, 11, api.ErrOrder},
		{"\x02\x02\x00\x00\x01a\x00\x01b\x02\x02", example, 11, api.OK},
		{"\x02\x02\x02\x00\x01b\x00\x01a\x02\x02", example, 11, api.OK}, // the first column goes ahead
		{"\x02\x02\x01\x00\x01a\x00\x01b\x02\x02", example, 11, api.ErrOrder},
		{"\x02\x01\x02\x02", columns(api.Bool), 4, api.ErrOrder},
		{"\x02\x02\x02\x02", columns(api.Bool), 4, api.OK},
		{"\x02\x03\x02\x02", columns(api.Bool), 4, api.ErrOrder},
		{"\x03\x06\x02\x02\x02", columns(api.Bool), 5, api.ErrOrder}, // three rows of two that there are
		{"\x02\x00" + max + "\x02\x02", floats, 14, api.ErrOrder},    // +0, -0
		{"\x02\x80\x80\x80\x80\x80\x80\x80\x80\x80\x01" + max + "\x02\x02", floats, 23, api.OK},
	} {
		a, n, e := batch.Read([]byte(c.b), c.s)
		if n != c.at || e != c.want || e != api.OK && len(a) != 0 {
			t.Errorf("%d: Read(%.50q) = %s, %d, %v; want %d, %v", i, c.b, brief(a), n, e, c.at, c.want)
		}
		checkRead(t, []byte(c.b), c.s)
	}
}

// TestTakeOfAWrongSchema ends ahead of all bytes, wherever the reader stands.
func TestTakeOfAWrongSchema(t *testing.T) {
	for want, s := range wrongSchemas() {
		for _, b := range [][]byte{nil, {0}, {128}, {129, 8}, {0, 0}, {1, 2, 0, 1, 97, 2}} {
			a, at, e := batch.Read(b, s)
			if len(a) != 0 || at != 0 || e != want {
				t.Errorf("Read(%v, %v) = %v, %d, %v; want %v", b, s, a, at, e, want)
			}
			checkTake(t, b, s)
		}
	}
	if _, at, e := batch.Read([]byte{0}, nil); at != 0 || e != api.ErrNone {
		t.Error(at, e)
	}
}

// TestTakeOneBehindTheOther takes sets of all schemas off one reader, and what is between them.
func TestTakeOneBehindTheOther(t *testing.T) {
	m := mixer(362436069)
	for range 40 {
		var b []byte
		var all [][]api.Pair
		for _, s := range schemas() {
			a := m.set(t, s, m.below(20))
			all = append(all, a)
			b = append(append(b, checkWrite(t, s, a)...), 77)
		}
		at, e := reader.Run(b, func(r *reader.Reader) {
			for i, s := range schemas() {
				if got := batch.Take(r, s); !zset.Same(got, all[i]) {
					t.Fatalf("Take(%v) = %v; want %v", s, got, all[i])
				}
				if r.Byte() != 77 {
					t.Fatalf("Take(%v) took more, or less", s)
				}
			}
		})
		if at != len(b) || e != api.OK {
			t.Fatalf("of %v: %d, %v", b, at, e)
		}
	}
}

// TestTakeOffAReaderThatIsOver shows that nothing panics, and all ends.
func TestTakeOffAReaderThatIsOver(t *testing.T) {
	var over *reader.Reader
	reader.Run([]byte{1, 2, 3}, func(r *reader.Reader) { over = r })
	for _, r := range []*reader.Reader{nil, over} {
		for _, s := range schemas() {
			batch.Take(r, s)
		}
		for _, s := range wrongSchemas() {
			batch.Take(r, s)
		}
	}
}

// P10.4

func TestSetsAreReadOfTheirBytes(t *testing.T) {
	for _, s := range schemas() {
		seen := map[string][]api.Pair{}
		for _, a := range sets(t, s) {
			b := checkWrite(t, s, a)
			checkBound(t, s, a, b)
			got, at, e := batch.Read(b, s)
			if e != api.OK || at != len(b) || !zset.Same(got, a) {
				t.Fatalf("Read(%s, %v) = %s, %d, %v; want %s", brief(b), s, brief(got), at, e, brief(a))
			}
			checkRead(t, b, s)
			if other, ok := seen[string(b)]; ok && !zset.Same(other, a) {
				t.Fatalf("%s and %s have the same bytes", brief(other), brief(a))
			}
			seen[string(b)] = a
		}
	}
}

func checkBound(t *testing.T, s []api.Column, a []api.Pair, b []byte) {
	t.Helper()
	size := 0
	for _, p := range a {
		for _, c := range p.Row {
			size += len(c.Text)
		}
	}
	if size > 1<<20 {
		t.Fatalf("Bound isn't asked for %d bytes", size)
	}
	if most := batch.Bound(len(a), len(s), size); len(b) > most {
		t.Fatalf("%d rows of %d columns, %d bytes of texts, have %d bytes; Bound tells %d", len(a), len(s), size, len(b), most)
	}
}

// TestOfWhatIsLongest writes as many rows as may be, whose cells have as many bytes as they can.
func TestOfWhatIsLongest(t *testing.T) {
	s, a := full()
	for _, n := range []int{0, 1, 2, 9, 1023, 1024} {
		b := checkWrite(t, s, a[:n])
		checkBound(t, s, a[:n], b)
		got, at, e := batch.Read(b, s)
		if e != api.OK || at != len(b) || !zset.Same(got, a[:n]) {
			t.Errorf("Read of %d rows: %d, %d, %v", n, len(got), at, e)
		}
		checkRead(t, b, s)
	}
	numbers := columns(api.Uint, api.Float, api.Int, api.Uint)
	var l []api.Pair
	for i := range 1024 {
		// Each one is as far as may be from the one ahead, but the first column, that keeps them in order.
		far := num(uint64(i+1) << 63)
		l = append(l, pair(bottom, num(uint64(i)<<54), far, far, far))
	}
	checkBound(t, numbers, l, checkWrite(t, numbers, l))
}

// TestReadOfAllShortBytes reads all that are made of some bytes where something changes.
func TestReadOfAllShortBytes(t *testing.T) {
	from := []byte{0, 1, 2, 3, 'a', 128, 0xc3, 255}
	var all func(b []byte)
	all = func(b []byte) {
		for _, s := range schemas() {
			checkRead(t, b, s)
		}
		if len(b) < 4 {
			for _, c := range from {
				all(append(slices.Clip(b), c))
			}
		}
	}
	all(nil)
}

// TestReadOfAllOfTwoRows reads all bytes that could be two rows of each of some schemas.
func TestReadOfAllOfTwoRows(t *testing.T) {
	from := []byte{0, 1, 2, 'a'}
	some := [][]api.Column{columns(api.Bool), columns(api.Int), columns(api.Float), columns(api.Bytes), columns(api.Bool, api.Int), columns(api.Int, api.Uint)}
	var all func(b []byte)
	all = func(b []byte) {
		for _, s := range some {
			want := readOf(b, s)
			a, at, e := batch.Read(b, s)
			if !zset.Same(a, want.set) || at != want.at || e != want.e {
				t.Fatalf("Read(%v, %v) = %v, %d, %v; want %v", b, s, a, at, e, want)
			}
		}
		if len(b) < 8 {
			for _, c := range from {
				all(append(slices.Clip(b), c))
			}
		}
	}
	all([]byte{2})
}

// TestReadOfWhatIsAllButASet cuts and changes the bytes of sets.
func TestReadOfWhatIsAllButASet(t *testing.T) {
	m := mixer(123456789)
	for _, s := range schemas() {
		for range 3 {
			b := checkWrite(t, s, m.set(t, s, 1+m.below(6)))
			if len(b) > 120 {
				b = b[:120]
			}
			for at := range b {
				checkRead(t, b[:at], s)
				checkRead(t, b[at:], s)
				checkRead(t, slices.Delete(slices.Clone(b), at, at+1), s)
				for _, c := range []byte{0, 1, 2, 127, 128, 255, b[at] ^ 1, b[at] ^ 128, b[at] + 1, b[at] - 1} {
					changed := slices.Clone(b)
					changed[at] = c
					checkRead(t, changed, s)
					checkRead(t, slices.Insert(slices.Clone(b), at, c), s)
				}
			}
		}
	}
}

// TestReadOfRowsOutOfOrder writes sets' bytes with two rows in each other's place, and with one row twice.
func TestReadOfRowsOutOfOrder(t *testing.T) {
	m := mixer(521288629)
	for _, s := range schemas() {
		for range 10 {
			a := m.set(t, s, 2+m.below(20))
			if len(a) < 2 {
				continue
			}
			i := m.below(len(a) - 1)
			k := i + 1 + m.below(len(a)-i-1)
			turned := slices.Clone(a)
			turned[i], turned[k] = turned[k], turned[i]
			for _, l := range [][]api.Pair{turned, slices.Insert(slices.Clone(a), k, a[k]), slices.Insert(slices.Clone(a), i, a[k])} {
				b := writeOf(s, l)
				got, at, e := batch.Read(b, s)
				if len(got) != 0 || at != len(b) || e != api.ErrOrder {
					t.Fatalf("Read of %s = %s, %d, %v; want %d, %v", brief(l), brief(got), at, e, len(b), api.ErrOrder)
				}
				if _, at, e := batch.Read(append(b, 0), s); at != len(b) || e != api.ErrOrder {
					t.Fatalf("Read of %s, and a byte = %d, %v; want %d, %v", brief(l), at, e, len(b), api.ErrOrder)
				}
			}
		}
	}
}

// The rules of all layers.

// TestWhatIsHandedInStays calls all with lists that have more behind their length.
func TestWhatIsHandedInStays(t *testing.T) {
	for _, s := range schemas() {
		m := mixer(987654321)
		a := m.set(t, s, 9)
		room := append(deep(a), pair(0), pair(7, num(7)))
		for i, p := range room[:len(a)] {
			room[i].Row = append(p.Row, api.Cell{Num: 99, Text: "\xff"})[:len(s)]
		}
		keep := deep(room)
		wide := append(slices.Clone(s), api.Column{Name: "A", Kind: 9})
		b, e := batch.Write(wide[:len(s)], room[:len(a)])
		if want := writeOf(s, a); e != api.OK || !bytes.Equal(b, want) {
			t.Errorf("Write(%v) = %v, %v; want %v", s, b, e, want)
		}
		if !zset.Same(room, keep) || !schema.Same(wide, append(slices.Clone(s), api.Column{Name: "A", Kind: 9})) {
			t.Errorf("what was handed in became %v, %v", wide, room)
		}
		for _, p := range room[:len(a)] {
			if p.Row[:len(s)+1][len(s)].Num != 99 {
				t.Errorf("what lies behind a row became %v", p.Row[:len(s)+1])
			}
		}
		all := append(slices.Clone(b), b...)
		keepAll := slices.Clone(all)
		for n := range len(b) + 1 {
			want := readOf(slices.Clone(b[:n]), s)
			got, at, e := batch.Read(all[:n], wide[:len(s)])
			if !zset.Same(got, want.set) || at != want.at || e != want.e {
				t.Errorf("Read(%v) of %d bytes: %v, %d, %v; want %v", s, n, got, at, e, want)
			}
		}
		if !bytes.Equal(all, keepAll) || !schema.Same(wide[:len(s)], s) {
			t.Errorf("what was handed in became %v, %v", all, wide)
		}
	}
}

// TestWhatIsAnsweredIsApart changes all that is answered, what could lie behind it, and what was read and written.
func TestWhatIsAnsweredIsApart(t *testing.T) {
	for _, s := range schemas() {
		m := mixer(192837465)
		a := m.set(t, s, 9)
		first, _ := batch.Write(s, a)
		second, _ := batch.Write(s, a)
		b := slices.Clone(first)
		one, _, _ := batch.Read(first, s)
		other, _, _ := batch.Read(first, s)
		spoil(first)
		spoil(first[:cap(first)])
		if !bytes.Equal(second, b) || !zset.Same(one, a) || !zset.Same(other, a) {
			t.Errorf("%v: what was answered is shared: %v, %v, %v", s, second, one, other)
		}
		// Each row is changed, and what could lie behind it: no other one may change.
		for i := range one {
			whole := one[i].Row[:cap(one[i].Row)]
			for k := range whole {
				whole[k] = api.Cell{Num: 99, Text: "spoilt"}
			}
			if !zset.Same(one[i+1:], a[i+1:]) {
				t.Errorf("%v: row %d is shared with one behind it", s, i)
			}
		}
		for i := range one {
			for k := range s {
				if one[i].Row[k] != (api.Cell{Num: 99, Text: "spoilt"}) {
					t.Errorf("%v: row %d became %v", s, i, one[i].Row)
				}
			}
			one[i] = api.Pair{}
		}
		if !zset.Same(other, a) {
			t.Errorf("%v: what was answered is shared: %v", s, other)
		}
	}
}

func spoil(b []byte) {
	for i := range b {
		b[i] = 99
	}
}

// TestAnAnswerHangsOnNothingAhead asks the same again, behind others.
func TestAnAnswerHangsOnNothingAhead(t *testing.T) {
	for _, s := range schemas() {
		m := mixer(5)
		a := m.set(t, s, 20)
		b := checkWrite(t, s, a)
		for _, other := range schemas() {
			batch.Read(b, other)
			batch.Read(b[:len(b)-1], s)
			batch.Write(other, a)
			if again := checkWrite(t, s, a); !bytes.Equal(again, b) {
				t.Errorf("%v, behind %v: %v; want %v", s, other, again, b)
			}
			checkRead(t, b, s)
		}
	}
}

// TestManyAtATime asks by many goroutines at a time, of the same lists.
func TestManyAtATime(t *testing.T) {
	var all sync.WaitGroup
	for _, s := range schemas() {
		m := mixer(77)
		a := m.set(t, s, 100)
		want := writeOf(s, a)
		for range 8 {
			all.Go(func() {
				b, e := batch.Write(s, a)
				got, at, d := batch.Read(want, s)
				if e != api.OK || d != api.OK || at != len(want) || !bytes.Equal(b, want) || !zset.Same(got, a) {
					t.Error(s, e, d, at)
				}
			})
		}
	}
	all.Wait()
}
