package writer_test

import (
	"bytes"
	"fmt"
	"hash/crc32"
	"math"
	"math/big"
	"slices"
	"strings"
	"sync"
	"testing"

	"deckle/api"
	"deckle/batch"
	"deckle/cell"
	"deckle/entry"
	"deckle/row"
	"deckle/schema"
	"deckle/trace"
	"deckle/writer"
	"deckle/zset"
)

const (
	top    = math.MaxInt64
	bottom = math.MinInt64
	most   = 4096 // entries
)

// example is the schema of the document's own examples.
var example = []api.Column{{Name: "id", Kind: api.Int}, {Name: "name", Kind: api.Text}}

// columns are such of those kinds, named a, b, c and so on.
func columns(kinds ...int) []api.Column {
	var s []api.Column
	for i, kind := range kinds {
		s = append(s, api.Column{Name: string(rune('a' + i)), Kind: kind})
	}
	return s
}

func num(x uint64) api.Cell { return api.Cell{Num: x} }

func text(s string) api.Cell { return api.Cell{Text: s} }

func pair(w int64, l ...api.Cell) api.Pair { return api.Pair{Row: l, Weight: w} }

func pairs(l ...api.Pair) []api.Pair { return l }

// p is a pair of the example's schema.
func p(w, id int64, name string) api.Pair { return pair(w, cell.Int(id), text(name)) }

// set is the one of a text, of the example's schema.
func set(x string) []api.Pair {
	a, e := zset.Read(example, x)
	if e != api.OK {
		panic(x + ": " + e.Error())
	}
	return a
}

func delta(seq int64, a []api.Pair) api.Entry { return api.Entry{Kind: api.Delta, Seq: seq, Pairs: a} }

func snapshot(seq int64, a []api.Pair) api.Entry {
	return api.Entry{Kind: api.Snapshot, Seq: seq, Pairs: a}
}

// many are n pairs of one number each, in order, from that one on.
func many(from, n int) []api.Pair {
	var l []api.Pair
	for i := range n {
		l = append(l, pair(1, num(uint64(from+i))))
	}
	return l
}

// deep is a copy that shares nothing.
func deep(l []api.Pair) []api.Pair {
	l = slices.Clone(l)
	for i, p := range l {
		l[i].Row = slices.Clone(p.Row)
	}
	return l
}

// brief is a text of x that can be told whole, if x is small.
func brief(x any) string {
	s := fmt.Sprint(x)
	if len(s) > 300 {
		return s[:300] + ".."
	}
	return s
}

// wrongSchemas are such as may not be, and what layer 5 says of them.
func wrongSchemas() map[api.Errno][]api.Column {
	return map[api.Errno][]api.Column{
		api.ErrNone:  {},
		api.ErrLimit: make([]api.Column, 9),
		api.ErrLong:  {{Name: strings.Repeat("a", 33)}},
		api.ErrArg:   {{Name: "A"}},
		api.ErrKind:  {{Name: "a", Kind: 6}},
	}
}

// schemas are some with each kind, and with as many columns, and as long a name, as may be.
func schemas() [][]api.Column {
	return [][]api.Column{
		columns(api.Int), columns(api.Uint), columns(api.Bool), columns(api.Bytes), columns(api.Text), columns(api.Float),
		example, columns(api.Bool, api.Text, api.Float),
		{{Name: strings.Repeat("_", 32), Kind: api.Text}},
		columns(api.Int, api.Uint, api.Bool, api.Bytes, api.Text, api.Float, api.Int, api.Text),
	}
}

// heavy are 600 rows of one number and seven texts, whose bytes are more than a payload's may be.
func heavy() ([]api.Column, []api.Pair) {
	s := columns(api.Uint, api.Bytes, api.Bytes, api.Bytes, api.Bytes, api.Bytes, api.Bytes, api.Bytes)
	var a []api.Pair
	for i := range 600 {
		r := []api.Cell{num(uint64(i))}
		for range 7 {
			// No two that stand one behind the other begin alike, so a text has 259 bytes.
			r = append(r, text(string(rune('a'+i%2))+strings.Repeat("x", 255)))
		}
		a = append(a, pair(1, r...))
	}
	return s, a
}

// mixer makes the same numbers at each run, that look like any.
type mixer uint32

func (m *mixer) below(n int) int {
	*m ^= *m << 13
	*m ^= *m >> 17
	*m ^= *m << 5
	return int(uint32(*m)>>3) % n
}

// cellsOf are such of a kind as may be.
func cellsOf(kind int) []api.Cell {
	switch kind {
	case api.Int:
		return []api.Cell{cell.Int(bottom), cell.Int(-1), num(0), num(64), cell.Int(top)}
	case api.Uint:
		return []api.Cell{num(0), num(1), num(128), num(math.MaxUint64)}
	case api.Bool:
		return []api.Cell{num(0), num(1)}
	case api.Bytes:
		return []api.Cell{text(""), text("\x00"), text("ab"), text("\xff"), text(strings.Repeat("\xff", 256))}
	case api.Text:
		return []api.Cell{text(""), text("a"), text("ab"), text("ä"), text(strings.Repeat("ä", 128))}
	}
	return []api.Cell{num(math.MaxUint64), num(1 << 63), num(0), num(0x3ff0000000000000)}
}

// pairs are n of any rows and weights, some of which may not be, or are too great.
func (m *mixer) pairs(s []api.Column, n int) []api.Pair {
	weights := []int64{-3, -2, -1, 0, 1, 2, 3, 1, -1, 2}
	if m.below(9) == 0 {
		weights = append(weights, top, bottom)
	}
	var l []api.Pair
	for range n {
		var r []api.Cell
		for _, c := range s {
			from := cellsOf(c.Kind)
			r = append(r, from[m.below(len(from))])
		}
		switch m.below(60) {
		case 0:
			r = r[1:]
		case 1:
			r[0] = api.Cell{Num: 2, Text: strings.Repeat("\xff", 257)}
		}
		l = append(l, pair(weights[m.below(len(weights))], r...))
	}
	return l
}

// The document's words, told anew. (What is wrong with a row is layer 6's, with a schema layer 5's; a set's bytes are layer 10's.)

// numberOf are the bytes of a number that isn't below 0.
func numberOf(x int64) []byte {
	var b []byte
	for x >= 128 {
		b = append(b, byte(x%128)+128)
		x /= 128
	}
	return append(b, byte(x))
}

// framedOf are the bytes of a frame.
func framedOf(kind byte, payload []byte) []byte {
	b := append([]byte{kind}, numberOf(int64(len(payload)))...)
	b = append(b, payload...)
	sum := crc32.Checksum(b, crc32.MakeTable(crc32.Castagnoli))
	return append(b, byte(sum), byte(sum>>8), byte(sum>>16), byte(sum>>24))
}

func headOf(s []api.Column) []byte {
	b := []byte{byte(len(s))}
	for _, c := range s {
		b = append(b, byte(len(c.Name)))
		b = append(b, c.Name...)
		b = append(b, byte(c.Kind))
	}
	return append([]byte("DKL1"), framedOf(0, b)...)
}

func frameOf(s []api.Column, e api.Entry) []byte {
	b, wrong := batch.Write(s, e.Pairs)
	if wrong != api.OK {
		panic(wrong)
	}
	kind := byte(2)
	if e.Kind == api.Snapshot {
		kind = 1
	}
	return framedOf(kind, append(numberOf(e.Seq), b...))
}

// fileOf are the head, and the entries' frames, whether they follow or not.
func fileOf(s []api.Column, l ...api.Entry) []byte {
	b := headOf(s)
	for _, e := range l {
		b = append(b, frameOf(s, e)...)
	}
	return b
}

// collectOf is the set of pairs, by sums of any size.
func collectOf(s []api.Column, l []api.Pair) ([]api.Pair, api.Errno) {
	type group struct {
		row []api.Cell
		sum *big.Int
	}
	var all []group
	for _, p := range l {
		if wrong := row.Check(s, p.Row); wrong != api.OK {
			return nil, wrong
		}
		i := slices.IndexFunc(all, func(g group) bool { return slices.Equal(g.row, p.Row) })
		if i < 0 {
			i, all = len(all), append(all, group{p.Row, new(big.Int)})
		}
		all[i].sum.Add(all[i].sum, big.NewInt(p.Weight))
	}
	var set []api.Pair
	for _, g := range all {
		if !g.sum.IsInt64() {
			return nil, api.ErrOver
		}
		if g.sum.Sign() != 0 {
			set = append(set, pair(g.sum.Int64(), g.row...))
		}
	}
	slices.SortFunc(set, func(a, b api.Pair) int { return row.Compare(s, a.Row, b.Row) })
	if len(set) > 1024 {
		return nil, api.ErrLimit
	}
	return set, api.OK
}

// model is what a writer has, by the document's words.
type model struct {
	s    []api.Column
	b    []byte
	seq  int64
	view []api.Pair
	many int
}

func modelOf(s []api.Column) *model { return &model{s: s, b: headOf(s)} }

func (m *model) append(l []api.Pair) ([]byte, api.Errno) {
	if m.many == most {
		return nil, api.ErrLimit
	}
	change, wrong := collectOf(m.s, l)
	if wrong != api.OK {
		return nil, wrong
	}
	view, wrong := collectOf(m.s, slices.Concat(m.view, change))
	if wrong != api.OK {
		return nil, wrong
	}
	return m.put(delta(m.seq+1, change), view)
}

func (m *model) snap() ([]byte, api.Errno) {
	if m.many == most {
		return nil, api.ErrLimit
	}
	return m.put(snapshot(m.seq, m.view), m.view)
}

func (m *model) put(e api.Entry, view []api.Pair) ([]byte, api.Errno) {
	b := frameOf(m.s, e)
	if len(b) > 1+3+1048576+4 {
		return nil, api.ErrLimit
	}
	m.b, m.seq, m.view, m.many = append(m.b, b...), e.Seq, view, m.many+1
	return b, api.OK
}

// both is a writer, and what it should be.
type both struct {
	t *testing.T
	w *writer.Writer
	m *model
}

// start is a new writer.
func start(t *testing.T, s []api.Column) *both {
	t.Helper()
	w, e := writer.New(s)
	if e != api.OK || w == nil {
		t.Fatalf("New(%v): %v", s, e)
	}
	x := &both{t, w, modelOf(s)}
	x.check()
	return x
}

// check holds what the writer has against what it should have.
func (x *both) check() {
	x.t.Helper()
	w, m := x.w, x.m
	if !bytes.Equal(w.Bytes(), m.b) {
		x.t.Fatalf("Bytes = %s; want %s", brief(w.Bytes()), brief(m.b))
	}
	if w.Seq() != m.seq || w.Many() != m.many || !zset.Same(w.View(), m.view) || !slices.Equal(w.Schema(), m.s) {
		x.t.Fatalf("%d, %d, %s, %v; want %d, %d, %s, %v", w.Seq(), w.Many(), brief(w.View()), w.Schema(), m.seq, m.many, brief(m.view), m.s)
	}
}

// append is Append, held against the document's words.
func (x *both) append(l ...api.Pair) api.Errno {
	x.t.Helper()
	b, e := x.w.Append(l...)
	want, wantE := x.m.append(l)
	if e != wantE || !bytes.Equal(b, want) {
		x.t.Fatalf("Append(%s) = %s, %v; want %s, %v", brief(l), brief(b), e, brief(want), wantE)
	}
	x.check()
	return e
}

// snap is Snap, held against the document's words.
func (x *both) snap() api.Errno {
	x.t.Helper()
	b, e := x.w.Snap()
	want, wantE := x.m.snap()
	if e != wantE || !bytes.Equal(b, want) {
		x.t.Fatalf("Snap = %s, %v; want %s, %v", brief(b), e, brief(want), wantE)
	}
	x.check()
	return e
}

// open goes on with what was written.
func (x *both) open() {
	x.t.Helper()
	b := x.w.Bytes()
	w, n, e := writer.Open(b)
	if e != api.OK || n != len(b) || w == nil {
		x.t.Fatalf("Open(%s): %d, %v", brief(b), n, e)
	}
	x.w = w
	x.check()
}

// refused holds an Append against its error, which leaves all as it is.
func (x *both) refused(want api.Errno, l ...api.Pair) {
	x.t.Helper()
	if e := x.append(l...); e != want {
		x.t.Errorf("Append(%s): %v; want %v", brief(l), e, want)
	}
}

// taken holds calls against none.
func (x *both) taken(l ...api.Errno) {
	x.t.Helper()
	for i, e := range l {
		if e != api.OK {
			x.t.Fatalf("%d: %v", i, e)
		}
	}
}

// P14.1

func TestNew(t *testing.T) {
	for _, s := range schemas() {
		x := start(t, s)
		if w := x.w; !bytes.Equal(w.Bytes(), headOf(s)) || w.Seq() != 0 || len(w.View()) != 0 || !slices.Equal(w.Schema(), s) || w.Many() != 0 {
			t.Errorf("New(%v): %v, %d, %v, %v, %d", s, w.Bytes(), w.Seq(), w.View(), w.Schema(), w.Many())
		}
	}
	for want, s := range wrongSchemas() {
		if w, e := writer.New(s); w != nil || e != want {
			t.Errorf("New(%v): %v; want %v", s, e, want)
		}
	}
	if w, e := writer.New(nil); w != nil || e != api.ErrNone {
		t.Errorf("New(nil): %v", e)
	}
}

func TestOpen(t *testing.T) {
	view := set("2 1,61; 1 2,62")
	for i, c := range []struct {
		l    []api.Entry
		seq  int64
		view []api.Pair
	}{
		{nil, 0, nil},
		{[]api.Entry{snapshot(0, nil)}, 0, nil},
		{[]api.Entry{delta(1, nil)}, 1, nil},
		{[]api.Entry{delta(1, view)}, 1, view},
		{[]api.Entry{delta(1, view), snapshot(1, view)}, 1, view},
		{[]api.Entry{snapshot(0, nil), delta(1, view), snapshot(1, view), delta(2, set("-2 1,61"))}, 2, set("1 2,62")},
		{[]api.Entry{delta(1, view), delta(2, set("-2 1,61; -1 2,62"))}, 2, nil},
		{[]api.Entry{delta(1, set("-5 1,61")), delta(2, nil), delta(3, set("6 1,61; 1 1,62"))}, 3, set("1 1,61; 1 1,62")},
	} {
		b := fileOf(example, c.l...)
		w, n, e := writer.Open(b)
		if e != api.OK || n != len(b) {
			t.Fatalf("%d: Open: %d, %v", i, n, e)
		}
		x := &both{t, w, &model{example, b, c.seq, c.view, len(c.l)}}
		x.check()
		x.taken(x.append(p(1, 9, "c"), p(1, 1, "a")), x.snap(), x.append())
	}
	for _, s := range schemas() {
		w, n, e := writer.Open(headOf(s))
		if e != api.OK || n != len(headOf(s)) {
			t.Fatalf("Open of a head of %v: %d, %v", s, n, e)
		}
		x := &both{t, w, modelOf(s)}
		x.check()
		x.taken(x.snap(), x.append())
	}
}

func TestOpenOfWhatIsNoFile(t *testing.T) {
	head := headOf(example)
	first, second := frameOf(example, delta(1, set("1 1,61"))), frameOf(example, delta(2, nil))
	two := slices.Concat(head, first, second)
	behind := len(head) + len(first)
	turned := slices.Clone(two)
	turned[behind-1] ^= 1
	for i, c := range []struct {
		b    []byte
		at   int
		want api.Errno
	}{
		{nil, 0, api.ErrForm}, {[]byte("DKL"), 0, api.ErrForm}, {[]byte("DKL2"), 0, api.ErrForm}, {first, 0, api.ErrForm},
		{[]byte("DKL1"), 4, api.ErrShort}, {head[:len(head)-1], 4, api.ErrShort}, {append([]byte("DKL1"), first...), 4, api.ErrKind},
		{append([]byte("DKL1"), framedOf(0, []byte{0})...), 4, api.ErrNone},
		{two[:len(two)-1], behind, api.ErrShort}, {two[:behind-1], len(head), api.ErrShort}, {turned, len(head), api.ErrSum},
		{append(slices.Clip(two), 3), len(two), api.ErrKind}, {slices.Concat(two, head[4:]), len(two), api.ErrKind},
		{slices.Concat(head, second), len(head), api.ErrSeq}, {slices.Concat(two, first), len(two), api.ErrSeq},
		{slices.Concat(two, frameOf(example, snapshot(2, nil))), len(two), api.ErrView},
		{slices.Concat(two, frameOf(example, delta(3, set("9223372036854775807 1,61")))), len(two), api.ErrOver},
		{slices.Concat(two, framedOf(2, []byte{3, 0, 0})), len(two), api.ErrLong},
	} {
		if w, n, e := writer.Open(c.b); w != nil || n != c.at || e != c.want {
			t.Errorf("%d: Open(%v): %v, %d, %v; want %d, %v", i, c.b, w, n, e, c.at, c.want)
		}
	}
	// Of any cut, and of any byte that is another one: as layer 13 says.
	for at := range two {
		for c := range 256 {
			b := slices.Clone(two)
			b[at] = byte(c)
			sameAsDecoded(t, b)
		}
		sameAsDecoded(t, two[:at])
		sameAsDecoded(t, two[at:])
	}
}

func sameAsDecoded(t *testing.T, b []byte) {
	t.Helper()
	_, at, want := trace.Decode(b)
	if w, n, e := writer.Open(b); (w == nil) != (want != api.OK) || n != at || e != want {
		t.Fatalf("Open(%v): %v, %d, %v; want %d, %v", b, w, n, e, at, want)
	}
}

func TestOpenOfMoreEntriesThanMayBe(t *testing.T) {
	b := headOf(example)
	for i := range most {
		b = append(b, frameOf(example, delta(int64(i+1), nil))...)
	}
	w, n, e := writer.Open(b)
	if e != api.OK || n != len(b) || w.Many() != most || w.Seq() != most {
		t.Fatal(n, e)
	}
	x := &both{t, w, &model{example, b, most, nil, most}}
	x.refused(api.ErrLimit)
	if e := x.snap(); e != api.ErrLimit {
		t.Error(e)
	}
	if w, n, e := writer.Open(slices.Concat(b, frameOf(example, snapshot(most, nil)))); w != nil || n != len(b) || e != api.ErrLimit {
		t.Error(n, e)
	}
}

// P14.2

func TestAppendAndSnap(t *testing.T) {
	w, _ := writer.New(example)
	head := headOf(example)
	for i, c := range []struct {
		l    []api.Pair
		snap bool
		want []byte
		seq  int64
		view string
	}{
		{nil, true, framedOf(1, []byte{0, 0}), 0, "-"},
		{pairs(p(2, 1, "a"), p(-1, 1, "a")), false, framedOf(2, []byte("\x01\x01\x02\x00\x01a\x02")), 1, "1 1,61"},
		{nil, true, framedOf(1, []byte("\x01\x01\x02\x00\x01a\x02")), 1, "1 1,61"},
		{nil, true, framedOf(1, []byte("\x01\x01\x02\x00\x01a\x02")), 1, "1 1,61"},
		{pairs(p(1, 2, "b"), p(1, 1, "a")), false, framedOf(2, []byte("\x02\x02\x02\x02\x00\x01a\x00\x01b\x02\x02")), 2, "2 1,61; 1 2,62"},
		{nil, false, framedOf(2, []byte{3, 0}), 3, "2 1,61; 1 2,62"},
		{pairs(p(1, 7, "z"), p(-1, 7, "z"), p(0, 8, "y")), false, framedOf(2, []byte{4, 0}), 4, "2 1,61; 1 2,62"},
		{pairs(p(-2, 1, "a")), false, framedOf(2, []byte("\x05\x01\x02\x00\x01a\x03")), 5, "1 2,62"},
		{nil, true, framedOf(1, []byte("\x05\x01\x04\x00\x01b\x02")), 5, "1 2,62"},
		{pairs(p(-1, 2, "b")), false, framedOf(2, []byte("\x06\x01\x04\x00\x01b\x01")), 6, "-"},
		{pairs(p(-1, 2, "b")), false, framedOf(2, []byte("\x07\x01\x04\x00\x01b\x01")), 7, "-1 2,62"},
		{nil, true, framedOf(1, []byte("\x07\x01\x04\x00\x01b\x01")), 7, "-1 2,62"},
	} {
		call := func() ([]byte, api.Errno) { return w.Append(c.l...) }
		if c.snap {
			call = w.Snap
		}
		b, e := call()
		head = append(head, c.want...)
		if e != api.OK || !bytes.Equal(b, c.want) || !bytes.Equal(w.Bytes(), head) || w.Seq() != c.seq || !zset.Same(w.View(), set(c.view)) || w.Many() != i+1 {
			t.Fatalf("%d: %v, %v; %v, %d, %v, %d; want %v, %d, %s", i, b, e, w.Bytes(), w.Seq(), w.View(), w.Many(), c.want, c.seq, c.view)
		}
	}
}

// TestAppendOfWhatMayNotBe leaves all as it is, and goes on.
func TestAppendOfWhatMayNotBe(t *testing.T) {
	long := strings.Repeat("a", 257)
	x := start(t, example)
	for range 3 {
		x.refused(api.ErrArg, api.Pair{})
		x.refused(api.ErrArg, p(1, 1, "a"), pair(1, num(1)))
		x.refused(api.ErrArg, pair(0, num(1), text("a"), num(1)), p(1, 1, "\xff"))
		x.refused(api.ErrType, p(1, 1, "\xff"))
		x.refused(api.ErrType, pair(0, api.Cell{Num: 1, Text: "a"}, text(long)))
		x.refused(api.ErrLong, p(0, 1, long))
		x.refused(api.ErrLong, p(1, 1, long), api.Pair{}, p(1, 1, "\xff"))
		// What is wrong with a row goes ahead of sums.
		x.refused(api.ErrOver, p(top, 7, "z"), p(1, 7, "z"))
		x.refused(api.ErrOver, p(bottom, 7, "z"), p(-1, 7, "z"))
		x.refused(api.ErrArg, p(top, 7, "z"), p(1, 7, "z"), api.Pair{})
		x.taken(x.append(p(1, 1, "a"), p(-1, 2, "b")), x.snap())
		// The view's sums are told behind those of the pairs themselves.
		x.refused(api.ErrOver, p(top, 1, "a"))
		x.refused(api.ErrOver, p(bottom, 2, "b"))
		x.refused(api.ErrOver, p(3, 5, "e"), p(top, 1, "a"))
		x.taken(x.append(p(top, 1, "a"), p(bottom, 1, "a"), p(top, 2, "b"), p(-top, 2, "b"), p(1, 1, "a")))
	}
	y := start(t, example)
	y.taken(y.append(p(top, 1, "a"), p(bottom, 2, "b")), y.snap(), y.append(p(-top, 1, "a"), p(top, 2, "b")), y.append(p(top, 1, "a"), p(-top, 2, "b")))
	y.refused(api.ErrOver, p(1, 1, "a"))
	y.refused(api.ErrOver, p(-1, 2, "b"))
	y.taken(y.append(p(bottom, 1, "a")), y.append(p(top, 1, "a"), p(1, 1, "b")))
}

// TestEachColumnMayBeWrong asks with a cell that may not be, of each kind.
func TestEachColumnMayBeWrong(t *testing.T) {
	for _, s := range schemas() {
		x := start(t, s)
		var r []api.Cell
		for _, c := range s {
			r = append(r, cellsOf(c.Kind)[1])
		}
		x.taken(x.append(pair(1, r...)))
		for i := range s {
			wrong := slices.Clone(r)
			wrong[i] = api.Cell{Num: 2, Text: "a"}
			x.refused(api.ErrType, pair(1, wrong...))
			x.refused(api.ErrType, pair(1, r...), pair(0, wrong...), api.Pair{})
		}
		x.refused(api.ErrArg, pair(1, append(slices.Clip(r), num(0))...))
		x.refused(api.ErrArg, pair(1, r[1:]...))
		x.taken(x.snap(), x.append(pair(-1, r...)), x.snap())
	}
}

// TestAsManyEntriesAsMayBe asks for one more, with and without others that are wrong with it.
func TestAsManyEntriesAsMayBe(t *testing.T) {
	x := start(t, example)
	x.taken(x.append(p(top, 1, "a")))
	for i := range most - 2 {
		call := func() ([]byte, api.Errno) { return x.w.Append() }
		expect := func() ([]byte, api.Errno) { return x.m.append(nil) }
		if i%3 == 0 {
			call, expect = x.w.Snap, x.m.snap
		}
		b, e := call()
		if want, _ := expect(); e != api.OK || !bytes.Equal(b, want) {
			t.Fatal(i, b, e)
		}
	}
	x.check()
	x.refused(api.ErrOver, p(1, 1, "a")) // one is left
	y := &both{t, x.w, &model{x.m.s, slices.Clone(x.m.b), x.m.seq, x.m.view, x.m.many}}
	y.open()
	x.taken(x.snap())
	y.taken(y.append(p(-1, 1, "a")))
	for _, z := range []*both{x, y} {
		if z.w.Many() != most {
			t.Fatal(z.w.Many())
		}
		for range 2 {
			z.refused(api.ErrLimit)
			z.refused(api.ErrLimit, p(1, 2, "b"))
			z.refused(api.ErrLimit, api.Pair{})
			z.refused(api.ErrLimit, p(2, 1, "a"))
			z.refused(api.ErrLimit, p(1, 1, "\xff"))
			if e := z.snap(); e != api.ErrLimit {
				t.Error(e)
			}
		}
		z.open()
		z.refused(api.ErrLimit, api.Pair{})
	}
}

// TestAChangeOfAsManyRowsAsMayBe goes beyond by one, that another pair takes away again.
func TestAChangeOfAsManyRowsAsMayBe(t *testing.T) {
	x := start(t, columns(api.Uint))
	x.refused(api.ErrLimit, many(0, 1025)...)
	x.refused(api.ErrOver, append(many(0, 1025), pair(top, num(3)))...) // sums go ahead
	x.refused(api.ErrArg, append(many(0, 1025), api.Pair{})...)
	x.taken(x.append(append(many(0, 1025), pair(-1, num(7)))...), x.snap())
	x.refused(api.ErrLimit, many(0, 1024)...) // the row 7 would be one more
	x.taken(x.append(append(many(0, 1023), pair(-1, num(1024)))...), x.snap())
}

// TestAViewOfAsManyRowsAsMayBe goes beyond by a change that may be.
func TestAViewOfAsManyRowsAsMayBe(t *testing.T) {
	x := start(t, columns(api.Uint))
	x.taken(x.append(many(0, 1000)...), x.append(many(1000, 24)...), x.snap())
	x.refused(api.ErrLimit, pair(1, num(1024)))
	x.refused(api.ErrLimit, many(1, 1024)...)
	x.refused(api.ErrOver, pair(top, num(5)), pair(1, num(1024))) // sums go ahead
	x.taken(x.append(pair(1, num(1024)), pair(-1, num(0))), x.append(many(1, 1024)...), x.snap())
}

// TestPayloadsOfMoreBytesThanMayBe can't be written, and leave all as it is.
func TestPayloadsOfMoreBytesThanMayBe(t *testing.T) {
	s, a := heavy()
	x := start(t, s)
	x.refused(api.ErrLimit, a...)
	x.taken(x.append(a[:300]...), x.snap())
	x.refused(api.ErrLimit, append(slices.Clone(a), pair(-1, a[0].Row...))...)
	x.taken(x.append(a[300:]...))
	for range 2 {
		if e := x.snap(); e != api.ErrLimit {
			t.Error(e)
		}
	}
	x.refused(api.ErrLimit, a...)
	x.open()
	x.taken(x.append(pair(1, a[7].Row...)))
	if e := x.snap(); e != api.ErrLimit {
		t.Error(e)
	}
	// What the view can't be goes ahead of what can't be written.
	x.taken(x.append(pair(top-1, a[9].Row...)))
	x.refused(api.ErrOver, a...)
	var gone []api.Pair
	for _, p := range a[100:200] {
		gone = append(gone, pair(-1, p.Row...))
	}
	x.taken(x.append(gone...), x.snap())
}

// P14.3

// TestAllThatAWriterHas asks behind each of many calls, and lets some writers be opened on the way.
func TestAllThatAWriterHas(t *testing.T) {
	m := mixer(2463534242)
	told := map[api.Errno]int{}
	for _, s := range schemas() {
		for range 12 {
			x := start(t, s)
			for range 25 {
				switch m.below(8) {
				case 0:
					told[x.snap()]++
				case 1:
					x.open()
				default:
					told[x.append(m.pairs(s, m.below(6))...)]++
				}
			}
			y, _, e := trace.Decode(x.w.Bytes())
			seq, view, viewE := trace.View(y)
			if e != api.OK || viewE != api.OK || seq != x.w.Seq() || !zset.Same(view, x.w.View()) || len(y.Entries) != x.w.Many() || !schema.Same(y.Schema, x.w.Schema()) {
				t.Fatalf("what was written is %s, %v", brief(y), e)
			}
		}
	}
	for _, e := range []api.Errno{api.OK, api.ErrArg, api.ErrType, api.ErrOver} {
		if told[e] < 10 {
			t.Errorf("%v was told only %d times", e, told[e])
		}
	}
}

func TestANilWriter(t *testing.T) {
	var w *writer.Writer
	for _, l := range [][]api.Pair{nil, {p(1, 1, "a")}, {{}}} {
		if b, e := w.Append(l...); len(b) != 0 || e != api.ErrNil {
			t.Errorf("Append(%v) = %v, %v", l, b, e)
		}
	}
	if b, e := w.Snap(); len(b) != 0 || e != api.ErrNil {
		t.Errorf("Snap = %v, %v", b, e)
	}
	if b := w.Bytes(); len(b) != 0 {
		t.Errorf("Bytes = %v", b)
	}
	if n := w.Seq(); n != 0 {
		t.Errorf("Seq = %d", n)
	}
	if l := w.View(); len(l) != 0 {
		t.Errorf("View = %v", l)
	}
	if s := w.Schema(); len(s) != 0 {
		t.Errorf("Schema = %v", s)
	}
	if n := w.Many(); n != 0 {
		t.Errorf("Many = %d", n)
	}
}

// P14.4

// all holds All against what was appended up to where it is wrong.
func all(t *testing.T, s []api.Column, n int, want api.Errno, l ...[]api.Pair) {
	t.Helper()
	m := modelOf(s)
	for _, change := range l[:n] {
		if _, e := m.append(change); e != api.OK {
			t.Fatalf("All(%s): %v can't be appended: %v", brief(l), change, e)
		}
	}
	if b, k, e := writer.All(s, l...); !bytes.Equal(b, m.b) || k != n || e != want {
		t.Errorf("All(%s) = %s, %d, %v; want %s, %d, %v", brief(l), brief(b), k, e, brief(m.b), n, want)
	}
}

func TestAll(t *testing.T) {
	one, two, none := pairs(p(1, 1, "a")), pairs(p(2, 2, "b"), p(1, 1, "a"), p(-1, 2, "b")), pairs()
	over, wrong := pairs(p(top, 1, "a")), pairs(p(1, 1, "\xff"))
	all(t, example, 0, api.OK)
	all(t, example, 1, api.OK, one)
	all(t, example, 1, api.OK, nil)
	all(t, example, 3, api.OK, two, none, one)
	all(t, example, 5, api.OK, one, one, nil, one, two)
	all(t, example, 1, api.OK, over)
	all(t, example, 1, api.ErrOver, one, over)
	all(t, example, 1, api.ErrOver, one, over, two)
	all(t, example, 1, api.ErrOver, over, one, wrong)
	all(t, example, 2, api.ErrOver, two, none, over, wrong)
	all(t, example, 0, api.ErrType, wrong)
	all(t, example, 0, api.ErrType, wrong, one)
	all(t, example, 0, api.ErrArg, pairs(api.Pair{}), over, wrong)
	all(t, example, 3, api.ErrArg, one, none, two, pairs(p(1, 1, "a"), pair(1)), one)
	for want, s := range wrongSchemas() {
		for _, l := range [][][]api.Pair{nil, {one}, {wrong}} {
			if b, n, e := writer.All(s, l...); len(b) != 0 || n != 0 || e != want {
				t.Errorf("All(%v, %v) = %v, %d, %v; want %v", s, l, b, n, e, want)
			}
		}
	}
	m := mixer(11)
	for _, s := range schemas() {
		var l [][]api.Pair
		for range 30 {
			l = append(l, m.pairs(s, m.below(4)))
		}
		x, n := modelOf(s), 0
		want := api.OK
		for n < len(l) && want == api.OK {
			if _, want = x.append(l[n]); want == api.OK {
				n++
			}
		}
		all(t, s, n, want, l...)
	}
}

func TestAllOfMoreThanMayBe(t *testing.T) {
	l := make([][]api.Pair, most+2)
	all(t, example, most, api.OK, l[:most]...)
	all(t, example, most, api.ErrLimit, l[:most+1]...)
	l[most] = pairs(api.Pair{})
	all(t, example, most, api.ErrLimit, l...)
	l[most-1] = pairs(api.Pair{})
	all(t, example, most-1, api.ErrArg, l...)
	s, a := heavy()
	all(t, s, 1, api.ErrLimit, a[:300], a, a[300:])
}

// P14.5

// TestBytesAreTheHeadAndAllFrames puts what was answered one behind the other.
func TestBytesAreTheHeadAndAllFrames(t *testing.T) {
	m := mixer(99)
	for _, s := range schemas() {
		w, _ := writer.New(s)
		sum := headOf(s)
		many := 0
		for range 60 {
			call := w.Snap
			if m.below(4) > 0 {
				l := m.pairs(s, m.below(5))
				call = func() ([]byte, api.Errno) { return w.Append(l...) }
			}
			b, e := call()
			if (e == api.OK) != (len(b) > 0) {
				t.Fatalf("%v, %v", b, e)
			}
			if e == api.OK {
				many++
			}
			sum = append(sum, b...)
			if !bytes.Equal(w.Bytes(), sum) || w.Many() != many {
				t.Fatalf("%s, %d; want %s, %d", brief(w.Bytes()), w.Many(), brief(sum), many)
			}
		}
		y, n, e := trace.Decode(sum)
		if e != api.OK || n != len(sum) || len(y.Entries) != many {
			t.Fatalf("Decode: %d, %v", n, e)
		}
		if again, _, _ := trace.Encode(y); !bytes.Equal(again, sum) {
			t.Fatal("another trace was written")
		}
	}
}

// TestAnOpenedFileGoesOnAsTheOneThatWroteIt opens one behind each call, and lets all of them do the same from there on.
func TestAnOpenedFileGoesOnAsTheOneThatWroteIt(t *testing.T) {
	for _, s := range schemas() {
		m := mixer(5)
		first := start(t, s)
		l := []*writer.Writer{}
		for range 20 {
			w, n, e := writer.Open(first.w.Bytes())
			if e != api.OK || n != len(first.w.Bytes()) {
				t.Fatal(n, e)
			}
			l = append(l, w)
			snap, change := m.below(4) == 0, m.pairs(s, m.below(5))
			want, wantE := []byte(nil), api.OK
			if snap {
				wantE = first.snap()
			} else {
				wantE = first.append(change...)
			}
			if wantE == api.OK {
				y, _, _ := trace.Decode(first.w.Bytes())
				want = frameOf(s, y.Entries[len(y.Entries)-1])
			}
			for i, w := range l {
				call := w.Snap
				if !snap {
					call = func() ([]byte, api.Errno) { return w.Append(change...) }
				}
				if b, e := call(); !bytes.Equal(b, want) || e != wantE {
					t.Fatalf("the one opened behind %d calls: %v, %v; want %v, %v", i, b, e, want, wantE)
				}
				(&both{t, w, first.m}).check()
			}
		}
	}
}

// TestWhatIsWrittenIsReadAsWhatItWas finds of each change the one set of its pairs.
func TestWhatIsWrittenIsReadAsWhatItWas(t *testing.T) {
	m := mixer(31)
	for _, s := range schemas() {
		w, _ := writer.New(s)
		var want []api.Entry
		seq, now := int64(0), []api.Pair(nil)
		for range 40 {
			l := m.pairs(s, m.below(6))
			if _, e := w.Append(l...); e == api.OK {
				seq++
				set, _ := collectOf(s, l)
				now, _ = collectOf(s, slices.Concat(now, set))
				want = append(want, delta(seq, set))
			}
			if m.below(5) == 0 {
				w.Snap()
				want = append(want, snapshot(seq, now))
			}
		}
		got, _, e := trace.Decode(w.Bytes())
		if e != api.OK || !trace.Same(got, api.Trace{Schema: s, Entries: want}) {
			t.Fatalf("%s, %v; want %s", brief(got), e, brief(want))
		}
	}
}

// The rules of all layers.

// spoil changes all of a list, and what lies behind it and its rows.
func spoil(l []api.Pair) {
	for i := range l {
		r := l[i].Row[:cap(l[i].Row)]
		for k := range r {
			r[k] = api.Cell{Num: 99, Text: "spoilt"}
		}
	}
	l = l[:cap(l)]
	for i := range l {
		l[i] = pair(99, num(99))
	}
}

func spoilBytes(b []byte) {
	b = b[:cap(b)]
	for i := range b {
		b[i] = 99
	}
}

func spoilColumns(s []api.Column) {
	s = s[:cap(s)]
	for i := range s {
		s[i] = api.Column{Name: "spoilt", Kind: 99}
	}
}

// TestWhatIsHandedInStays calls all with lists that have more behind their length.
func TestWhatIsHandedInStays(t *testing.T) {
	room := columns(api.Int, api.Text, api.Bool)
	wide := []api.Cell{num(1), text("a"), num(9)}
	l := pairs(pair(3, num(2), text("b")), api.Pair{Row: wide[:2], Weight: 2}, pair(0, num(7), text("z")), pair(-1, num(2), text("b")), api.Pair{})
	changes := [][]api.Pair{l[:4], l[:1], l}
	keepRoom, keepWide, keepL := slices.Clone(room), slices.Clone(wide), deep(l)
	want := fileOf(room[:2], delta(1, pairs(pair(2, num(1), text("a")), pair(2, num(2), text("b")))), delta(2, pairs(pair(3, num(2), text("b")))))
	file := append(slices.Clone(want), 99, 99)
	for range 2 {
		if b, n, e := writer.All(room[:2], changes[:2]...); e != api.OK || n != 2 || !bytes.Equal(b, want) {
			t.Error(b, n, e)
		}
		if b, n, e := writer.All(room[:2], changes...); e != api.ErrArg || n != 2 || !bytes.Equal(b, want) {
			t.Error(b, n, e)
		}
		w, n, e := writer.Open(file[:len(want)])
		if e != api.OK || n != len(want) {
			t.Fatal(n, e)
		}
		w.Append(l[:4]...)
		w.Append(l...)
		w.Snap()
		writer.Open(file)
	}
	if !slices.Equal(room, keepRoom) || !slices.Equal(wide, keepWide) || !zset.Same(l, keepL) || !bytes.Equal(file, append(want, 99, 99)) || len(changes[0]) != 4 || len(changes[2]) != 5 {
		t.Errorf("what was handed in became %v, %v, %v, %v, %v", room, wide, l, file, changes)
	}
}

// TestWhatWasHandedInMayBeChanged changes all of it when the call has answered.
func TestWhatWasHandedInMayBeChanged(t *testing.T) {
	s := slices.Clone(example)
	w, _ := writer.New(s)
	x := &both{t, w, modelOf(example)}
	spoilColumns(s)
	x.check()
	for range 3 {
		l := pairs(p(2, 1, "a"), p(1, 2, "b"))
		b, e := w.Append(l...)
		want, _ := x.m.append(deep(l))
		if e != api.OK || !bytes.Equal(b, want) {
			t.Fatal(b, e)
		}
		spoil(l)
		x.check()
		x.taken(x.snap())
		file := w.Bytes()
		x.w, _, _ = writer.Open(file)
		spoilBytes(file)
		x.check()
		x.taken(x.snap(), x.append(p(-1, 1, "a")))
		w = x.w
	}
	l := pairs(p(2, 1, "a"))
	b, _, _ := writer.All(example, l)
	spoil(l)
	if !bytes.Equal(b, fileOf(example, delta(1, set("2 1,61")))) {
		t.Error(b)
	}
}

// TestWhatIsAnsweredIsApart changes all that is answered, and what could lie behind it.
func TestWhatIsAnsweredIsApart(t *testing.T) {
	x := start(t, example)
	for i := range 12 {
		one, view, s := x.w.Bytes(), x.w.View(), x.w.Schema()
		two, viewTwo, sTwo := x.w.Bytes(), x.w.View(), x.w.Schema()
		spoilBytes(one)
		spoil(view)
		spoilColumns(s)
		x.check()
		if !bytes.Equal(two, x.m.b) || !zset.Same(viewTwo, x.m.view) || !slices.Equal(sTwo, example) {
			t.Fatalf("two answers share: %v, %v, %v", two, viewTwo, sTwo)
		}
		l := pairs(p(1, int64(i), "a"), p(2, 1, "b"))
		keep := deep(l)
		b, _ := x.w.Append(l...)
		x.m.append(deep(l))
		spoilBytes(b)
		x.check()
		if !zset.Same(l, keep) {
			t.Fatalf("what was handed in became %v", l)
		}
		b, _ = x.w.Snap()
		x.m.snap()
		spoilBytes(b)
		x.check()
		if !bytes.Equal(two, x.m.b[:len(two)]) {
			t.Fatalf("what was answered ahead became %v", two)
		}
		spoilBytes(two)
		spoil(viewTwo)
		spoilColumns(sTwo)
		x.check()
		x.taken(x.append(p(1, 5, "e")))
	}
}

// TestWritersHaveNothingToDoWithOneAnother lets such as begin with the same go on apart.
func TestWritersHaveNothingToDoWithOneAnother(t *testing.T) {
	file := fileOf(example, delta(1, set("2 1,61; 1 2,62")))
	open := func() *both {
		w, _, e := writer.Open(file)
		if e != api.OK {
			t.Fatal(e)
		}
		return &both{t, w, &model{example, slices.Clone(file), 1, set("2 1,61; 1 2,62"), 1}}
	}
	l := []*both{start(t, example), start(t, example), open(), open(), start(t, columns(api.Bool))}
	m := mixer(3)
	for range 200 {
		x := l[m.below(len(l))]
		if m.below(3) == 0 {
			x.snap()
		} else {
			x.append(m.pairs(x.m.s, m.below(4))...)
		}
		for _, y := range l {
			y.check()
		}
	}
}

// TestManyAtATime writes by many goroutines at a time, each one its own file, of the same lists.
func TestManyAtATime(t *testing.T) {
	m := mixer(77)
	file := fileOf(example, delta(1, set("2 1,61; 1 2,62")))
	var l [][]api.Pair
	for range 40 {
		l = append(l, m.pairs(example, 4))
	}
	want, n, e := writer.All(example, l...)
	var group sync.WaitGroup
	for range 16 {
		group.Go(func() {
			if b, k, wrong := writer.All(example, l...); !bytes.Equal(b, want) || k != n || wrong != e {
				t.Error(brief(b), k, wrong)
			}
			w, _, _ := writer.Open(file)
			x := &both{t, w, &model{example, slices.Clone(file), 1, set("2 1,61; 1 2,62"), 1}}
			for _, change := range l {
				got, _ := x.w.Append(change...)
				if want, _ := x.m.append(change); !bytes.Equal(got, want) {
					t.Error(brief(got))
				}
			}
			if !bytes.Equal(x.w.Bytes(), x.m.b) || !zset.Same(x.w.View(), x.m.view) {
				t.Error(brief(x.w.Bytes()))
			}
		})
	}
	group.Wait()
}

// TestAFollowingEntryIsOneThatLayer12Lets holds each entry that was written against the view ahead of it.
func TestAFollowingEntryIsOneThatLayer12Lets(t *testing.T) {
	x := start(t, example)
	x.taken(x.append(p(2, 1, "a")), x.snap(), x.append(p(-2, 1, "a")), x.snap(), x.append(), x.append(p(1, 1, "a")), x.snap())
	y, _, _ := trace.Decode(x.w.Bytes())
	seq, view := int64(0), []api.Pair(nil)
	for i, e := range y.Entries {
		var wrong api.Errno
		if seq, view, wrong = entry.Apply(example, seq, view, e); wrong != api.OK {
			t.Fatalf("%d: %v", i, wrong)
		}
	}
	if seq != 4 || !zset.Same(view, set("1 1,61")) || len(y.Entries) != 7 {
		t.Errorf("%d, %v, %d", seq, view, len(y.Entries))
	}
}
