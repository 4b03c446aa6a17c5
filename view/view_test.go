package view_test

import (
	"fmt"
	"hash/crc32"
	"math"
	"math/big"
	"slices"
	"strings"
	"sync"
	"testing"

	"deckle/api"
	"deckle/cell"
	"deckle/row"
	"deckle/view"
	"deckle/zset"
)

const (
	top    = math.MaxInt64
	bottom = math.MinInt64
)

// example is the schema of the document's own examples.
var example = []api.Column{{Name: "id", Kind: api.Int}, {Name: "name", Kind: api.Text}}

// columns are such of those kinds, named a, b, c and so on.
func columns(kinds ...int) []api.Column {
	var s []api.Column
	for i, kind := range kinds {
		s = append(s, api.Column{Name: string(rune('a' + i)), Kind: kind})
	}
	return s
}

func num(x uint64) api.Cell { return api.Cell{Num: x} }

func text(s string) api.Cell { return api.Cell{Text: s} }

func pair(w int64, l ...api.Cell) api.Pair { return api.Pair{Row: l, Weight: w} }

func pairs(l ...api.Pair) []api.Pair { return l }

// p is a pair of the example's schema.
func p(w, id int64, name string) api.Pair { return pair(w, cell.Int(id), text(name)) }

// set is the one of a text, of the example's schema.
func set(x string) []api.Pair {
	a, e := zset.Read(example, x)
	if e != api.OK {
		panic(x + ": " + e.Error())
	}
	return a
}

// many are n pairs of one number each, in order, from that one on.
func many(from, n int) []api.Pair {
	var l []api.Pair
	for i := range n {
		l = append(l, pair(1, num(uint64(from+i))))
	}
	return l
}

// deep is a copy that shares nothing.
func deep(l []api.Pair) []api.Pair {
	l = slices.Clone(l)
	for i, p := range l {
		l[i].Row = slices.Clone(p.Row)
	}
	return l
}

// brief is a text of x that can be told whole, if x is small.
func brief(x any) string {
	s := fmt.Sprint(x)
	if len(s) > 300 {
		return s[:300] + ".."
	}
	return s
}

// wrongSchemas are such as may not be, and what layer 5 says of them.
func wrongSchemas() map[api.Errno][]api.Column {
	return map[api.Errno][]api.Column{
		api.ErrNone:  {},
		api.ErrLimit: make([]api.Column, 9),
		api.ErrLong:  {{Name: strings.Repeat("a", 33)}},
		api.ErrArg:   {{Name: "A"}},
		api.ErrKind:  {{Name: "a", Kind: 6}},
	}
}

// schemas are some with each kind, and with as many columns, and as long a name, as may be.
func schemas() [][]api.Column {
	return [][]api.Column{
		columns(api.Int), columns(api.Uint), columns(api.Bool), columns(api.Bytes), columns(api.Text), columns(api.Float),
		example, columns(api.Bool, api.Text, api.Float),
		{{Name: strings.Repeat("_", 32), Kind: api.Text}},
		columns(api.Int, api.Uint, api.Bool, api.Bytes, api.Text, api.Float, api.Int, api.Text),
	}
}

// mixer makes the same numbers at each run, that look like any.
type mixer uint32

func (m *mixer) below(n int) int {
	*m ^= *m << 13
	*m ^= *m >> 17
	*m ^= *m << 5
	return int(uint32(*m)>>3) % n
}

// cellsOf are such of a kind as may be.
func cellsOf(kind int) []api.Cell {
	switch kind {
	case api.Int:
		return []api.Cell{cell.Int(bottom), cell.Int(-1), num(0), num(64), cell.Int(top)}
	case api.Uint:
		return []api.Cell{num(0), num(1), num(128), num(math.MaxUint64)}
	case api.Bool:
		return []api.Cell{num(0), num(1)}
	case api.Bytes:
		return []api.Cell{text(""), text("\x00"), text("ab"), text("\xff"), text(strings.Repeat("\xff", 256))}
	case api.Text:
		return []api.Cell{text(""), text("a"), text("ab"), text("ä"), text(strings.Repeat("ä", 128))}
	}
	return []api.Cell{num(math.MaxUint64), num(1 << 63), num(0), num(0x3ff0000000000000)}
}

// pairs are n of any rows and weights, some of which may not be, or are too great.
func (m *mixer) pairs(s []api.Column, n int) []api.Pair {
	weights := []int64{-3, -2, -1, 1, 2, 3, 1, -1, 2}
	if m.below(5) == 0 {
		weights = append(weights, 0, top, bottom)
	}
	var l []api.Pair
	for range n {
		var r []api.Cell
		for _, c := range s {
			from := cellsOf(c.Kind)
			r = append(r, from[m.below(len(from))])
		}
		switch m.below(60) {
		case 0:
			r = r[1:]
		case 1:
			r[0] = api.Cell{Num: 2, Text: strings.Repeat("\xff", 257)}
		}
		l = append(l, pair(weights[m.below(len(weights))], r...))
	}
	return l
}

// The document's words, told anew. (What is wrong with a row is layer 6's.)

// printOf is a schema's: the sum of its bytes.
func printOf(s []api.Column) uint32 {
	b := []byte{byte(len(s))}
	for _, c := range s {
		b = append(b, byte(len(c.Name)))
		b = append(b, c.Name...)
		b = append(b, byte(c.Kind))
	}
	return crc32.Checksum(b, crc32.MakeTable(crc32.Castagnoli))
}

// checkOf tells what is wrong with a set.
func checkOf(s []api.Column, l []api.Pair) api.Errno {
	if len(l) > 1024 {
		return api.ErrLimit
	}
	for i, p := range l {
		if wrong := row.Check(s, p.Row); wrong != api.OK {
			return wrong
		}
		if p.Weight == 0 {
			return api.ErrArg
		}
		if i > 0 && row.Compare(s, l[i-1].Row, p.Row) >= 0 {
			return api.ErrOrder
		}
	}
	return api.OK
}

// sumOf is the one of two sets, by sums of any size.
func sumOf(s []api.Column, a, b []api.Pair) ([]api.Pair, api.Errno) {
	if wrong := checkOf(s, b); wrong != api.OK {
		return nil, wrong
	}
	var sum []api.Pair
	for _, p := range slices.Concat(a, b) {
		i := slices.IndexFunc(sum, func(q api.Pair) bool { return slices.Equal(q.Row, p.Row) })
		if i < 0 {
			sum = append(sum, p)
			continue
		}
		w := new(big.Int).Add(big.NewInt(sum[i].Weight), big.NewInt(p.Weight))
		if !w.IsInt64() {
			return nil, api.ErrOver
		}
		sum[i].Weight = w.Int64()
	}
	sum = slices.DeleteFunc(sum, func(p api.Pair) bool { return p.Weight == 0 })
	slices.SortFunc(sum, func(p, q api.Pair) int { return row.Compare(s, p.Row, q.Row) })
	if len(sum) > 1024 {
		return nil, api.ErrLimit
	}
	return sum, api.OK
}

// model is what a view has, by the document's words.
type model struct {
	s     []api.Column
	set   []api.Pair
	at    api.Cursor
	taken int
}

func modelOf(s []api.Column) *model {
	return &model{s: slices.Clone(s), at: api.Cursor{Print: printOf(s)}}
}

func (m *model) take(x api.Message) api.Errno {
	var next []api.Pair
	var wrong api.Errno
	switch {
	case x.Kind != 0 && x.Kind != 1:
		return api.ErrKind
	case x.Cursor.Print != printOf(m.s):
		return api.ErrCursor
	case x.Cursor.Seq < m.at.Seq:
		return api.ErrSeq
	case x.Cursor.Offset < m.at.Offset:
		return api.ErrSeq
	case x.Kind == 0:
		next, wrong = sumOf(m.s, m.set, x.Pairs)
	default:
		next, wrong = deep(x.Pairs), checkOf(m.s, x.Pairs)
	}
	if wrong == api.OK {
		m.set, m.at, m.taken = next, x.Cursor, m.taken+1
	}
	return wrong
}

// both is a view, and what it should be.
type both struct {
	t *testing.T
	v *view.View
	m *model
}

// start is a new view.
func start(t *testing.T, s []api.Column) *both {
	t.Helper()
	v, e := view.New(s)
	if e != api.OK || v == nil {
		t.Fatalf("New(%v): %v", s, e)
	}
	x := &both{t, v, modelOf(s)}
	x.check()
	return x
}

// check holds what the view has against what it should have.
func (x *both) check() {
	x.t.Helper()
	v, m := x.v, x.m
	if !zset.Same(v.Pairs(), m.set) || v.Cursor() != m.at || v.Taken() != m.taken {
		x.t.Fatalf("%s, %v, %d; want %s, %v, %d", brief(v.Pairs()), v.Cursor(), v.Taken(), brief(m.set), m.at, m.taken)
	}
}

func (x *both) take(m api.Message) api.Errno {
	x.t.Helper()
	e, want := x.v.Take(m), x.m.take(m)
	if e != want {
		x.t.Fatalf("Take(%s) = %v; want %v", brief(m), e, want)
	}
	x.check()
	return e
}

// on is the cursor that stands so far ahead of the view's.
func (x *both) on(seq, offset int64) api.Cursor {
	at := x.m.at
	at.Seq += seq
	at.Offset += offset
	return at
}

// change and reset are messages that stand one entry further on.
func (x *both) change(l ...api.Pair) api.Errno {
	x.t.Helper()
	return x.take(api.Message{Kind: api.Change, Pairs: l, Cursor: x.on(1, 10)})
}

func (x *both) reset(l ...api.Pair) api.Errno {
	x.t.Helper()
	return x.take(api.Message{Kind: api.Reset, Pairs: l, Cursor: x.on(1, 10)})
}

// taken holds calls against none that was refused.
func (x *both) taken(l ...api.Errno) {
	x.t.Helper()
	for i, e := range l {
		if e != api.OK {
			x.t.Fatalf("%d: %v", i, e)
		}
	}
}

// is holds what the view has against what a test tells.
func (x *both) is(want string, seq, offset int64, taken int) {
	x.t.Helper()
	at := api.Cursor{Seq: seq, Offset: offset, Print: printOf(example)}
	if !zset.Same(x.v.Pairs(), set(want)) || x.v.Cursor() != at || x.v.Taken() != taken {
		x.t.Fatalf("%v, %v, %d; want %s, %v, %d", x.v.Pairs(), x.v.Cursor(), x.v.Taken(), want, at, taken)
	}
}

// P17.1

func TestNew(t *testing.T) {
	for _, s := range schemas() {
		v, e := view.New(s)
		if e != api.OK || len(v.Pairs()) != 0 || v.Cursor() != (api.Cursor{Print: printOf(s)}) || v.Taken() != 0 {
			t.Errorf("New(%v): %v, %v", s, v, e)
		}
	}
	for want, s := range wrongSchemas() {
		if v, e := view.New(s); v != nil || e != want {
			t.Errorf("New(%v): %v; want %v", s, e, want)
		}
	}
	if v, e := view.New(nil); v != nil || e != api.ErrNone {
		t.Errorf("New(nil): %v", e)
	}
	if v, e := view.New([]api.Column{{Name: "a"}, {Name: "a"}}); v != nil || e != api.ErrArg {
		t.Errorf("New of a name that was: %v", e)
	}
}

// TestANewViewIsOfItsSchema takes rows of it, and of no other.
func TestANewViewIsOfItsSchema(t *testing.T) {
	for _, s := range schemas() {
		for _, other := range schemas() {
			x := start(t, s)
			var r []api.Cell
			for _, c := range other {
				r = append(r, cellsOf(c.Kind)[1])
			}
			e := x.change(pair(1, r...))
			if slices.Equal(s, other) && e != api.OK {
				t.Errorf("of %v, a row of its own: %v", s, e)
			}
			if len(s) != len(other) && e != api.ErrArg {
				t.Errorf("of %v, a row of %v: %v", s, other, e)
			}
			x.reset(pair(1, r...))
			at := api.Cursor{Seq: 9, Offset: 99, Print: printOf(other)}
			if e := x.take(api.Message{Cursor: at}); (e == api.OK) != (printOf(s) == printOf(other)) {
				t.Errorf("of %v, a cursor of %v: %v", s, other, e)
			}
		}
	}
}

// P17.2

// TestTheExample is the document's own.
func TestTheExample(t *testing.T) {
	x := start(t, example)
	x.taken(x.change(set("1 1,61")...))
	x.is("1 1,61", 1, 10, 1)
	x.taken(x.change(set("-1 1,61; 1 2,62")...))
	x.is("1 2,62", 2, 20, 2)
}

// TestKinds goes through numbers that are none, which goes ahead of all else that is wrong.
func TestKinds(t *testing.T) {
	for _, kind := range []int{2, 3, -1, -2, 255, 256, 257, 1 << 32, 1<<32 + 1, math.MaxInt, math.MinInt, math.MinInt + 1} {
		x := start(t, example)
		x.taken(x.change(p(1, 1, "a")))
		for _, m := range []api.Message{
			{Cursor: x.on(1, 1)},
			{Cursor: x.on(0, 0), Pairs: set("1 2,62")},
			{},
			{Cursor: x.on(-1, -1), Pairs: pairs(api.Pair{})},
			{Cursor: api.Cursor{Print: ^printOf(example)}, Pairs: pairs(p(top, 1, "a"))},
		} {
			m.Kind = kind
			if e := x.take(m); e != api.ErrKind {
				t.Errorf("Take(%v) = %v", m, e)
			}
		}
		x.is("1 1,61", 1, 10, 1)
	}
}

// TestPrints turns each bit of the schema's own, which goes ahead of where the cursor stands.
func TestPrints(t *testing.T) {
	for _, s := range schemas() {
		x := start(t, s)
		for bit := range 33 {
			turned := printOf(s) ^ uint32(1<<bit)
			if bit == 32 {
				turned = ^printOf(s)
			}
			for kind := range 2 {
				for _, l := range [][]api.Pair{nil, {{}}} {
					for _, at := range []int64{bottom, -1, 0, 1, top} {
						m := api.Message{Kind: kind, Pairs: l, Cursor: api.Cursor{Seq: at, Offset: at, Print: turned}}
						if e := x.take(m); e != api.ErrCursor {
							t.Errorf("Take(%v) = %v", m, e)
						}
					}
				}
			}
		}
	}
}

// TestCursors goes through such that are less than where the view stands in one part, in both, or in none.
func TestCursors(t *testing.T) {
	steps := []int64{bottom, bottom + 1, -100, -2, -1, 0, 1, 2, 100, top - 1, top}
	for _, from := range []int64{0, 1, 2, 99, top - 1, top} {
		for _, seq := range steps {
			for _, offset := range steps {
				for kind := range 2 {
					x := start(t, example)
					x.taken(x.take(api.Message{Pairs: set("2 1,61"), Cursor: x.on(from, from)}))
					m := api.Message{Kind: kind, Pairs: set("1 1,61"), Cursor: api.Cursor{Seq: seq, Offset: offset, Print: printOf(example)}}
					e := x.take(m)
					if back := seq < from || offset < from; back && e != api.ErrSeq || !back && e != api.OK {
						t.Errorf("at %d, Take(%v) = %v", from, m, e)
					}
					m.Pairs = pairs(api.Pair{})
					if e := x.take(m); seq < from && e != api.ErrSeq || seq >= from && offset >= from && e != api.ErrArg {
						t.Errorf("at %d, Take(%v) = %v", from, m, e)
					}
				}
			}
		}
	}
}

// TestACursorMayStay takes one that is where the view stands, or further on in one part alone.
func TestACursorMayStay(t *testing.T) {
	x := start(t, example)
	for i, c := range []struct{ seq, offset, atSeq, atOffset int64 }{
		{0, 0, 0, 0}, {0, 5, 0, 5}, {0, 0, 0, 5}, {3, 0, 3, 5}, {0, 0, 3, 5}, {1, 1, 4, 6},
	} {
		x.taken(x.take(api.Message{Kind: i % 2, Pairs: set("1 1,61"), Cursor: x.on(c.seq, c.offset)}))
		if at := x.v.Cursor(); at.Seq != c.atSeq || at.Offset != c.atOffset {
			t.Errorf("%d: %v", i, at)
		}
	}
}

// wrongSets are such as may not be, in the order of what is told of them.
func wrongSets() []struct {
	want api.Errno
	l    []api.Pair
} {
	long := strings.Repeat("a", 257)
	return []struct {
		want api.Errno
		l    []api.Pair
	}{
		{api.ErrArg, pairs(api.Pair{})}, {api.ErrArg, pairs(pair(1, num(1)))}, {api.ErrArg, pairs(pair(1, num(1), text("a"), num(1)))},
		{api.ErrType, pairs(p(1, 1, "\xff"))}, {api.ErrType, pairs(pair(1, text("1"), text("a")))}, {api.ErrType, pairs(pair(1, num(1), num(1)))},
		{api.ErrLong, pairs(p(1, 1, long))}, {api.ErrLong, pairs(p(0, 1, long))},
		{api.ErrArg, pairs(p(0, 1, "a"))}, {api.ErrArg, pairs(p(1, 1, "a"), p(0, 1, "a"))},
		{api.ErrOrder, pairs(p(1, 1, "a"), p(1, 1, "a"))}, {api.ErrOrder, pairs(p(1, 2, "a"), p(1, 1, "z"))}, {api.ErrOrder, pairs(p(1, 1, "b"), p(1, 1, "a"))},
		{api.ErrOrder, pairs(p(top, 1, "a"), p(1, 1, "a"), api.Pair{})},
		{api.ErrLimit, slices.Repeat(pairs(api.Pair{}), 1025)},
	}
}

// TestWhatIsNoSet leaves a view as it is, by messages of both kinds.
func TestWhatIsNoSet(t *testing.T) {
	for i, c := range wrongSets() {
		x := start(t, example)
		for range 2 {
			if e := x.change(c.l...); e != c.want {
				t.Errorf("%d: a change of %s: %v; want %v", i, brief(c.l), e, c.want)
			}
			if e := x.reset(c.l...); e != c.want {
				t.Errorf("%d: a reset of %s: %v; want %v", i, brief(c.l), e, c.want)
			}
			x.taken(x.change(p(1, 1, "a")))
		}
		x.is("2 1,61", 2, 20, 2)
	}
}

// TestSums goes beyond what a weight may be, and what a set may have: that is a change's error alone.
func TestSums(t *testing.T) {
	for _, c := range []struct {
		held, more int64
		want       api.Errno
	}{
		{top, 1, api.ErrOver}, {top, top, api.ErrOver}, {bottom, -1, api.ErrOver}, {bottom, bottom, api.ErrOver}, {1, top, api.ErrOver},
		{top - 1, 1, api.OK}, {bottom + 1, -1, api.OK}, {top, bottom, api.OK}, {bottom, top, api.OK}, {top, -top, api.OK}, {5, -5, api.OK},
	} {
		x := start(t, example)
		x.taken(x.change(p(c.held, 1, "a"), p(1, 2, "b")))
		if e := x.change(p(c.more, 1, "a"), p(1, 3, "c")); e != c.want {
			t.Errorf("%d and %d: %v; want %v", c.held, c.more, e, c.want)
		}
		x.taken(x.reset(p(c.more, 1, "a")))
	}
	x := start(t, columns(api.Uint))
	x.taken(x.change(many(0, 1024)...), x.change(many(0, 1024)...))
	if e := x.change(many(1024, 1)...); e != api.ErrLimit {
		t.Error(e)
	}
	if e := x.change(many(0, 1025)...); e != api.ErrLimit {
		t.Error(e)
	}
	if e := x.reset(many(0, 1025)...); e != api.ErrLimit {
		t.Error(e)
	}
	x.taken(x.reset(many(1000, 1024)...), x.change(pair(-1, num(1000)), pair(1, num(7000))))
	// What a sum is over goes ahead of how many rows there are.
	x.taken(x.reset(append(many(0, 1023), pair(top, num(1023)))...))
	if e := x.change(append(many(1023, 1), many(2000, 9)...)...); e != api.ErrOver {
		t.Error(e)
	}
}

// TestTheOrderOfErrors has all of them at once, and mends one after the other.
func TestTheOrderOfErrors(t *testing.T) {
	for kind := range 2 {
		x := start(t, example)
		x.taken(x.change(p(top, 1, "a")))
		m := api.Message{Kind: 2, Pairs: pairs(p(1, 1, "a"), p(0, 1, "a"))}
		for i, want := range []api.Errno{api.ErrKind, api.ErrCursor, api.ErrSeq, api.ErrSeq, api.ErrArg, api.ErrOrder} {
			if e := x.take(m); e != want {
				t.Errorf("%d: %v; want %v", i, e, want)
			}
			switch i {
			case 0:
				m.Kind = kind
			case 1:
				m.Cursor.Print = printOf(example)
			case 2:
				m.Cursor.Seq = 1
			case 3:
				m.Cursor.Offset = 10
			case 4:
				m.Pairs[1].Weight = 1
			case 5:
				m.Pairs = m.Pairs[:1]
			}
		}
		want := api.ErrOver
		if kind == api.Reset {
			want = api.OK
		}
		if e := x.take(m); e != want {
			t.Errorf("%v; want %v", e, want)
		}
	}
}

// P17.3

func TestPairsCursorAndTaken(t *testing.T) {
	x := start(t, example)
	x.is("-", 0, 0, 0)
	x.taken(x.take(api.Message{Cursor: x.on(0, 0)}))
	x.is("-", 0, 0, 1)
	x.taken(x.change(p(-1, 1, "a")))
	x.is("-1 1,61", 1, 10, 2)
	x.change(api.Pair{})
	x.is("-1 1,61", 1, 10, 2)
	x.taken(x.reset(p(3, 2, "b"), p(4, 3, "c")))
	x.is("3 2,62; 4 3,63", 2, 20, 3)
	x.taken(x.change())
	x.is("3 2,62; 4 3,63", 3, 30, 4)
	x.taken(x.reset())
	x.is("-", 4, 40, 5)
	for range 300 {
		x.taken(x.change())
	}
	x.is("-", 304, 3040, 305)
}

// TestAllThatAViewHas asks behind each of many messages.
func TestAllThatAViewHas(t *testing.T) {
	m := mixer(2463534242)
	told := map[api.Errno]int{}
	for _, s := range schemas() {
		for range 20 {
			x := start(t, s)
			for range 60 {
				told[x.take(m.message(x))]++
			}
		}
	}
	for _, e := range []api.Errno{api.OK, api.ErrKind, api.ErrCursor, api.ErrSeq, api.ErrArg, api.ErrOrder, api.ErrOver} {
		if told[e] < 20 {
			t.Errorf("%v was told only %d times", e, told[e])
		}
	}
}

// message is one that x may take, most often.
func (m *mixer) message(x *both) api.Message {
	l := m.pairs(x.m.s, m.below(5))
	if m.below(8) > 0 {
		if a, e := zset.Collect(x.m.s, l...); e == api.OK {
			l = a
		}
	}
	msg := api.Message{Kind: m.below(2), Pairs: l, Cursor: x.on(int64(m.below(3)), int64(m.below(3)))}
	switch m.below(20) {
	case 0:
		msg.Kind = m.below(5) - 2
	case 1:
		msg.Cursor = x.on(int64(m.below(3)-1), int64(m.below(3)-1))
	case 2:
		msg.Cursor.Print ^= 1 << m.below(32)
	}
	return msg
}

func TestANilView(t *testing.T) {
	var v *view.View
	for _, m := range []api.Message{{}, {Kind: 2}, {Kind: -1, Pairs: pairs(api.Pair{})}, {Kind: api.Reset, Cursor: api.Cursor{Seq: -1}}, {Pairs: set("1 1,61"), Cursor: api.Cursor{Print: printOf(example)}}} {
		if e := v.Take(m); e != api.ErrNil {
			t.Errorf("Take(%v) = %v", m, e)
		}
	}
	if l := v.Pairs(); len(l) != 0 {
		t.Errorf("Pairs = %v", l)
	}
	if c := v.Cursor(); c != (api.Cursor{}) {
		t.Errorf("Cursor = %v", c)
	}
	if n := v.Taken(); n != 0 {
		t.Errorf("Taken = %d", n)
	}
}

// P17.4

// TestAViewHangsOnWhatItHeld holds it against one that came to the same set by other messages.
func TestAViewHangsOnWhatItHeld(t *testing.T) {
	m := mixer(99)
	for _, s := range schemas() {
		for range 10 {
			x := start(t, s)
			for range 20 {
				x.take(m.message(x))
			}
			y := start(t, s)
			y.taken(y.take(api.Message{Kind: api.Reset, Pairs: x.v.Pairs(), Cursor: x.v.Cursor()}))
			z := start(t, s)
			z.taken(z.take(api.Message{Pairs: x.v.Pairs(), Cursor: x.v.Cursor()}))
			for range 20 {
				msg := m.message(x)
				if e, f, g := x.take(msg), y.take(msg), z.take(msg); e != f || e != g {
					t.Fatalf("Take(%s) = %v, %v, %v", brief(msg), e, f, g)
				}
				if !zset.Same(x.v.Pairs(), y.v.Pairs()) || !zset.Same(x.v.Pairs(), z.v.Pairs()) || x.v.Cursor() != y.v.Cursor() || x.v.Cursor() != z.v.Cursor() {
					t.Fatalf("%s, %s, %s", brief(x.v.Pairs()), brief(y.v.Pairs()), brief(z.v.Pairs()))
				}
			}
		}
	}
}

// TestBehindAResetItIsThatOnes leaves nothing of what the view held.
func TestBehindAResetItIsThatOnes(t *testing.T) {
	m := mixer(7)
	for _, s := range schemas() {
		x := start(t, s)
		for range 30 {
			x.take(m.message(x))
			l, e := zset.Collect(s, m.pairs(s, 4)...)
			if e != api.OK {
				continue
			}
			x.taken(x.reset(l...))
			if !zset.Same(x.v.Pairs(), l) {
				t.Fatalf("%s; want %s", brief(x.v.Pairs()), brief(l))
			}
			if w, e := zset.Neg(s, l); e == api.OK {
				x.taken(x.change(w...))
				if len(x.v.Pairs()) != 0 {
					t.Fatalf("%s is left", brief(x.v.Pairs()))
				}
			}
		}
	}
}

// TestMessagesPutTogether takes changes one by one, and their sum at once.
func TestMessagesPutTogether(t *testing.T) {
	m := mixer(3)
	for range 100 {
		x, y := start(t, example), start(t, example)
		var sum []api.Pair
		for range 6 {
			l, e := zset.Collect(example, m.pairs(example, 3)...)
			if e != api.OK {
				continue
			}
			if next, e := zset.Sum(example, sum, l); e == api.OK && x.change(l...) == api.OK {
				sum = next
			}
		}
		y.taken(y.take(api.Message{Pairs: sum, Cursor: x.v.Cursor()}))
		if !zset.Same(x.v.Pairs(), y.v.Pairs()) {
			t.Fatalf("%s; %s", brief(x.v.Pairs()), brief(y.v.Pairs()))
		}
	}
}

// The rules of all layers.

// spoil changes all of a list, and what lies behind it and its rows.
func spoil(l []api.Pair) {
	for i := range l {
		r := l[i].Row[:cap(l[i].Row)]
		for k := range r {
			r[k] = api.Cell{Num: 99, Text: "spoilt"}
		}
	}
	l = l[:cap(l)]
	for i := range l {
		l[i] = pair(99, num(99))
	}
}

// TestWhatIsHandedInStays calls all with lists that have more behind their length.
func TestWhatIsHandedInStays(t *testing.T) {
	room := columns(api.Int, api.Text, api.Bool)
	wide := []api.Cell{num(1), text("a"), num(9)}
	l := pairs(api.Pair{Row: wide[:2], Weight: 2}, pair(3, num(2), text("b")), pair(0, num(1), text("z")), api.Pair{})
	keepRoom, keepWide, keepL := slices.Clone(room), slices.Clone(wide), deep(l)
	for kind := range 2 {
		v, e := view.New(room[:2])
		if e != api.OK {
			t.Fatal(e)
		}
		at := v.Cursor()
		if at.Print != printOf(room[:2]) {
			t.Error(at)
		}
		for i, want := range []api.Errno{api.OK, api.OK, api.OK, api.ErrArg, api.ErrArg} {
			if e := v.Take(api.Message{Kind: kind, Pairs: l[:i], Cursor: at}); e != want {
				t.Errorf("Take(%v) = %v; want %v", l[:i], e, want)
			}
		}
		want := l[:2]
		if kind == api.Change {
			want = pairs(pair(4, num(1), text("a")), pair(3, num(2), text("b")))
		}
		if !zset.Same(v.Pairs(), want) {
			t.Error(v.Pairs())
		}
		spoil(v.Pairs())
	}
	if !slices.Equal(room, keepRoom) || !slices.Equal(wide, keepWide) || !zset.Same(l, keepL) {
		t.Errorf("what was handed in became %v, %v, %v", room, wide, l)
	}
}

// TestWhatWasHandedInMayBeChanged changes all of it when the call has answered.
func TestWhatWasHandedInMayBeChanged(t *testing.T) {
	s := slices.Clone(example)
	v, _ := view.New(s)
	x := &both{t, v, modelOf(example)}
	for i := range s {
		s[i] = api.Column{Name: "spoilt", Kind: 99}
	}
	x.check()
	for i := range 8 {
		l := pairs(p(2, 1, "a"), p(1, 2, "b"))
		if i == 4 {
			l = nil
		}
		m := api.Message{Kind: i / 2 % 2, Pairs: l, Cursor: x.on(1, 1)}
		m.Pairs = deep(l)
		want := x.m.take(m)
		m.Pairs = l
		if e := x.v.Take(m); e != want || e != api.OK {
			t.Fatal(e)
		}
		spoil(l)
		x.check()
		x.taken(x.change(p(1, 7, "z")))
	}
}

// TestWhatIsAnsweredIsApart changes answers, which are the caller's.
func TestWhatIsAnsweredIsApart(t *testing.T) {
	x := start(t, example)
	for i := range 6 {
		if i%2 == 0 {
			x.taken(x.change(p(1, 1, "a"), p(1, 2, "b")))
		} else {
			x.taken(x.reset(p(1, 1, "a"), p(1, 3, "c")))
		}
		a, b := x.v.Pairs(), x.v.Pairs()
		spoil(a)
		if !zset.Same(b, x.m.set) {
			t.Fatal("two answers share a part")
		}
		x.check()
		spoil(b)
		x.check()
	}
	x.taken(x.reset())
	spoil(append(x.v.Pairs(), p(1, 1, "a")))
	x.check()
}

func TestTwoViewsAreApart(t *testing.T) {
	x, y := start(t, example), start(t, example)
	l := pairs(p(1, 1, "a"))
	m := api.Message{Kind: api.Reset, Pairs: l, Cursor: x.on(1, 1)}
	x.taken(x.take(m))
	y.check()
	y.taken(y.take(m), y.change(p(1, 1, "a")), y.change(p(1, 2, "b")))
	x.check()
	x.taken(x.change(p(5, 1, "a")))
	y.check()
	x.is("6 1,61", 2, 11, 2)
	y.is("2 1,61; 1 2,62", 3, 21, 3)
}

// TestManyAtATime has views of one schema and of the same messages, each used by one goroutine.
func TestManyAtATime(t *testing.T) {
	var messages []api.Message
	m := mixer(5)
	x := start(t, example)
	for range 60 {
		msg := m.message(x)
		x.take(msg)
		messages = append(messages, msg)
	}
	var wait sync.WaitGroup
	for range 8 {
		wait.Go(func() {
			v, e := view.New(example)
			for _, msg := range messages {
				v.Take(msg)
			}
			if e != api.OK || !zset.Same(v.Pairs(), x.m.set) || v.Cursor() != x.m.at || v.Taken() != x.m.taken {
				t.Errorf("%v, %v, %d, %v", v.Pairs(), v.Cursor(), v.Taken(), e)
			}
		})
	}
	wait.Wait()
}
