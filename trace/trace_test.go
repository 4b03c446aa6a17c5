package trace_test

import (
	"bytes"
	"fmt"
	"hash/crc32"
	"math"
	"slices"
	"strings"
	"sync"
	"testing"

	"deckle/api"
	"deckle/batch"
	"deckle/cell"
	"deckle/entry"
	"deckle/frame"
	"deckle/schema"
	"deckle/trace"
	"deckle/wire"
	"deckle/zset"
)

const (
	top      = math.MaxInt64
	bottom   = math.MinInt64
	greatest = 281474976710656 // of an entry's numbers
	most     = 4096            // entries
)

// example is the schema of the document's own examples.
var example = []api.Column{{Name: "id", Kind: api.Int}, {Name: "name", Kind: api.Text}}

// columns are such of those kinds, named a, b, c and so on.
func columns(kinds ...int) []api.Column {
	var s []api.Column
	for i, kind := range kinds {
		s = append(s, api.Column{Name: string(rune('a' + i)), Kind: kind})
	}
	return s
}

func num(x uint64) api.Cell { return api.Cell{Num: x} }

func text(s string) api.Cell { return api.Cell{Text: s} }

func pair(w int64, l ...api.Cell) api.Pair { return api.Pair{Row: l, Weight: w} }

func pairs(l ...api.Pair) []api.Pair { return l }

// set is the one of a text, of the example's schema.
func set(x string) []api.Pair { return setOf(example, x) }

func setOf(s []api.Column, x string) []api.Pair {
	a, e := zset.Read(s, x)
	if e != api.OK {
		panic(x + ": " + e.Error())
	}
	return a
}

func delta(seq int64, a []api.Pair) api.Entry { return api.Entry{Kind: api.Delta, Seq: seq, Pairs: a} }

func snapshot(seq int64, a []api.Pair) api.Entry {
	return api.Entry{Kind: api.Snapshot, Seq: seq, Pairs: a}
}

// of is a trace of the example's schema.
func of(l ...api.Entry) api.Trace { return api.Trace{Schema: example, Entries: l} }

// many are n pairs of one number each, in order, from that one on.
func many(from, n int) []api.Pair {
	var l []api.Pair
	for i := range n {
		l = append(l, pair(1, num(uint64(from+i))))
	}
	return l
}

// empty are n Deltas without pairs, from the number 1 on.
func empty(n int) []api.Entry {
	var l []api.Entry
	for i := range n {
		l = append(l, delta(int64(i+1), nil))
	}
	return l
}

// deep is a copy that shares nothing.
func deep(t api.Trace) api.Trace {
	t.Schema, t.Entries = slices.Clone(t.Schema), slices.Clone(t.Entries)
	for i := range t.Entries {
		l := slices.Clone(t.Entries[i].Pairs)
		for k, p := range l {
			l[k].Row = slices.Clone(p.Row)
		}
		t.Entries[i].Pairs = l
	}
	return t
}

// brief is a text of x that can be told whole, if x is small.
func brief(x any) string {
	s := fmt.Sprint(x)
	if len(s) > 300 {
		return s[:300] + ".."
	}
	return s
}

// wrongSchemas are such as may not be, and what layer 5 says of them.
func wrongSchemas() map[api.Errno][]api.Column {
	return map[api.Errno][]api.Column{
		api.ErrNone:  {},
		api.ErrLimit: make([]api.Column, 9),
		api.ErrLong:  {{Name: strings.Repeat("a", 33)}},
		api.ErrArg:   {{Name: "A"}},
		api.ErrKind:  {{Name: "a", Kind: 6}},
	}
}

// schemas are some with each kind, and with as many columns, and as long a name, as may be.
func schemas() [][]api.Column {
	return [][]api.Column{
		columns(api.Int), columns(api.Uint), columns(api.Bool), columns(api.Bytes), columns(api.Text), columns(api.Float),
		example, columns(api.Bool, api.Text, api.Float),
		{{Name: strings.Repeat("_", 32), Kind: api.Text}},
		columns(api.Int, api.Uint, api.Bool, api.Bytes, api.Text, api.Float, api.Int, api.Text),
	}
}

// The document's words, told anew. (What is wrong with an entry is layer 12's, with a schema layer 5's.)

// numberOf are the bytes of a number that isn't below 0.
func numberOf(x int64) []byte {
	var b []byte
	for x >= 128 {
		b = append(b, byte(x%128)+128)
		x /= 128
	}
	return append(b, byte(x))
}

// sumOf are the bytes of a sum.
func sumOf(b []byte) []byte {
	sum := checksum(b)
	return []byte{byte(sum), byte(sum >> 8), byte(sum >> 16), byte(sum >> 24)}
}

func checksum(b []byte) uint32 { return crc32.Checksum(b, crc32.MakeTable(crc32.Castagnoli)) }

// framedOf are the bytes of a frame.
func framedOf(kind byte, payload []byte) []byte {
	b := append([]byte{kind}, numberOf(int64(len(payload)))...)
	b = append(b, payload...)
	return append(b, sumOf(b)...)
}

func columnsOf(s []api.Column) []byte {
	b := []byte{byte(len(s))}
	for _, c := range s {
		b = append(b, byte(len(c.Name)))
		b = append(b, c.Name...)
		b = append(b, byte(c.Kind))
	}
	return b
}

func headOf(s []api.Column) []byte { return append([]byte("DKL1"), framedOf(0, columnsOf(s))...) }

// frameOf is an entry's, which may be one that there can't be but for its pairs.
func frameOf(s []api.Column, e api.Entry) []byte {
	b, wrong := batch.Write(s, e.Pairs)
	if wrong != api.OK {
		panic(wrong)
	}
	kind := byte(2)
	if e.Kind == api.Snapshot {
		kind = 1
	}
	return framedOf(kind, append(numberOf(e.Seq), b...))
}

// fileOf are the head, and the entries' frames, whether they follow or not.
func fileOf(s []api.Column, l ...api.Entry) []byte {
	b := headOf(s)
	for _, e := range l {
		b = append(b, frameOf(s, e)...)
	}
	return b
}

// encoded is what Encode and View answer.
type encoded struct {
	b    []byte
	n    int
	seq  int64
	view []api.Pair
	e    api.Errno
}

func encodeOf(t api.Trace) encoded {
	if wrong := schema.Check(t.Schema); wrong != api.OK {
		return encoded{e: wrong}
	}
	all := encoded{b: headOf(t.Schema)}
	for i, e := range t.Entries {
		if i == most {
			return encoded{n: i, e: api.ErrLimit}
		}
		seq, view, wrong := entry.Apply(t.Schema, all.seq, all.view, e)
		if wrong != api.OK {
			return encoded{n: i, e: wrong}
		}
		b := frameOf(t.Schema, e)
		if len(b) > 1+3+1048576+4 {
			return encoded{n: i, e: api.ErrLimit}
		}
		all = encoded{append(all.b, b...), i + 1, seq, view, api.OK}
	}
	return all
}

// nextOf is the frame that b begins with: its kind, its payload, how many bytes it has.
func nextOf(b []byte) (int, []byte, int, api.Errno) {
	if len(b) == 0 {
		return 0, nil, 0, api.ErrShort
	}
	if b[0] > 2 {
		return 0, nil, 0, api.ErrKind
	}
	payload, n, wrong := wire.GetBytes(b[1:], 1048576)
	if wrong != api.OK {
		return 0, nil, 0, wrong
	}
	if len(b) < 1+n+4 {
		return 0, nil, 0, api.ErrShort
	}
	if string(b[1+n:1+n+4]) != string(sumOf(b[:1+n])) {
		return 0, nil, 0, api.ErrSum
	}
	return int(b[0]), payload, 1 + n + 4, api.OK
}

// decoded is what Decode and Marks answer.
type decoded struct {
	t     api.Trace
	marks []api.Cursor
	at    int
	e     api.Errno
}

func decodeOf(b []byte) decoded {
	if len(b) < 4 || string(b[:4]) != "\x44\x4b\x4c\x31" {
		return decoded{at: 0, e: api.ErrForm}
	}
	kind, payload, n, wrong := nextOf(b[4:])
	if wrong == api.OK && kind != 0 {
		wrong = api.ErrKind
	}
	if wrong != api.OK {
		return decoded{at: 4, e: wrong}
	}
	s, _, wrong := schema.Read(payload)
	if wrong != api.OK {
		return decoded{at: 4, e: wrong}
	}
	mark := api.Cursor{Seq: 0, Offset: int64(4 + n), Print: checksum(payload)}
	all := decoded{api.Trace{Schema: s}, []api.Cursor{mark}, 4 + n, api.OK}
	var view []api.Pair
	for all.at < len(b) {
		if len(all.t.Entries) == most {
			return decoded{at: all.at, e: api.ErrLimit}
		}
		kind, payload, n, wrong := nextOf(b[all.at:])
		if wrong != api.OK {
			return decoded{at: all.at, e: wrong}
		}
		if kind == 0 {
			return decoded{at: all.at, e: api.ErrKind}
		}
		e, wrong := entry.Read(s, kind, payload)
		if wrong != api.OK {
			return decoded{at: all.at, e: wrong}
		}
		mark.Seq, view, wrong = entry.Apply(s, mark.Seq, view, e)
		if wrong != api.OK {
			return decoded{at: all.at, e: wrong}
		}
		all.at += n
		mark.Offset += int64(n)
		all.t.Entries, all.marks = append(all.t.Entries, e), append(all.marks, mark)
	}
	return all
}

func sameOf(a, b api.Trace) bool {
	if !slices.Equal(a.Schema, b.Schema) || len(a.Entries) != len(b.Entries) {
		return false
	}
	for i, x := range a.Entries {
		y := b.Entries[i]
		if x.Kind != y.Kind || x.Seq != y.Seq || len(x.Pairs) != len(y.Pairs) {
			return false
		}
		for k, p := range x.Pairs {
			if p.Weight != y.Pairs[k].Weight || !slices.Equal(p.Row, y.Pairs[k].Row) {
				return false
			}
		}
	}
	return true
}

// encode is Encode, and View, whose errors are the same.
func encode(t *testing.T, x api.Trace) encoded {
	t.Helper()
	b, n, e := trace.Encode(x)
	seq, view, viewE := trace.View(x)
	if viewE != e {
		t.Fatalf("View(%s): %v; Encode: %v", brief(x), viewE, e)
	}
	return encoded{b, n, seq, view, e}
}

func (a encoded) same(b encoded) bool {
	return bytes.Equal(a.b, b.b) && a.n == b.n && a.seq == b.seq && zset.Same(a.view, b.view) && a.e == b.e
}

// checkEncode holds Encode and View against the document's words.
func checkEncode(t *testing.T, x api.Trace) encoded {
	t.Helper()
	got, want := encode(t, x), encodeOf(x)
	if !got.same(want) {
		t.Fatalf("Encode and View of %s: %s; want %s", brief(x), brief(got), brief(want))
	}
	return got
}

// refused holds Encode and View of what is no trace against the number of the entry that is wrong, and why.
func refused(t *testing.T, x api.Trace, n int, e api.Errno) {
	t.Helper()
	if got := encode(t, x); !got.same(encoded{n: n, e: e}) {
		t.Errorf("Encode and View of %s: %s; want %d, %v", brief(x), brief(got), n, e)
	}
	checkEncode(t, x)
}

// decode is Decode, and Marks, whose places and errors are the same.
func decode(t *testing.T, b []byte) decoded {
	t.Helper()
	x, at, e := trace.Decode(b)
	marks, marksAt, marksE := trace.Marks(b)
	if marksAt != at || marksE != e {
		t.Fatalf("Marks(%s): %d, %v; Decode: %d, %v", brief(b), marksAt, marksE, at, e)
	}
	return decoded{x, marks, at, e}
}

func (a decoded) same(b decoded) bool {
	return sameOf(a.t, b.t) && slices.Equal(a.marks, b.marks) && a.at == b.at && a.e == b.e
}

// checkDecode holds Decode and Marks against the document's words, and what is decoded against its bytes.
func checkDecode(t *testing.T, b []byte) decoded {
	t.Helper()
	got, want := decode(t, b), decodeOf(b)
	if !got.same(want) {
		t.Fatalf("Decode and Marks of %s: %s; want %s", brief(b), brief(got), brief(want))
	}
	if got.e != api.OK {
		return got
	}
	if again, n, e := trace.Encode(got.t); !bytes.Equal(again, b) || n != len(got.t.Entries) || e != api.OK {
		t.Fatalf("Decode(%s) = %s, whose bytes are %s, %d, %v", brief(b), brief(got.t), brief(again), n, e)
	}
	return got
}

// wrongAt holds Decode and Marks of what is no file against the place where it is wrong, and why.
func wrongAt(t *testing.T, b []byte, at int, e api.Errno) {
	t.Helper()
	if got := decode(t, b); !got.same(decoded{at: at, e: e}) {
		t.Errorf("Decode and Marks of %s: %s; want %d, %v", brief(b), brief(got), at, e)
	}
	checkDecode(t, b)
}

// Traces to be tried.

// mixer makes the same numbers at each run, that look like any.
type mixer uint32

func (m *mixer) below(n int) int {
	*m ^= *m << 13
	*m ^= *m >> 17
	*m ^= *m << 5
	return int(uint32(*m)>>3) % n
}

// cellsOf are such of a kind as may be.
func cellsOf(kind int) []api.Cell {
	switch kind {
	case api.Int:
		return []api.Cell{cell.Int(bottom), cell.Int(-65), cell.Int(-1), num(0), num(1), num(64), cell.Int(top)}
	case api.Uint:
		return []api.Cell{num(0), num(1), num(127), num(128), num(1 << 63), num(math.MaxUint64)}
	case api.Bool:
		return []api.Cell{num(0), num(1)}
	case api.Bytes:
		return []api.Cell{text(""), text("\x00"), text("a"), text("ab"), text("b"), text("\xff"), text(strings.Repeat("\xff", 256))}
	case api.Text:
		return []api.Cell{text(""), text("\x00"), text("a"), text("ab"), text("b"), text("ä"), text(strings.Repeat("ä", 128))}
	}
	return []api.Cell{num(math.MaxUint64), num(0xfff0000000000000), num(1 << 63), num(0), num(0x3ff0000000000000), num(0x7ff8000000000001)}
}

// set is one of up to n pairs whose weights are small.
func (m *mixer) set(s []api.Column, n int) []api.Pair {
	var l []api.Pair
	for range n {
		var r []api.Cell
		for _, c := range s {
			from := cellsOf(c.Kind)
			r = append(r, from[m.below(len(from))])
		}
		l = append(l, pair(int64(m.below(7)-3), r...))
	}
	a, e := zset.Collect(s, l...)
	if e != api.OK {
		panic(e)
	}
	return a
}

// trace is one of n entries.
func (m *mixer) trace(s []api.Column, n int) api.Trace {
	t := api.Trace{Schema: s}
	seq, view := int64(0), []api.Pair(nil)
	for range n {
		e := delta(seq+1, m.set(s, m.below(5)))
		if m.below(3) == 0 {
			e = snapshot(seq, view)
		}
		var wrong api.Errno
		if seq, view, wrong = entry.Apply(s, seq, view, e); wrong != api.OK {
			panic(wrong)
		}
		t.Entries = append(t.Entries, e)
	}
	return t
}

// traces are some of each schema, without entries, and with few and many.
func traces() []api.Trace {
	m := mixer(2463534242)
	var l []api.Trace
	for _, s := range schemas() {
		for _, n := range []int{0, 1, 1, 1, 2, 2, 2, 3, 5, 8, 130} {
			l = append(l, m.trace(s, n))
		}
		l = append(l, api.Trace{Schema: s, Entries: empty(3)})
	}
	return l
}

// small is a trace of few bytes that has both kinds, and rows that come and go.
func small() api.Trace {
	return of(snapshot(0, nil), delta(1, set("2 1,61; 1 2,62")), delta(2, set("-2 1,61")), snapshot(2, set("1 2,62")), delta(3, nil))
}

// heavy are 600 rows of one number and seven texts, whose bytes are more than a payload's may be.
func heavy() ([]api.Column, []api.Pair) {
	s := columns(api.Uint, api.Bytes, api.Bytes, api.Bytes, api.Bytes, api.Bytes, api.Bytes, api.Bytes)
	var a []api.Pair
	for i := range 600 {
		r := []api.Cell{num(uint64(i))}
		for range 7 {
			// No two that stand one behind the other begin alike, so a text has 259 bytes.
			r = append(r, text(string(rune('a'+i%2))+strings.Repeat("x", 255)))
		}
		a = append(a, pair(1, r...))
	}
	return s, a
}

// fitting is such a set whose bytes, and one for a number, are as many as a payload's may be.
func fitting() ([]api.Column, []api.Pair) {
	s, a := heavy()
	a = a[:578]
	over := 2 + 578*(1+7*259+1) - (1048576 - 1)
	for k := 1; over > 0; k++ {
		cut := min(over, 128) // a length from 128 on has two bytes
		last := &a[577].Row[k]
		last.Text = last.Text[:256-cut]
		over -= cut
	}
	return s, a
}

// P13.1

func TestHead(t *testing.T) {
	b, e := trace.Head([]api.Column{{Name: "id", Kind: api.Int}})
	body := []byte{0, 5, 1, 2, 105, 100, 0}
	want := slices.Concat([]byte{68, 75, 76, 49}, body, sumOf(body))
	if e != api.OK || !bytes.Equal(b, want) {
		t.Errorf("Head of id:int = %v, %v; want %v", b, e, want)
	}
	for _, s := range schemas() {
		if b, e := trace.Head(s); e != api.OK || !bytes.Equal(b, headOf(s)) {
			t.Errorf("Head(%v) = %v, %v; want %v", s, b, e, headOf(s))
		}
	}
	for want, s := range wrongSchemas() {
		if b, e := trace.Head(s); e != want || len(b) != 0 {
			t.Errorf("Head(%v) = %v, %v; want %v", s, b, e, want)
		}
	}
	if b, e := trace.Head(nil); e != api.ErrNone || len(b) != 0 {
		t.Errorf("Head(nil) = %v, %v", b, e)
	}
}

func TestEncodeOfFew(t *testing.T) {
	head := headOf(example)
	first := framedOf(2, []byte("\x01\x02\x02\x02\x00\x01a\x00\x01b\x04\x02"))
	second := framedOf(2, []byte("\x02\x01\x02\x00\x01a\x03"))
	last := framedOf(1, []byte("\x02\x01\x04\x00\x01b\x02"))
	for i, c := range []struct {
		t    api.Trace
		want encoded
	}{
		{of(), encoded{b: head}},
		{of([]api.Entry{}...), encoded{b: head}},
		{of(snapshot(0, nil)), encoded{slices.Concat(head, framedOf(1, []byte{0, 0})), 1, 0, nil, api.OK}},
		{of(snapshot(0, nil), snapshot(0, pairs())), encoded{slices.Concat(head, framedOf(1, []byte{0, 0}), framedOf(1, []byte{0, 0})), 2, 0, nil, api.OK}},
		{of(delta(1, nil)), encoded{slices.Concat(head, framedOf(2, []byte{1, 0})), 1, 1, nil, api.OK}},
		{of(delta(1, set("2 1,61; 1 2,62"))), encoded{slices.Concat(head, first), 1, 1, set("2 1,61; 1 2,62"), api.OK}},
		{of(delta(1, set("2 1,61; 1 2,62")), delta(2, set("-2 1,61"))), encoded{slices.Concat(head, first, second), 2, 2, set("1 2,62"), api.OK}},
		{of(delta(1, set("2 1,61; 1 2,62")), delta(2, set("-2 1,61")), snapshot(2, set("1 2,62"))), encoded{slices.Concat(head, first, second, last), 3, 2, set("1 2,62"), api.OK}},
	} {
		if got := encode(t, c.t); !got.same(c.want) {
			t.Errorf("%d: Encode and View: %v; want %v", i, got, c.want)
		}
		checkEncode(t, c.t)
	}
}

func TestEncodeOfAll(t *testing.T) {
	for _, x := range traces() {
		if got := checkEncode(t, x); got.e != api.OK || got.n != len(x.Entries) {
			t.Fatalf("%s: %d, %v", brief(x), got.n, got.e)
		}
	}
}

// TestViewIsTheSumOfAllDeltas holds it against one Collect of them all.
func TestViewIsTheSumOfAllDeltas(t *testing.T) {
	for _, x := range traces() {
		var all []api.Pair
		seq := int64(0)
		for _, e := range x.Entries {
			if e.Kind == api.Delta {
				all = append(all, e.Pairs...)
				seq++
			}
		}
		want, _ := zset.Collect(x.Schema, all...)
		if got, view, e := trace.View(x); e != api.OK || got != seq || !zset.Same(view, want) {
			t.Fatalf("View(%s) = %d, %s, %v; want %d, %s", brief(x), got, brief(view), e, seq, brief(want))
		}
	}
}

// TestAWrongSchemaIsToldFirst, ahead of entries that are wrong, and too many.
func TestAWrongSchemaIsToldFirst(t *testing.T) {
	for want, s := range wrongSchemas() {
		for _, l := range [][]api.Entry{nil, {{Kind: 7}}, {delta(1, nil)}, {snapshot(0, make([]api.Pair, 1025))}, empty(most + 1)} {
			refused(t, api.Trace{Schema: s, Entries: l}, 0, want)
		}
	}
	refused(t, api.Trace{}, 0, api.ErrNone)
}

// wrongEntries are such as don't follow the number 1 and the view 2 1,61, and what layer 12 says of them.
func wrongEntries() []struct {
	e    api.Entry
	want api.Errno
} {
	v := set("2 1,61")
	long := strings.Repeat("a", 257)
	return []struct {
		e    api.Entry
		want api.Errno
	}{
		{api.Entry{Kind: 2, Seq: 2}, api.ErrKind}, {api.Entry{Kind: -1, Seq: 2}, api.ErrKind},
		{api.Entry{Kind: top, Seq: -1}, api.ErrKind}, {api.Entry{Kind: bottom, Pairs: make([]api.Pair, 1025)}, api.ErrKind},
		{delta(-1, nil), api.ErrRange}, {delta(greatest+1, nil), api.ErrRange}, {snapshot(top, v), api.ErrRange}, {snapshot(bottom, v), api.ErrRange},
		{delta(2, make([]api.Pair, 1025)), api.ErrLimit}, {snapshot(1, make([]api.Pair, 1025)), api.ErrLimit},
		{delta(2, pairs(pair(0, num(1), text("a")))), api.ErrArg}, {delta(2, pairs(pair(1))), api.ErrArg}, {snapshot(1, make([]api.Pair, 1)), api.ErrArg},
		{delta(2, pairs(pair(1, num(1), text("\xff")))), api.ErrType},
		{delta(2, pairs(pair(1, num(1), text(long)))), api.ErrLong},
		{delta(2, pairs(pair(1, num(1), text("b")), pair(1, num(1), text("a")))), api.ErrOrder},
		{delta(9, pairs(pair(1, num(1), text("b")), pair(1, num(1), text("a")))), api.ErrOrder}, // ahead of the number
		{delta(0, v), api.ErrSeq}, {delta(1, v), api.ErrSeq}, {delta(3, v), api.ErrSeq}, {delta(greatest, v), api.ErrSeq},
		{snapshot(0, v), api.ErrSeq}, {snapshot(2, v), api.ErrSeq}, {snapshot(2, nil), api.ErrSeq},
		{delta(2, set("9223372036854775806 1,61")), api.ErrOver},
		{snapshot(1, nil), api.ErrView}, {snapshot(1, set("1 1,61")), api.ErrView}, {snapshot(1, set("2 1,62")), api.ErrView},
		{snapshot(1, set("2 1,61; 1 2,62")), api.ErrView}, {snapshot(1, set("-2 1,61")), api.ErrView},
	}
}

// TestTheFirstWrongEntryIsTold, with others behind it that are wrong, too.
func TestTheFirstWrongEntryIsTold(t *testing.T) {
	ahead := []api.Entry{snapshot(0, nil), delta(1, set("2 1,61")), snapshot(1, set("2 1,61"))}
	for _, c := range wrongEntries() {
		for _, behind := range [][]api.Entry{nil, {delta(2, nil)}, {{Kind: 9}}, empty(most), {c.e}} {
			refused(t, of(slices.Concat(ahead, []api.Entry{c.e}, behind)...), 3, c.want)
			refused(t, of(slices.Concat(ahead[:2], []api.Entry{c.e}, behind)...), 2, c.want)
		}
	}
	refused(t, of(delta(0, nil)), 0, api.ErrSeq)
	refused(t, of(delta(2, nil)), 0, api.ErrSeq)
	refused(t, of(snapshot(1, nil)), 0, api.ErrSeq)
	refused(t, of(snapshot(0, set("1 1,61"))), 0, api.ErrView)
	refused(t, of(delta(1, set("1 1,61")), snapshot(0, nil)), 1, api.ErrSeq)
}

// TestEncodeOfAsManyEntriesAsMayBe goes beyond by one, and by more.
func TestEncodeOfAsManyEntriesAsMayBe(t *testing.T) {
	all := empty(most)
	if got := checkEncode(t, of(all...)); got.e != api.OK || got.n != most || got.seq != most {
		t.Error(got.n, got.seq, got.e)
	}
	refused(t, of(append(slices.Clip(all), delta(most+1, nil))...), most, api.ErrLimit)
	refused(t, of(append(slices.Clip(all), snapshot(most, nil))...), most, api.ErrLimit)
	refused(t, of(append(slices.Clip(all), api.Entry{Kind: 7})...), most, api.ErrLimit) // ahead of what it has wrong
	refused(t, of(empty(2*most)...), most, api.ErrLimit)
	refused(t, of(make([]api.Entry, 2*most)...), 0, api.ErrSeq) // an entry ahead is told
	wrong := empty(most + 1)
	wrong[most-1].Seq = 7
	refused(t, of(wrong...), most-1, api.ErrSeq)
	// Snapshots are entries, too.
	snaps := make([]api.Entry, most)
	for i := range snaps {
		snaps[i] = snapshot(0, nil)
	}
	if got := checkEncode(t, of(snaps...)); got.e != api.OK || got.n != most || got.seq != 0 {
		t.Error(got.n, got.seq, got.e)
	}
	refused(t, of(append(snaps, snapshot(0, nil))...), most, api.ErrLimit)
}

// TestAViewOfAsManyRowsAsMayBe fills it up, and goes beyond.
func TestAViewOfAsManyRowsAsMayBe(t *testing.T) {
	x := api.Trace{Schema: columns(api.Uint), Entries: []api.Entry{delta(1, many(0, 1000)), delta(2, many(1000, 24)), snapshot(2, many(0, 1024))}}
	if got := checkEncode(t, x); got.e != api.OK || len(got.view) != 1024 {
		t.Error(len(got.view), got.e)
	}
	x.Entries = append(x.Entries, delta(3, many(1024, 1)))
	refused(t, x, 3, api.ErrLimit)
}

// TestPayloadsOfAsManyBytesAsMayBe writes and reads one, and none of more.
func TestPayloadsOfAsManyBytesAsMayBe(t *testing.T) {
	s, a := fitting()
	x := api.Trace{Schema: s, Entries: []api.Entry{delta(1, a), snapshot(1, a)}}
	got := checkEncode(t, x)
	if got.e != api.OK || len(got.b) != len(headOf(s))+2*frame.Size(1048576) {
		t.Fatal(len(got.b), got.e)
	}
	if y := checkDecode(t, got.b); y.e != api.OK || !sameOf(y.t, x) {
		t.Error(y.at, y.e)
	}
	s, a = heavy()
	refused(t, api.Trace{Schema: s, Entries: []api.Entry{delta(1, a)}}, 0, api.ErrLimit)
	refused(t, api.Trace{Schema: s, Entries: []api.Entry{delta(1, nil), delta(2, a), {Kind: 9}}}, 1, api.ErrLimit)
	// Each of two has fewer bytes, but not all that there is then.
	x.Entries = []api.Entry{delta(1, a[:300]), delta(2, a[300:])}
	if got := checkEncode(t, x); got.e != api.OK {
		t.Error(got.e)
	}
	refused(t, api.Trace{Schema: s, Entries: append(x.Entries, snapshot(2, a))}, 2, api.ErrLimit)
	// What doesn't follow goes ahead of what can't be written.
	refused(t, api.Trace{Schema: s, Entries: []api.Entry{delta(2, a)}}, 0, api.ErrSeq)
	refused(t, api.Trace{Schema: s, Entries: []api.Entry{snapshot(0, a)}}, 0, api.ErrView)
}

// P13.2

func TestDecodeOfAWrongHead(t *testing.T) {
	whole := fileOf(example, delta(1, nil))
	framed := whole[4:]
	for _, begin := range []string{"", "D", "DK", "DKL", "DKL2", "DKL0", "dkl1", "DKL", "1LKD", "\x00DKL1", "DKLDKL1", "DKL\xb1"} {
		wrongAt(t, []byte(begin), 0, api.ErrForm)
		wrongAt(t, append([]byte(begin), framed...), 0, api.ErrForm)
	}
	wrongAt(t, nil, 0, api.ErrForm)
	for i := range 4 {
		wrongAt(t, whole[i+1:], 0, api.ErrForm)
	}
	for i, c := range []struct {
		b    []byte
		want api.Errno
	}{
		// Next's errors.
		{nil, api.ErrShort}, {[]byte{0}, api.ErrShort}, {[]byte{3}, api.ErrKind}, {[]byte{255, 255}, api.ErrKind},
		{[]byte{0, 128, 0}, api.ErrForm}, {[]byte{0, 129, 128, 64}, api.ErrLimit}, {[]byte("\x00\xff\xff\xff\xff\xff\xff\xff\xff\xff\x02"), api.ErrLong},
		{framed[:len(headOf(example))-4-1], api.ErrShort}, {[]byte{0, 0, 1, 2, 3, 4}, api.ErrSum}, {[]byte{2, 0, 1, 2, 3, 4}, api.ErrSum},
		{[]byte("DKL1"), api.ErrKind},
		// Another kind, ahead of what its payload has wrong.
		{framedOf(2, columnsOf(example)), api.ErrKind}, {framedOf(1, columnsOf(example)), api.ErrKind}, {framedOf(1, nil), api.ErrKind},
		{frameOf(example, delta(1, nil)), api.ErrKind}, {framedOf(3, columnsOf(example)), api.ErrKind},
		// What is no schema.
		{framedOf(0, nil), api.ErrShort}, {framedOf(0, []byte{0}), api.ErrNone}, {framedOf(0, []byte{9}), api.ErrRange}, {framedOf(0, []byte{128, 0}), api.ErrForm},
		{framedOf(0, []byte("\x01\x01A\x00")), api.ErrArg}, {framedOf(0, []byte("\x02\x01a\x00\x01a\x00")), api.ErrArg}, {framedOf(0, []byte("\x01\x01a\x06")), api.ErrKind},
		{framedOf(0, []byte("\x01\x21"+strings.Repeat("a", 33)+"\x00")), api.ErrLimit}, {framedOf(0, []byte("\x01\x01a")), api.ErrShort},
		{framedOf(0, []byte("\x01\x01a\x00\x00")), api.ErrLong}, {framedOf(0, append(columnsOf(example), 0)), api.ErrLong},
	} {
		b := append([]byte("DKL1"), c.b...)
		if got := decode(t, b); !got.same(decoded{at: 4, e: c.want}) {
			t.Errorf("%d: %v; want 4, %v", i, got, c.want)
		}
		checkDecode(t, b)
		if c.want != api.ErrShort {
			wrongAt(t, append(b, frameOf(example, delta(5, nil))...), 4, c.want) // what stands behind isn't looked for
		}
	}
}

// TestDecodeTellsTheFirstWrongFrame puts wrong ones behind good ones, and others behind these.
func TestDecodeTellsTheFirstWrongFrame(t *testing.T) {
	good := small()
	over := frameOf(example, delta(4, set("9223372036854775807 2,62")))
	for n := range len(good.Entries) + 1 {
		ahead := fileOf(example, good.Entries[:n]...)
		for i, c := range []struct {
			b    []byte
			want api.Errno
		}{
			// Next's errors.
			{[]byte{3}, api.ErrKind}, {[]byte{0}, api.ErrShort}, {[]byte{2, 128, 0}, api.ErrForm}, {[]byte{2, 129, 128, 64}, api.ErrLimit},
			{[]byte("\x01\xff\xff\xff\xff\xff\xff\xff\xff\xff\x02"), api.ErrLong}, {[]byte{2, 1, 0, 1, 2, 3}, api.ErrShort}, {[]byte{2, 2, 1, 0, 1, 2, 3, 4}, api.ErrSum},
			{framedOf(3, []byte{1, 0}), api.ErrKind}, {headOf(example), api.ErrKind}, {[]byte{0, 0, 1, 2, 3, 4}, api.ErrSum},
			// A schema once more, ahead of what its payload is.
			{framedOf(0, columnsOf(example)), api.ErrKind}, {framedOf(0, nil), api.ErrKind}, {framedOf(0, []byte{1, 0}), api.ErrKind},
			// Read's errors.
			{framedOf(2, nil), api.ErrShort}, {framedOf(2, []byte{9}), api.ErrShort}, {framedOf(1, []byte{128, 0, 0}), api.ErrForm}, {framedOf(2, []byte{9, 0, 0}), api.ErrLong},
			{framedOf(2, []byte("\x81\x80\x80\x80\x80\x80\x40\x00")), api.ErrRange}, {framedOf(2, []byte{9, 129, 8}), api.ErrRange},
			{framedOf(2, []byte("\x09\x01\x02\x00\x01a\x00")), api.ErrArg}, {framedOf(2, []byte("\x09\x01\x02\x00\x01\xff\x02")), api.ErrType},
			{framedOf(2, []byte("\x09\x02\x02\x00\x00\x01b\x00\x01a\x02\x02")), api.ErrOrder}, // ahead of the number
			// Apply's.
			{frameOf(example, delta(9, nil)), api.ErrSeq}, {frameOf(example, delta(0, nil)), api.ErrSeq}, {frameOf(example, snapshot(9, nil)), api.ErrSeq},
			{frameOf(example, delta(greatest, nil)), api.ErrSeq},
		} {
			b := slices.Concat(ahead, c.b)
			if got := decode(t, b); !got.same(decoded{at: len(ahead), e: c.want}) {
				t.Errorf("%d frames, and %d: %v; want %d, %v", n, i, got, len(ahead), c.want)
			}
			checkDecode(t, b)
			if c.want != api.ErrShort {
				for _, behind := range [][]byte{{9}, over, fileOf(example, good.Entries...)} {
					wrongAt(t, slices.Concat(b, behind), len(ahead), c.want)
				}
			}
		}
	}
	whole := fileOf(example, good.Entries...)
	wrongAt(t, slices.Concat(whole, over, []byte{9}), len(whole), api.ErrOver)
	wrongAt(t, slices.Concat(whole, frameOf(example, snapshot(3, nil))), len(whole), api.ErrView)
	wrongAt(t, slices.Concat(whole, frameOf(example, snapshot(3, set("1 2,63")))), len(whole), api.ErrView)
	wrongAt(t, slices.Concat(whole, frameOf(example, delta(3, nil))), len(whole), api.ErrSeq)
	wrongAt(t, slices.Concat(whole, whole), len(whole), api.ErrKind)
}

// TestDecodeOfAsManyEntriesAsMayBe goes beyond by one frame, and by bytes that are none.
func TestDecodeOfAsManyEntriesAsMayBe(t *testing.T) {
	s := columns(api.Bool)
	whole := fileOf(s, empty(most)...)
	if got := checkDecode(t, whole); got.e != api.OK || len(got.t.Entries) != most || len(got.marks) != most+1 || got.at != len(whole) {
		t.Error(len(got.t.Entries), len(got.marks), got.at, got.e)
	}
	for _, behind := range [][]byte{
		frameOf(s, delta(most+1, nil)), frameOf(s, snapshot(most, nil)), frameOf(s, delta(7, nil)),
		{0}, {3}, {9, 9, 9}, {2, 128, 0}, {2, 2, 1, 0, 1, 2, 3, 4}, framedOf(0, columnsOf(s)), whole,
	} {
		wrongAt(t, slices.Concat(whole, behind), len(whole), api.ErrLimit)
	}
	// What is wrong ahead is told first.
	cut := len(whole) - len(frameOf(s, delta(most, nil)))
	wrongAt(t, slices.Concat(whole[:cut], frameOf(s, delta(7, nil)), whole), cut, api.ErrSeq)
	turned := slices.Clone(whole)
	turned[len(turned)-1] ^= 1
	wrongAt(t, append(turned, 3), cut, api.ErrSum)
}

// TestDecodeOfCutFiles tells of each cut where the last whole frame ends.
func TestDecodeOfCutFiles(t *testing.T) {
	for _, x := range []api.Trace{small(), of(), {Schema: schemas()[9], Entries: empty(3)}} {
		b := fileOf(x.Schema, x.Entries...)
		marks := checkDecode(t, b).marks
		if len(marks) != len(x.Entries)+1 {
			t.Fatal(marks)
		}
		for cut := range b {
			got := checkDecode(t, b[:cut])
			n, end := 0, 0
			for n < len(marks) && marks[n].Offset <= int64(cut) {
				end = int(marks[n].Offset)
				n++
			}
			want := decoded{at: end, e: api.ErrShort}
			switch {
			case cut < 4:
				want = decoded{at: 0, e: api.ErrForm}
			case n == 0:
				want.at = 4
			case end == cut:
				want = decoded{api.Trace{Schema: x.Schema, Entries: x.Entries[:n-1]}, marks[:n], cut, api.OK}
			}
			if !got.same(want) {
				t.Errorf("of %d bytes: %v; want %v", cut, got, want)
			}
		}
	}
}

// TestDecodeOfChangedBytes puts, takes away and changes bytes of files.
func TestDecodeOfChangedBytes(t *testing.T) {
	b := fileOf(example, small().Entries[1:]...)
	for at := range b {
		checkDecode(t, b[at:])
		checkDecode(t, slices.Delete(slices.Clone(b), at, at+1))
		for c := range 256 {
			changed := slices.Clone(b)
			changed[at] = byte(c)
			checkDecode(t, changed)
			checkDecode(t, slices.Insert(slices.Clone(b), at, byte(c)))
		}
	}
}

// frames are the parts of a file, the head's begin left out: the kinds, the payloads.
func frames(b []byte) ([]byte, [][]byte) {
	var kinds []byte
	var payloads [][]byte
	for b = b[4:]; len(b) > 0; {
		kind, payload, n, e := nextOf(b)
		if e != api.OK {
			panic(e)
		}
		kinds, payloads = append(kinds, byte(kind)), append(payloads, payload)
		b = b[n:]
	}
	return kinds, payloads
}

// join is a file of such parts.
func join(kinds []byte, payloads [][]byte) []byte {
	b := []byte("DKL1")
	for i, kind := range kinds {
		b = append(b, framedOf(kind, payloads[i])...)
	}
	return b
}

// TestDecodeOfChangedFrames changes kinds and payloads, with sums that are right.
func TestDecodeOfChangedFrames(t *testing.T) {
	right := 0
	check := func(kinds []byte, payloads [][]byte) {
		if checkDecode(t, join(kinds, payloads)).e == api.OK {
			right++
		}
	}
	for _, x := range []api.Trace{small(), {Schema: columns(api.Bool, api.Uint), Entries: []api.Entry{delta(1, setOf(columns(api.Bool, api.Uint), "1 false,7; 3 true,1"))}}} {
		kinds, payloads := frames(fileOf(x.Schema, x.Entries...))
		for i := range kinds {
			for kind := range 4 {
				changed := slices.Clone(kinds)
				changed[i] = byte(kind)
				check(changed, payloads)
			}
			check(slices.Delete(slices.Clone(kinds), i, i+1), slices.Delete(slices.Clone(payloads), i, i+1))
			check(slices.Insert(slices.Clone(kinds), i, kinds[i]), slices.Insert(slices.Clone(payloads), i, payloads[i]))
			for at := range payloads[i] {
				changed := slices.Clone(payloads)
				for c := range 256 {
					changed[i] = slices.Clone(payloads[i])
					changed[i][at] = byte(c)
					check(kinds, changed)
					changed[i] = slices.Insert(slices.Clone(payloads[i]), at, byte(c))
					check(kinds, changed)
				}
				changed[i] = slices.Delete(slices.Clone(payloads[i]), at, at+1)
				check(kinds, changed)
			}
		}
	}
	if right < 1000 {
		t.Errorf("only %d were decoded", right)
	}
}

// P13.3

func TestMarks(t *testing.T) {
	b := fileOf(example, small().Entries...)
	stamp := checksum(columnsOf(example))
	want := []api.Cursor{{Seq: 0, Offset: int64(len(headOf(example))), Print: stamp}}
	for i, seq := range []int64{0, 1, 2, 2, 3} {
		want = append(want, api.Cursor{Seq: seq, Offset: int64(len(fileOf(example, small().Entries[:i+1]...))), Print: stamp})
	}
	if l, n, e := trace.Marks(b); e != api.OK || n != len(b) || !slices.Equal(l, want) {
		t.Errorf("Marks = %v, %d, %v; want %v, %d", l, n, e, want, len(b))
	}
	for _, s := range schemas() {
		b := headOf(s)
		want := []api.Cursor{{Offset: int64(len(b)), Print: checksum(columnsOf(s))}}
		if l, n, e := trace.Marks(b); e != api.OK || n != len(b) || !slices.Equal(l, want) {
			t.Errorf("Marks of a head = %v, %d, %v; want %v", l, n, e, want)
		}
	}
}

// TestMarksOfAll cuts files at each place where a subscriber may stand: what is ahead is a file, whose number is told there.
func TestMarksOfAll(t *testing.T) {
	for _, x := range traces() {
		b := fileOf(x.Schema, x.Entries...)
		l := checkDecode(t, b).marks
		if len(l) != len(x.Entries)+1 || l[len(l)-1].Offset != int64(len(b)) {
			t.Fatalf("%s: %v", brief(x), brief(l))
		}
		for i, c := range l {
			if len(l) > 20 && i%17 != 0 {
				continue
			}
			y, n, e := trace.Decode(b[:c.Offset])
			seq, _, viewE := trace.View(y)
			if e != api.OK || viewE != api.OK || int64(n) != c.Offset || len(y.Entries) != i || seq != c.Seq {
				t.Fatalf("up to %v: %s, %d, %v, %d", c, brief(y), n, e, seq)
			}
		}
	}
}

func TestSame(t *testing.T) {
	v := set("2 1,61; 1 2,62")
	floats := columns(api.Float)
	zero := func(x uint64) api.Trace {
		return api.Trace{Schema: floats, Entries: []api.Entry{delta(1, pairs(pair(1, num(x))))}}
	}
	list := []api.Trace{
		{}, of(), {Schema: columns(api.Int, api.Text)}, {Schema: example[:1]}, {Schema: make([]api.Column, 9)},
		of(delta(1, nil)), of(delta(1, nil), delta(2, nil)), of(delta(2, nil), delta(1, nil)), of(snapshot(1, nil)), of(delta(2, nil)), of(delta(1+1<<32, nil)),
		of(api.Entry{Kind: 256, Seq: 1}), of(api.Entry{Kind: 1 << 32, Seq: 1}), of(api.Entry{Kind: -1, Seq: 1}),
		of(delta(1, v)), of(delta(1, v[:1])), of(delta(1, v[1:])), of(delta(1, pairs(v[1], v[0]))), of(snapshot(1, v)), of(delta(2, v)),
		of(delta(1, set("2 1,61; 2 2,62"))), of(delta(1, set("2 1,61; 1 2,63"))), of(delta(1, set("2 1,61; 1 3,62"))),
		of(delta(1, v), delta(2, v)), of(delta(1, v), delta(2, v[:1])), of(delta(1, v[:1]), delta(2, v)), of(delta(1, v), snapshot(1, v)), of(delta(1, v), delta(3, v)),
		of(delta(1, make([]api.Pair, 2))), of(delta(bottom, make([]api.Pair, 2))), of(empty(5000)...), of(empty(5001)...),
		{Schema: columns(api.Int, api.Text), Entries: []api.Entry{delta(1, v)}}, {Entries: []api.Entry{delta(1, v)}},
		zero(0), zero(1 << 63), zero(math.MaxUint64),
	}
	for i, a := range list {
		for k, b := range list {
			if trace.Same(a, deep(b)) != (i == k) {
				t.Errorf("Same(%s, %s) isn't %v", brief(a), brief(b), i == k)
			}
		}
	}
	if !trace.Same(of(delta(1, nil)), of(delta(1, pairs()))) || !trace.Same(api.Trace{}, api.Trace{Schema: []api.Column{}, Entries: []api.Entry{}}) {
		t.Error("lists without elements aren't the same")
	}
	if !trace.Same(of(delta(1, pairs(api.Pair{}))), of(delta(1, pairs(api.Pair{Row: []api.Cell{}})))) {
		t.Error("rows without cells aren't the same")
	}
}

func TestSameOfAll(t *testing.T) {
	l := traces()
	for i, a := range l {
		for _, b := range l[i:] {
			if want := sameOf(a, b); trace.Same(a, b) != want || trace.Same(b, a) != want {
				t.Fatalf("Same(%s, %s) isn't %v", brief(a), brief(b), want)
			}
		}
	}
}

// P13.4

func TestATraceIsDecodedOfItsBytes(t *testing.T) {
	seen := map[string]api.Trace{}
	for _, x := range traces() {
		b, _, e := trace.Encode(x)
		if e != api.OK {
			t.Fatal(e)
		}
		if got := checkDecode(t, b); got.e != api.OK || got.at != len(b) || !sameOf(got.t, x) || !trace.Same(got.t, x) {
			t.Fatalf("Decode of Encode of %s: %s", brief(x), brief(got))
		}
		if other, ok := seen[string(b)]; ok && !sameOf(other, x) {
			t.Fatalf("%s and %s have the same bytes", brief(other), brief(x))
		}
		seen[string(b)] = x
	}
	if len(seen) < 80 {
		t.Errorf("only %d are unlike", len(seen))
	}
}

// turn turns the bit i over, in each byte the lowest one first.
func turn(b []byte, i int) { b[i/8] ^= 1 << (i % 8) }

// TestFilesWithTurnedBitsAreRefused turns up to three bits of each frame, its length left out, and any within 32 of its payload and sum.
func TestFilesWithTurnedBitsAreRefused(t *testing.T) {
	whole := fileOf(example, small().Entries...)
	m := mixer(987654321)
	at := 4
	for at < len(whole) {
		_, payload, n, _ := nextOf(whole[at:])
		body := 8 * (n - 4 - len(payload)) // bits of the kind and the length
		b := slices.Clone(whole)
		check := func(l ...int) {
			t.Helper()
			for _, i := range l {
				turn(b, 8*at+i)
			}
			if got := decode(t, b); got.e != api.ErrSum && got.e != api.ErrKind || !got.same(decoded{at: at, e: got.e}) {
				t.Fatalf("the frame at %d, turned %v: %v", at, l, got)
			}
			for _, i := range l {
				turn(b, 8*at+i)
			}
		}
		var open []int
		for i := range 8 * n {
			if i < 8 || i >= body {
				open = append(open, i)
			}
		}
		for x, i := range open {
			check(i)
			for y, j := range open[:x] {
				check(i, j)
				if y > 0 {
					check(i, j, open[m.below(y)])
				}
			}
		}
		for i := body; i < 8*n; i++ {
			for range 20 {
				row := []int{i}
				for k := i + 1; k < min(i+32, 8*n); k++ {
					if m.below(2) == 0 {
						row = append(row, k)
					}
				}
				check(row...)
			}
		}
		at += n
	}
}

// The rules of all layers.

// TestWhatIsHandedInStays calls all with lists that have more behind their length.
func TestWhatIsHandedInStays(t *testing.T) {
	room := columns(api.Int, api.Text, api.Bool)
	wide := []api.Cell{num(1), text("a"), num(9)}
	l := pairs(api.Pair{Row: wide[:2], Weight: 2}, pair(3, num(2), text("b")), pair(7, num(7), text("z")))
	all := []api.Entry{delta(1, l[:2]), snapshot(1, l[:2]), delta(2, l[2:]), {Kind: 9, Seq: 9}}
	x := api.Trace{Schema: room[:2], Entries: all[:3]}
	keep := deep(api.Trace{Schema: room, Entries: all})
	keepWide, keepL := slices.Clone(wide), slices.Clone(l)
	want := fileOf(room[:2], all[:3]...)
	file := append(slices.Clone(want), 99, 99)
	for range 2 {
		if b, e := trace.Head(room[:2]); e != api.OK || !bytes.Equal(b, headOf(room[:2])) {
			t.Error(b, e)
		}
		if b, n, e := trace.Encode(x); e != api.OK || n != 3 || !bytes.Equal(b, want) {
			t.Error(b, n, e)
		}
		if seq, view, e := trace.View(x); e != api.OK || seq != 2 || !zset.Same(view, l) {
			t.Error(seq, view, e)
		}
		if got := decode(t, file[:len(want)]); got.e != api.OK || got.at != len(want) || len(got.marks) != 4 || !trace.Same(got.t, x) {
			t.Error(got)
		}
		trace.Encode(api.Trace{Schema: room[:2], Entries: all})
		decode(t, file)
	}
	if !sameOf(api.Trace{Schema: room, Entries: all}, keep) || !slices.Equal(wide, keepWide) || !zset.Same(l, keepL) || !bytes.Equal(file, append(want, 99, 99)) {
		t.Errorf("what was handed in became %v, %v, %v, %v, %v", room, all, wide, l, file)
	}
}

// spoil changes all of a list, and what lies behind it and its rows.
func spoil(l []api.Pair) {
	for i := range l {
		r := l[i].Row[:cap(l[i].Row)]
		for k := range r {
			r[k] = api.Cell{Num: 99, Text: "spoilt"}
		}
	}
	l = l[:cap(l)]
	for i := range l {
		l[i] = pair(99, num(99))
	}
}

func spoilTrace(x api.Trace) {
	x.Entries = x.Entries[:cap(x.Entries)]
	for i := range x.Entries {
		spoil(x.Entries[i].Pairs)
		x.Entries[i] = api.Entry{Kind: 99, Seq: 99}
	}
	for i := range x.Schema[:cap(x.Schema)] {
		x.Schema[:cap(x.Schema)][i] = api.Column{Name: "spoilt", Kind: 99}
	}
}

func spoilBytes(b []byte) {
	b = b[:cap(b)]
	for i := range b {
		b[i] = 99
	}
}

// TestWhatIsAnsweredIsApart changes all that is answered, and what could lie behind it.
func TestWhatIsAnsweredIsApart(t *testing.T) {
	for _, x := range []api.Trace{small(), of(), of(delta(1, set("2 1,61; 1 2,62"))), of(snapshot(0, nil)), of(delta(1, set("1 1,61")), snapshot(1, set("1 1,61")))} {
		keep, file := deep(x), fileOf(x.Schema, x.Entries...)
		want := encodeOf(x)
		head, _ := trace.Head(x.Schema)
		spoilBytes(head)
		first, second := encode(t, x), encode(t, x)
		spoilBytes(first.b)
		spoil(first.view)
		if !second.same(want) || !sameOf(x, keep) {
			t.Errorf("what Encode or View answered is shared: %v, %v", second, x)
		}
		room := slices.Clone(file)
		one, two := decode(t, room), decode(t, room)
		spoilTrace(one.t)
		clear(one.marks[:cap(one.marks)])
		if !bytes.Equal(room, file) {
			t.Errorf("what Decode answered shares its bytes, which became %v", room)
		}
		clear(room)
		if !two.same(decodeOf(file)) || !sameOf(x, keep) {
			t.Errorf("what Decode or Marks answered is shared: %v", two)
		}
		for i := range two.t.Entries {
			spoil(two.t.Entries[i].Pairs)
			if !sameOf(of(two.t.Entries[i+1:]...), of(keep.Entries[i+1:]...)) {
				t.Errorf("the entry %d is shared with one behind it: %v", i, two.t)
			}
		}
	}
}

// TestAnAnswerHangsOnNothingAhead asks the same again, behind others.
func TestAnAnswerHangsOnNothingAhead(t *testing.T) {
	x := small()
	b := fileOf(x.Schema, x.Entries...)
	for _, y := range traces() {
		trace.Encode(y)
		trace.View(api.Trace{Schema: y.Schema, Entries: append(slices.Clone(y.Entries), api.Entry{Kind: 9})})
		trace.Decode(fileOf(y.Schema, y.Entries...)[1:])
		trace.Marks(fileOf(y.Schema, y.Entries...))
		checkEncode(t, x)
		checkDecode(t, b)
		checkDecode(t, b[:len(b)-1])
	}
}

// TestManyAtATime asks by many goroutines at a time, of the same lists.
func TestManyAtATime(t *testing.T) {
	m := mixer(77)
	x := m.trace(example, 60)
	want, wantD := encodeOf(x), decodeOf(fileOf(x.Schema, x.Entries...))
	var all sync.WaitGroup
	for range 16 {
		all.Go(func() {
			b, n, e := trace.Encode(x)
			seq, view, viewE := trace.View(x)
			if got := (encoded{b, n, seq, view, e}); viewE != e || !got.same(want) {
				t.Error(brief(got))
			}
			y, at, e := trace.Decode(want.b)
			marks, marksAt, marksE := trace.Marks(want.b)
			if got := (decoded{y, marks, at, e}); marksAt != at || marksE != e || !got.same(wantD) || !trace.Same(x, y) {
				t.Error(brief(got))
			}
		})
	}
	all.Wait()
}
