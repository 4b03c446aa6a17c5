package entry_test

import (
	"bytes"
	"fmt"
	"hash/crc32"
	"math"
	"math/big"
	"slices"
	"strings"
	"sync"
	"testing"

	"deckle/api"
	"deckle/batch"
	"deckle/cell"
	"deckle/entry"
	"deckle/frame"
	"deckle/row"
	"deckle/schema"
	"deckle/wire"
	"deckle/zset"
)

const (
	top      = math.MaxInt64
	bottom   = math.MinInt64
	greatest = 281474976710656 // of an entry's numbers
)

// example is the schema of the document's own examples.
var example = []api.Column{{Name: "id", Kind: api.Int}, {Name: "name", Kind: api.Text}}

// columns are such of those kinds, named a, b, c and so on.
func columns(kinds ...int) []api.Column {
	var s []api.Column
	for i, kind := range kinds {
		s = append(s, api.Column{Name: string(rune('a' + i)), Kind: kind})
	}
	return s
}

func num(x uint64) api.Cell { return api.Cell{Num: x} }

func text(s string) api.Cell { return api.Cell{Text: s} }

func pair(w int64, l ...api.Cell) api.Pair { return api.Pair{Row: l, Weight: w} }

func pairs(l ...api.Pair) []api.Pair { return l }

// set is the one of a text, of the example's schema.
func set(x string) []api.Pair { return setOf(example, x) }

func setOf(s []api.Column, x string) []api.Pair {
	a, e := zset.Read(s, x)
	if e != api.OK {
		panic(x + ": " + e.Error())
	}
	return a
}

func delta(seq int64, a []api.Pair) api.Entry { return api.Entry{Kind: api.Delta, Seq: seq, Pairs: a} }

func snapshot(seq int64, a []api.Pair) api.Entry {
	return api.Entry{Kind: api.Snapshot, Seq: seq, Pairs: a}
}

// many are n pairs of one number each, in order, from that one on.
func many(from, n int) []api.Pair {
	var l []api.Pair
	for i := range n {
		l = append(l, pair(1, num(uint64(from+i))))
	}
	return l
}

// deep is a copy that shares no row.
func deep(l []api.Pair) []api.Pair {
	l = slices.Clone(l)
	for i, p := range l {
		l[i].Row = slices.Clone(p.Row)
	}
	return l
}

func same(a, b api.Entry) bool {
	return a.Kind == b.Kind && a.Seq == b.Seq && zset.Same(a.Pairs, b.Pairs)
}

// brief is a text of x that can be told whole, if x is small.
func brief(x any) string {
	s := fmt.Sprint(x)
	if len(s) > 300 {
		return s[:300] + ".."
	}
	return s
}

// wrongSchemas are such as may not be, and what layer 5 says of them.
func wrongSchemas() map[api.Errno][]api.Column {
	return map[api.Errno][]api.Column{
		api.ErrNone:  {},
		api.ErrLimit: make([]api.Column, 9),
		api.ErrLong:  {{Name: strings.Repeat("a", 33)}},
		api.ErrArg:   {{Name: "A"}},
		api.ErrKind:  {{Name: "a", Kind: 6}},
	}
}

// wrongNumbers are such as no entry has.
func wrongNumbers() []int64 {
	return []int64{-1, -2, -greatest, bottom, bottom + 1, greatest + 1, greatest + 2, 2 * greatest, top - 1, top}
}

// wrongSets are no sets of the example's schema.
func wrongSets() map[api.Errno][]api.Pair {
	return map[api.Errno][]api.Pair{
		api.ErrLimit: make([]api.Pair, 1025),
		api.ErrArg:   pairs(pair(0, num(1), text("a"))),
		api.ErrType:  pairs(pair(1, num(1), text("\xff"))),
		api.ErrLong:  pairs(pair(1, num(1), text(strings.Repeat("a", 257)))),
		api.ErrOrder: pairs(pair(1, num(1), text("b")), pair(1, num(1), text("a"))),
	}
}

// schemas are some with each kind, and with as many columns as may be.
func schemas() [][]api.Column {
	return [][]api.Column{
		columns(api.Int), columns(api.Uint), columns(api.Bool), columns(api.Bytes), columns(api.Text), columns(api.Float),
		example, columns(api.Bool, api.Text, api.Float),
		columns(api.Int, api.Uint, api.Bool, api.Bytes, api.Text, api.Float, api.Int, api.Text),
	}
}

// The document's words, told anew.

// numberOf are the bytes of a number that isn't below 0.
func numberOf(x int64) []byte {
	var b []byte
	for x >= 128 {
		b = append(b, byte(x%128)+128)
		x /= 128
	}
	return append(b, byte(x))
}

// payloadOf is that of an entry, which may be one that there can't be but for its pairs.
func payloadOf(s []api.Column, e api.Entry) []byte {
	b, wrong := batch.Write(s, e.Pairs)
	if wrong != api.OK {
		panic(wrong)
	}
	return append(numberOf(e.Seq), b...)
}

// framedOf are the bytes of a frame.
func framedOf(kind byte, payload []byte) []byte {
	b := append([]byte{kind}, numberOf(int64(len(payload)))...)
	b = append(b, payload...)
	sum := crc32.Checksum(b, crc32.MakeTable(crc32.Castagnoli))
	return append(b, byte(sum), byte(sum>>8), byte(sum>>16), byte(sum>>24))
}

// frameKind is the kind of an entry's frame.
func frameKind(e api.Entry) int {
	if e.Kind == api.Snapshot {
		return 1
	}
	return 2
}

func checkOf(s []api.Column, e api.Entry) api.Errno {
	if wrong := schema.Check(s); wrong != api.OK {
		return wrong
	}
	if e.Kind != 0 && e.Kind != 1 {
		return api.ErrKind
	}
	if e.Seq < 0 || e.Seq > greatest {
		return api.ErrRange
	}
	return zset.Check(s, e.Pairs)
}

func readOf(s []api.Column, kind int, payload []byte) (api.Entry, api.Errno) {
	if wrong := schema.Check(s); wrong != api.OK {
		return api.Entry{}, wrong
	}
	if kind != 1 && kind != 2 {
		return api.Entry{}, api.ErrKind
	}
	x, n, wrong := wire.GetUint(payload)
	if wrong == api.OK && x > greatest {
		wrong = api.ErrRange
	}
	if wrong != api.OK {
		return api.Entry{}, wrong
	}
	a, _, wrong := batch.Read(payload[n:], s)
	if wrong != api.OK {
		return api.Entry{}, wrong
	}
	return api.Entry{Kind: 2 - kind, Seq: int64(x), Pairs: a}, api.OK
}

// sumOf is the sum of sets, row by row, without a bound on the way.
func sumOf(s []api.Column, l ...[]api.Pair) ([]api.Pair, api.Errno) {
	sums, rows := map[string]*big.Int{}, map[string][]api.Cell{}
	for _, p := range slices.Concat(l...) {
		x, wrong := row.Text(s, p.Row)
		if wrong != api.OK {
			panic(wrong)
		}
		if sums[x] == nil {
			sums[x], rows[x] = new(big.Int), p.Row
		}
		sums[x].Add(sums[x], big.NewInt(p.Weight))
	}
	var a []api.Pair
	for x, w := range sums {
		if !w.IsInt64() {
			return nil, api.ErrOver
		}
		if w.Sign() != 0 {
			a = append(a, api.Pair{Row: rows[x], Weight: w.Int64()})
		}
	}
	if len(a) > 1024 {
		return nil, api.ErrLimit
	}
	slices.SortFunc(a, func(x, y api.Pair) int { return row.Compare(s, x.Row, y.Row) })
	return a, api.OK
}

// stand is what Apply answers.
type stand struct {
	seq  int64
	view []api.Pair
	e    api.Errno
}

func (a stand) same(b stand) bool {
	return a.seq == b.seq && zset.Same(a.view, b.view) && a.e == b.e
}

func applyOf(s []api.Column, seq int64, view []api.Pair, e api.Entry) stand {
	if wrong := zset.Check(s, view); wrong != api.OK {
		return stand{e: wrong}
	}
	if seq < 0 || seq > greatest {
		return stand{e: api.ErrRange}
	}
	if wrong := checkOf(s, e); wrong != api.OK {
		return stand{e: wrong}
	}
	if e.Kind == api.Snapshot {
		if e.Seq != seq {
			return stand{e: api.ErrSeq}
		}
		if !zset.Same(e.Pairs, view) {
			return stand{e: api.ErrView}
		}
		return stand{seq, view, api.OK}
	}
	if e.Seq-1 != seq {
		return stand{e: api.ErrSeq}
	}
	a, wrong := sumOf(s, view, e.Pairs)
	if wrong != api.OK {
		return stand{e: wrong}
	}
	return stand{e.Seq, a, api.OK}
}

// apply is Apply, whose answers are in one.
func apply(s []api.Column, seq int64, view []api.Pair, e api.Entry) stand {
	n, a, wrong := entry.Apply(s, seq, view, e)
	return stand{n, a, wrong}
}

// checkWrite holds Check and Write against the document's words.
func checkWrite(t *testing.T, s []api.Column, e api.Entry) []byte {
	t.Helper()
	want := checkOf(s, e)
	if got := entry.Check(s, e); got != want {
		t.Fatalf("Check(%v, %s) = %v; want %v", s, brief(e), got, want)
	}
	var wantB []byte
	if want == api.OK {
		payload := payloadOf(s, e)
		wantB = framedOf(byte(frameKind(e)), payload)
		if len(payload) > 1048576 {
			wantB, want = nil, api.ErrLimit
		}
	}
	b, got := entry.Write(s, e)
	if got != want || !bytes.Equal(b, wantB) {
		t.Fatalf("Write(%v, %s) = %s, %v; want %s, %v", s, brief(e), brief(b), got, brief(wantB), want)
	}
	return b
}

// checkRead holds Read against the document's words, and what is read against its bytes.
func checkRead(t *testing.T, s []api.Column, kind int, payload []byte) {
	t.Helper()
	got, e := entry.Read(s, kind, payload)
	want, wantE := readOf(s, kind, payload)
	if !same(got, want) || e != wantE {
		t.Fatalf("Read(%v, %d, %s) = %s, %v; want %s, %v", s, kind, brief(payload), brief(got), e, brief(want), wantE)
	}
	if e != api.OK {
		return
	}
	if b, e := entry.Write(s, got); e != api.OK || !bytes.Equal(b, framedOf(byte(kind), payload)) {
		t.Fatalf("Read(%v, %d, %s) = %s, whose frame is %s, %v", s, kind, brief(payload), brief(got), brief(b), e)
	}
}

// checkApply holds Apply against the document's words.
func checkApply(t *testing.T, s []api.Column, seq int64, view []api.Pair, e api.Entry) stand {
	t.Helper()
	got, want := apply(s, seq, view, e), applyOf(s, seq, view, e)
	if !got.same(want) {
		t.Fatalf("Apply(%v, %d, %s, %s) = %s; want %s", s, seq, brief(view), brief(e), brief(got), brief(want))
	}
	return got
}

// Entries to be tried.

// mixer makes the same numbers at each run, that look like any.
type mixer uint32

func (m *mixer) below(n int) int {
	*m ^= *m << 13
	*m ^= *m >> 17
	*m ^= *m << 5
	return int(uint32(*m)>>3) % n
}

// cellsOf are such of a kind as may be.
func cellsOf(kind int) []api.Cell {
	switch kind {
	case api.Int:
		return []api.Cell{cell.Int(bottom), cell.Int(-65), cell.Int(-1), num(0), num(1), num(64), cell.Int(top)}
	case api.Uint:
		return []api.Cell{num(0), num(1), num(127), num(128), num(1 << 63), num(math.MaxUint64)}
	case api.Bool:
		return []api.Cell{num(0), num(1)}
	case api.Bytes:
		return []api.Cell{text(""), text("\x00"), text("a"), text("ab"), text("b"), text("\xff"), text(strings.Repeat("\xff", 256))}
	case api.Text:
		return []api.Cell{text(""), text("\x00"), text("a"), text("ab"), text("b"), text("ä"), text(strings.Repeat("ä", 128))}
	}
	return []api.Cell{num(math.MaxUint64), num(0xfff0000000000000), num(1 << 63), num(0), num(0x3ff0000000000000), num(0x7ff8000000000001)}
}

// set is one of up to n pairs whose weights are small.
func (m *mixer) set(s []api.Column, n int) []api.Pair {
	var l []api.Pair
	for range n {
		var r []api.Cell
		for _, c := range s {
			from := cellsOf(c.Kind)
			r = append(r, from[m.below(len(from))])
		}
		l = append(l, pair(int64(m.below(7)-3), r...))
	}
	a, e := zset.Collect(s, l...)
	if e != api.OK {
		panic(e)
	}
	return a
}

// numbers are some of each length that entries' numbers may have.
func numbers() []int64 {
	l := []int64{0, 1, 2, 300, greatest - 1, greatest}
	for i := range 6 {
		x := int64(1) << (7 * (i + 1))
		l = append(l, x-1, x, x+1)
	}
	return l
}

// entries are some of both kinds, and of each length that may be told from others.
func entries(s []api.Column) []api.Entry {
	m := mixer(2463534242)
	var l []api.Entry
	for i, seq := range numbers() {
		l = append(l, delta(seq, nil), snapshot(seq, nil), delta(seq, m.set(s, i)), snapshot(seq, m.set(s, i)))
	}
	return append(l, delta(7, m.set(s, 300)), snapshot(7, m.set(s, 1024)))
}

// P12.1

func TestMaxSeq(t *testing.T) {
	if n := entry.MaxSeq(); n != greatest {
		t.Errorf("MaxSeq() = %d; want %d", n, int64(greatest))
	}
}

func TestExamples(t *testing.T) {
	for i, c := range []struct {
		s       []api.Column
		e       api.Entry
		kind    byte
		payload string
	}{
		{example, delta(0, nil), 2, "\x00\x00"},
		{example, snapshot(0, nil), 1, "\x00\x00"},
		{example, delta(1, pairs()), 2, "\x01\x00"},
		{example, delta(4, set("1 1,61")), 2, "\x04\x01\x02\x00\x01a\x02"},
		{example, snapshot(4, set("1 1,61")), 1, "\x04\x01\x02\x00\x01a\x02"},
		{example, delta(300, set("2 1,61; 1 2,62")), 2, "\xac\x02\x02\x02\x02\x00\x01a\x00\x01b\x04\x02"},
		{example, snapshot(127, set("-1 1,-")), 1, "\x7f\x01\x02\x00\x00\x01"},
		{example, delta(128, nil), 2, "\x80\x01\x00"},
		{example, delta(greatest-1, nil), 2, "\xff\xff\xff\xff\xff\xff\x3f\x00"},
		{example, delta(greatest, nil), 2, "\x80\x80\x80\x80\x80\x80\x40\x00"},
		{example, snapshot(greatest, nil), 1, "\x80\x80\x80\x80\x80\x80\x40\x00"},
		{columns(api.Bool), snapshot(5, setOf(columns(api.Bool), "1 false; 2 true")), 1, "\x05\x02\x02\x02\x04"},
	} {
		want := framedOf(c.kind, []byte(c.payload))
		if b, e := entry.Write(c.s, c.e); e != api.OK || !bytes.Equal(b, want) {
			t.Errorf("%d: Write(%v) = %v, %v; want %v", i, c.e, b, e, want)
		}
		if e := entry.Check(c.s, c.e); e != api.OK {
			t.Errorf("%d: Check(%v) = %v", i, c.e, e)
		}
		if got, e := entry.Read(c.s, int(c.kind), []byte(c.payload)); e != api.OK || !same(got, c.e) {
			t.Errorf("%d: Read(%q) = %v, %v; want %v", i, c.payload, got, e, c.e)
		}
		checkWrite(t, c.s, c.e)
		checkRead(t, c.s, int(c.kind), []byte(c.payload))
	}
}

// TestAFrameInFull holds one against bytes that were worked out by hand.
func TestAFrameInFull(t *testing.T) {
	b, e := entry.Write(example, delta(4, set("1 1,61")))
	want := []byte{2, 7, 4, 1, 2, 0, 1, 97, 2}
	s := uint32(4294967295)
	for _, c := range want {
		s ^= uint32(c)
		for range 8 {
			if s%2 == 1 {
				s = s/2 ^ 2197175160
			} else {
				s /= 2
			}
		}
	}
	s = 4294967295 ^ s
	want = append(want, byte(s), byte(s>>8), byte(s>>16), byte(s>>24))
	if e != api.OK || !bytes.Equal(b, want) {
		t.Errorf("%v, %v; want %v", b, e, want)
	}
}

// refused shows that an entry has that error, and no bytes.
func refused(t *testing.T, s []api.Column, e api.Entry, want api.Errno) {
	t.Helper()
	if got := entry.Check(s, e); got != want {
		t.Errorf("Check(%v, %s) = %v; want %v", s, brief(e), got, want)
	}
	if b, got := entry.Write(s, e); got != want || len(b) != 0 {
		t.Errorf("Write(%v, %s) = %s, %v; want %v", s, brief(e), brief(b), got, want)
	}
	checkWrite(t, s, e)
}

var wrongKinds = []int{-1, 2, 3, 255, 256, 257, -256, math.MinInt, math.MaxInt, 1 << 32, 1<<32 + 1}

func TestWhatIsNoEntry(t *testing.T) {
	for _, kind := range wrongKinds {
		refused(t, example, api.Entry{Kind: kind}, api.ErrKind)
		refused(t, example, api.Entry{Kind: kind, Seq: 3, Pairs: set("1 1,61")}, api.ErrKind)
	}
	for _, seq := range wrongNumbers() {
		refused(t, example, delta(seq, nil), api.ErrRange)
		refused(t, example, snapshot(seq, set("1 1,61")), api.ErrRange)
	}
	for want, a := range wrongSets() {
		refused(t, example, delta(0, a), want)
		refused(t, example, snapshot(greatest, a), want)
	}
	refused(t, example, delta(0, pairs(pair(1))), api.ErrArg)
	refused(t, example, delta(0, pairs(pair(1, num(1), text("a")), pair(1, num(1), text("a")))), api.ErrOrder)
	refused(t, columns(api.Uint), delta(0, many(0, 1025)), api.ErrLimit)
	if e := entry.Check(columns(api.Uint), delta(0, many(0, 1024))); e != api.OK {
		t.Error(e)
	}
	for want, s := range wrongSchemas() {
		refused(t, s, delta(0, nil), want)
		refused(t, s, snapshot(1, set("1 1,61")), want)
	}
}

// TestWhatIsWrongFirst gives entries that have all errors that are named behind, too.
func TestWhatIsWrongFirst(t *testing.T) {
	for setE, a := range wrongSets() {
		for _, seq := range wrongNumbers() {
			for _, kind := range wrongKinds {
				for schemaE, s := range wrongSchemas() {
					refused(t, s, api.Entry{Kind: kind, Seq: seq, Pairs: a}, schemaE)
				}
				refused(t, example, api.Entry{Kind: kind, Seq: seq, Pairs: a}, api.ErrKind)
				refused(t, example, api.Entry{Kind: kind, Seq: 1, Pairs: a}, api.ErrKind)
			}
			refused(t, example, delta(seq, a), api.ErrRange)
			refused(t, example, snapshot(seq, a), api.ErrRange)
		}
		refused(t, example, delta(1, a), setE)
	}
}

// filled are 578 rows of a number and seven texts, whose bytes are one fewer than a payload's may be.
func filled() ([]api.Column, []api.Pair) {
	s := columns(api.Uint, api.Bytes, api.Bytes, api.Bytes, api.Bytes, api.Bytes, api.Bytes, api.Bytes)
	var a []api.Pair
	for i := range 578 {
		r := []api.Cell{num(uint64(i))}
		for range 7 {
			// No two that stand one behind the other begin alike, so a text has 259 bytes.
			r = append(r, text(string(rune('a'+i%2))+strings.Repeat("x", 255)))
		}
		a = append(a, pair(1, r...))
	}
	over := 2 + 578*(1+7*259+1) - (1048576 - 1)
	for k := 1; over > 0; k++ {
		cut := min(over, 128) // a length from 128 on has two bytes
		last := &a[577].Row[k]
		last.Text = last.Text[:256-cut]
		over -= cut
	}
	return s, a
}

// TestWriteOfTheGreatestPayload has payloads of as many bytes as may be, and of one more, which only the number's bytes tell apart.
func TestWriteOfTheGreatestPayload(t *testing.T) {
	s, a := filled()
	if b, e := batch.Write(s, a); e != api.OK || len(b) != 1048576-1 {
		t.Fatal(len(b), e)
	}
	for _, c := range []struct {
		e    api.Entry
		want api.Errno
	}{
		{delta(0, a), api.OK}, {snapshot(127, a), api.OK},
		{delta(128, a), api.ErrLimit}, {snapshot(128, a), api.ErrLimit}, {delta(greatest, a), api.ErrLimit},
	} {
		if e := entry.Check(s, c.e); e != api.OK {
			t.Errorf("Check of the number %d: %v", c.e.Seq, e)
		}
		b, e := entry.Write(s, c.e)
		if e != c.want || e != api.OK && len(b) != 0 || e == api.OK && len(b) != frame.Size(1048576) {
			t.Errorf("Write of the number %d: %d bytes, %v; want %v", c.e.Seq, len(b), e, c.want)
		}
		checkWrite(t, s, c.e)
		// Such a payload is read, whether it may stand in a frame or not.
		if got, e := entry.Read(s, frameKind(c.e), payloadOf(s, c.e)); e != api.OK || !same(got, c.e) {
			t.Errorf("Read of the number %d: %v", c.e.Seq, e)
		}
	}
}

// P12.2

func TestReadEnds(t *testing.T) {
	nine := strings.Repeat("\xff", 9)
	for i, c := range []struct {
		payload string
		want    api.Errno
	}{
		// The number.
		{"", api.ErrShort}, {"\x80", api.ErrShort}, {nine, api.ErrShort},
		{"\x80\x00", api.ErrForm}, {"\x80\x00\x00", api.ErrForm}, {"\x81\x80\x00\x00", api.ErrForm},
		{nine + "\x02", api.ErrLong}, {nine + "\x80\x00", api.ErrLong}, {nine + "\x02\x00", api.ErrLong},
		{nine + "\x01\x00", api.ErrRange}, {"\x81\x80\x80\x80\x80\x80\x40\x00", api.ErrRange}, {"\x81\x80\x80\x80\x80\x80\x40", api.ErrRange},
		{"\x81\x80\x80\x80\x80\x80\x40\x80\x00", api.ErrRange}, // ahead of what is behind
		{"\x80\x80\x80\x80\x80\x80\x80\x01\x00", api.ErrRange},
		{"\x80\x80\x80\x80\x80\x80\x40\x00", api.OK},
		// The set.
		{"\x01", api.ErrShort}, {"\x01\x80", api.ErrShort}, {"\x01\x80\x00", api.ErrForm}, {"\x01\x81\x08", api.ErrRange},
		{"\x01\x01", api.ErrShort}, {"\x01\x01\x02", api.ErrShort}, {"\x01\x01\x02\x01", api.ErrRange},
		{"\x01\x01\x02\x00\x81\x02", api.ErrLimit}, {"\x01\x01\x02\x00\x01\xff\x02", api.ErrType},
		{"\x01\x01\x02\x00\x01a", api.ErrShort}, {"\x01\x01\x02\x00\x01a\x00", api.ErrArg}, {"\x01\x01\x02\x00\x01a\x00\x00", api.ErrArg},
		{"\x01\x02\x02\x00\x00\x01b\x00\x01a\x02\x02", api.ErrOrder}, {"\x01\x02\x02\x00\x00\x01b\x00\x01a\x02\x02\x00", api.ErrOrder},
		{"\x01\x02\x02\x00\x00\x01a\x01\x00\x02\x02", api.ErrOrder},
		{"\x01\x01\x02\x00\x01a\x02", api.OK},
		// What is left.
		{"\x01\x00\x00", api.ErrLong}, {"\x00\x00\x80", api.ErrLong}, {"\x01\x01\x02\x00\x01a\x02\x00", api.ErrLong},
	} {
		for _, kind := range []int{1, 2} {
			got, e := entry.Read(example, kind, []byte(c.payload))
			if e != c.want || e != api.OK && (got.Kind != 0 || got.Seq != 0 || len(got.Pairs) != 0) {
				t.Errorf("%d: Read(%d, %q) = %v, %v; want %v", i, kind, c.payload, got, e, c.want)
			}
			checkRead(t, example, kind, []byte(c.payload))
		}
	}
}

func TestReadOfKinds(t *testing.T) {
	good, bad := []byte{3, 1, 2, 0, 1, 97, 2}, []byte{128, 0}
	for _, kind := range append(wrongKinds, 0) {
		if kind == 2 {
			continue
		}
		for _, payload := range [][]byte{nil, good, bad} {
			if got, e := entry.Read(example, kind, payload); e != api.ErrKind || !same(got, api.Entry{}) {
				t.Errorf("Read(%d, %v) = %v, %v; want %v", kind, payload, got, e, api.ErrKind)
			}
		}
	}
	for kind, want := range map[int]int{1: api.Snapshot, 2: api.Delta} {
		if got, e := entry.Read(example, kind, good); e != api.OK || !same(got, api.Entry{Kind: want, Seq: 3, Pairs: set("1 1,61")}) {
			t.Errorf("Read(%d) = %v, %v", kind, got, e)
		}
	}
}

// TestReadOfAWrongSchema tells it ahead of all else.
func TestReadOfAWrongSchema(t *testing.T) {
	for want, s := range wrongSchemas() {
		for kind := range 4 {
			for _, payload := range [][]byte{nil, {128, 0}, {0, 0}, {0, 0, 0}} {
				if got, e := entry.Read(s, kind, payload); e != want || !same(got, api.Entry{}) {
					t.Errorf("Read(%v, %d, %v) = %v, %v; want %v", s, kind, payload, got, e, want)
				}
			}
		}
	}
}

// TestReadOfAllShortBytes reads all that are made of some bytes where something changes.
func TestReadOfAllShortBytes(t *testing.T) {
	from := []byte{0, 1, 2, 3, 'a', 64, 128, 255}
	var all func(b []byte)
	all = func(b []byte) {
		for _, s := range schemas()[:7] {
			checkRead(t, s, 1+len(b)%2, b)
		}
		if len(b) < 5 {
			for _, c := range from {
				all(append(slices.Clip(b), c))
			}
		}
	}
	all(nil)
}

// TestReadOfChangedBytes puts, takes away and changes bytes of payloads.
func TestReadOfChangedBytes(t *testing.T) {
	m := mixer(123456789)
	for i, s := range schemas() {
		e := delta(numbers()[m.below(len(numbers()))], m.set(s, 3))
		b := payloadOf(s, e)
		kind := 1 + i%2
		for at := range min(len(b), 60) {
			checkRead(t, s, kind, b[:at])
			checkRead(t, s, kind, b[at:])
			checkRead(t, s, kind, slices.Delete(slices.Clone(b), at, at+1))
			for c := range 256 {
				changed := slices.Clone(b)
				changed[at] = byte(c)
				checkRead(t, s, kind, changed)
				checkRead(t, s, kind, slices.Insert(slices.Clone(b), at, byte(c)))
			}
		}
	}
}

// P12.3

func TestApply(t *testing.T) {
	v := set("2 1,61; 1 2,62")
	for i, c := range []struct {
		seq  int64
		view []api.Pair
		e    api.Entry
		n    int64
		want []api.Pair
		bad  api.Errno
	}{
		// The document's own.
		{3, nil, delta(4, set("1 1,61")), 4, set("1 1,61"), api.OK},
		{4, set("1 1,61"), snapshot(4, set("1 1,61")), 4, set("1 1,61"), api.OK},
		// Deltas.
		{0, nil, delta(1, nil), 1, nil, api.OK},
		{3, v, delta(4, set("-2 1,61; 1 3,63")), 4, set("1 2,62; 1 3,63"), api.OK},
		{3, v, delta(4, set("-2 1,61; -1 2,62")), 4, nil, api.OK},
		{3, v, delta(4, set("-5 1,61; 7 1,62")), 4, set("-3 1,61; 7 1,62; 1 2,62"), api.OK},
		{3, v, delta(4, nil), 4, v, api.OK},
		{3, v, delta(4, v), 4, set("4 1,61; 2 2,62"), api.OK},
		{3, v, delta(3, v), 0, nil, api.ErrSeq},
		{3, v, delta(2, v), 0, nil, api.ErrSeq},
		{3, v, delta(5, v), 0, nil, api.ErrSeq},
		{3, v, delta(0, v), 0, nil, api.ErrSeq},
		{0, nil, delta(0, nil), 0, nil, api.ErrSeq},
		{3, v, delta(4, set("9223372036854775805 1,61")), 4, set("9223372036854775807 1,61; 1 2,62"), api.OK},
		{3, v, delta(4, set("9223372036854775806 1,61")), 0, nil, api.ErrOver},
		{3, v, delta(5, set("9223372036854775806 1,61")), 0, nil, api.ErrSeq},
		{3, set("-1 1,61"), delta(4, set("-9223372036854775807 1,61")), 4, set("-9223372036854775808 1,61"), api.OK},
		{3, set("-1 1,61"), delta(4, set("-9223372036854775808 1,61")), 0, nil, api.ErrOver},
		// Snapshots.
		{0, nil, snapshot(0, nil), 0, nil, api.OK},
		{3, v, snapshot(3, v), 3, v, api.OK},
		{3, v, snapshot(4, v), 0, nil, api.ErrSeq},
		{3, v, snapshot(2, v), 0, nil, api.ErrSeq},
		{3, v, snapshot(4, nil), 0, nil, api.ErrSeq}, // ahead of the view
		{3, v, snapshot(3, nil), 0, nil, api.ErrView},
		{3, nil, snapshot(3, v), 0, nil, api.ErrView},
		{3, v, snapshot(3, v[:1]), 0, nil, api.ErrView},
		{3, v, snapshot(3, v[1:]), 0, nil, api.ErrView},
		{3, v, snapshot(3, set("2 1,61; 2 2,62")), 0, nil, api.ErrView},
		{3, v, snapshot(3, set("2 1,61; 1 2,63")), 0, nil, api.ErrView},
		{3, v, snapshot(3, set("2 0,61; 1 2,62")), 0, nil, api.ErrView},
		{3, v, snapshot(3, set("-2 1,61; -1 2,62")), 0, nil, api.ErrView},
		{3, v, snapshot(3, set("2 1,61; 1 2,62; 1 3,-")), 0, nil, api.ErrView},
		{3, set("9223372036854775807 1,61"), snapshot(3, set("9223372036854775807 1,61")), 3, set("9223372036854775807 1,61"), api.OK},
		// The greatest numbers.
		{greatest - 1, v, delta(greatest, v), greatest, set("4 1,61; 2 2,62"), api.OK},
		{greatest, v, snapshot(greatest, v), greatest, v, api.OK},
		{greatest, v, delta(greatest, v), 0, nil, api.ErrSeq},
		{greatest, v, delta(greatest+1, v), 0, nil, api.ErrRange},
		{greatest + 1, v, snapshot(greatest+1, v), 0, nil, api.ErrRange},
		{-1, v, delta(0, v), 0, nil, api.ErrRange},
		{-1, v, snapshot(-1, v), 0, nil, api.ErrRange},
	} {
		want := stand{c.n, c.want, c.bad}
		if got := apply(example, c.seq, c.view, c.e); !got.same(want) {
			t.Errorf("%d: Apply(%d, %v, %v) = %v; want %v", i, c.seq, c.view, c.e, got, want)
		}
		checkApply(t, example, c.seq, c.view, c.e)
	}
}

// TestApplyOfFloats tells +0 and -0, and what is no number, by their bits.
func TestApplyOfFloats(t *testing.T) {
	s := columns(api.Float)
	v := setOf(s, "1 8000000000000000; 2 7ff8000000000001")
	if got := apply(s, 1, v, snapshot(1, v)); !got.same(stand{1, v, api.OK}) {
		t.Error(got)
	}
	for _, x := range []string{"1 0000000000000000; 2 7ff8000000000001", "1 8000000000000000; 2 7ff8000000000002"} {
		if got := apply(s, 1, v, snapshot(1, setOf(s, x))); !got.same(stand{e: api.ErrView}) {
			t.Error(x, got)
		}
	}
	want := setOf(s, "1 8000000000000000; 1 0000000000000000; 2 7ff8000000000001")
	if got := apply(s, 1, v, delta(2, setOf(s, "1 0000000000000000"))); !got.same(stand{2, want, api.OK}) {
		t.Error(got)
	}
}

// TestApplyOfAsManyRowsAsMayBe fills a view up, and goes beyond.
func TestApplyOfAsManyRowsAsMayBe(t *testing.T) {
	s := columns(api.Uint)
	full := many(0, 1024)
	if got := apply(s, 7, full[:1000], delta(8, full[1000:])); !got.same(stand{8, full, api.OK}) {
		t.Error(brief(got))
	}
	if got := apply(s, 7, full, snapshot(7, full)); !got.same(stand{7, full, api.OK}) {
		t.Error(brief(got))
	}
	if got := apply(s, 7, full, delta(8, many(1024, 1))); !got.same(stand{e: api.ErrLimit}) {
		t.Error(brief(got))
	}
	// One that goes makes room for one that comes.
	if got := apply(s, 7, full, delta(8, pairs(pair(-1, num(0)), pair(1, num(1024))))); !got.same(stand{8, many(1, 1024), api.OK}) {
		t.Error(brief(got))
	}
	if got := apply(s, 7, full, delta(8, many(1024, 1024))); !got.same(stand{e: api.ErrLimit}) {
		t.Error(brief(got))
	}
	if got := apply(s, 7, full, delta(8, append(pairs(pair(top, num(0))), many(1024, 1)...))); !got.same(stand{e: api.ErrOver}) {
		t.Error(brief(got))
	}
	if got := apply(s, 7, many(0, 1025), delta(8, nil)); !got.same(stand{e: api.ErrLimit}) {
		t.Error(brief(got))
	}
}

// TestApplyTellsWhatIsWrongFirst gives all that is wrong behind, too.
func TestApplyTellsWhatIsWrongFirst(t *testing.T) {
	v := set("1 1,61")
	wrongView := pairs(pair(1, num(1), text("b")), pair(1, num(1), text("a")))
	wrongEntries := map[api.Errno]api.Entry{
		api.ErrKind:  {Kind: 2, Seq: -1, Pairs: make([]api.Pair, 1025)},
		api.ErrRange: snapshot(greatest+1, make([]api.Pair, 1025)),
		api.ErrArg:   snapshot(9, make([]api.Pair, 1)),
		api.ErrLimit: delta(9, make([]api.Pair, 1025)),
		api.ErrSeq:   snapshot(9, nil),
		api.ErrView:  snapshot(3, nil),
		api.ErrOver:  delta(4, set("9223372036854775807 1,61")),
	}
	for want, e := range wrongEntries {
		for schemaE, s := range wrongSchemas() {
			if got := apply(s, -1, wrongView, e); !got.same(stand{e: schemaE}) {
				t.Errorf("of a wrong schema, and %v: %v", want, got)
			}
		}
		for viewE, a := range wrongSets() {
			for _, seq := range []int64{-1, 3, greatest + 1} {
				if got := apply(example, seq, a, e); !got.same(stand{e: viewE}) {
					t.Errorf("of a wrong view, and %v: %v", want, got)
				}
				checkApply(t, example, seq, a, e)
			}
		}
		for _, seq := range wrongNumbers() {
			if got := apply(example, seq, v, e); !got.same(stand{e: api.ErrRange}) {
				t.Errorf("of the number %d, and %v: %v", seq, want, got)
			}
			checkApply(t, example, seq, v, e)
		}
		if got := apply(example, 3, v, e); !got.same(stand{e: want}) {
			t.Errorf("%v: %v", want, got)
		}
		checkApply(t, example, 3, v, e)
	}
	// A number of the entry's that would follow is refused all the same, where it may not be.
	for _, seq := range wrongNumbers() {
		for _, e := range []api.Entry{delta(seq+1, nil), snapshot(seq, v)} {
			if got := apply(example, seq, v, e); !got.same(stand{e: api.ErrRange}) {
				t.Errorf("of the number %d: %v", seq, got)
			}
		}
	}
}

// TestApplyOfAll holds it against the document's words, each entry behind many numbers and views.
func TestApplyOfAll(t *testing.T) {
	m := mixer(192837465)
	for _, s := range schemas() {
		for _, e := range entries(s) {
			if len(e.Pairs) > 100 {
				continue
			}
			for _, seq := range []int64{e.Seq - 1, e.Seq, e.Seq + 1, 0} {
				for _, view := range [][]api.Pair{nil, e.Pairs, m.set(s, 3), m.set(s, 9)} {
					checkApply(t, s, seq, view, e)
				}
			}
		}
	}
}

// P12.4

func TestEntriesAreReadOfTheirFrames(t *testing.T) {
	for _, s := range schemas() {
		seen := map[string]api.Entry{}
		for _, e := range entries(s) {
			b := checkWrite(t, s, e)
			kind, payload, n, wrong := frame.Next(append(slices.Clip(b), "behind"...))
			if wrong != api.OK || n != len(b) || kind != frameKind(e) {
				t.Fatalf("the frame of %s: %d, %d, %v", brief(e), kind, n, wrong)
			}
			if got, wrong := entry.Read(s, kind, payload); wrong != api.OK || !same(got, e) {
				t.Fatalf("Read of the frame of %s = %s, %v", brief(e), brief(got), wrong)
			}
			checkRead(t, s, kind, payload)
			if other, ok := seen[string(b)]; ok && !same(other, e) {
				t.Fatalf("%s and %s have the same frame", brief(other), brief(e))
			}
			seen[string(b)] = e
		}
	}
}

func TestASnapshotChangesNothing(t *testing.T) {
	m := mixer(987654321)
	for _, s := range schemas() {
		for _, seq := range numbers() {
			v := m.set(s, m.below(30))
			got := apply(s, seq, v, snapshot(seq, deep(v)))
			if !got.same(stand{seq, v, api.OK}) {
				t.Fatalf("behind %d and %s: %s", seq, brief(v), brief(got))
			}
			if again := apply(s, got.seq, got.view, snapshot(seq, v)); !again.same(got) {
				t.Fatalf("behind %d and %s, twice: %s", seq, brief(v), brief(again))
			}
		}
	}
}

// TestDeltasOneBehindTheOther come to the sum of all, with Snapshots between them.
func TestDeltasOneBehindTheOther(t *testing.T) {
	m := mixer(362436069)
	for _, s := range schemas() {
		for _, from := range []int64{0, 126, greatest - 60} {
			at := stand{seq: from}
			var all [][]api.Pair
			for range 60 {
				a := m.set(s, m.below(6))
				all = append(all, a)
				at = checkApply(t, s, at.seq, at.view, delta(at.seq+1, a))
				want, wrong := sumOf(s, all...)
				if wrong != api.OK || !at.same(stand{from + int64(len(all)), want, api.OK}) {
					t.Fatalf("behind %d Deltas: %s; want %s", len(all), brief(at), brief(want))
				}
				if m.below(3) == 0 {
					at = checkApply(t, s, at.seq, at.view, snapshot(at.seq, at.view))
				}
			}
		}
	}
}

// The rules of all layers.

// TestWhatIsHandedInStays calls all with lists that have more behind their length, and rows that have.
func TestWhatIsHandedInStays(t *testing.T) {
	room := columns(api.Int, api.Text, api.Bool)
	s := room[:2]
	wide := []api.Cell{num(1), text("a"), num(9)}
	all := pairs(api.Pair{Row: wide[:2], Weight: 2}, pair(3, num(2), text("b")), pair(7, num(7), text("z")))
	keep, keepWide := deep(all), slices.Clone(wide)
	view := all[:2]
	payload := append(payloadOf(s, delta(5, view)), 99, 99)
	keepPayload := slices.Clone(payload)
	for range 2 {
		entry.Check(s, delta(1, view))
		entry.Write(s, snapshot(1, view))
		entry.Apply(s, 4, view, delta(5, all[2:]))
		entry.Apply(s, 4, view, delta(5, view))
		entry.Apply(s, 4, view, snapshot(4, view))
		entry.Apply(s, 4, view[:1], snapshot(4, view))
		if e, wrong := entry.Read(s, 2, payload[:len(payload)-2]); wrong != api.OK || !same(e, delta(5, view)) {
			t.Error(e, wrong)
		}
	}
	if !zset.Same(all, keep) || !slices.Equal(wide, keepWide) || !bytes.Equal(payload, keepPayload) || !slices.Equal(room, columns(api.Int, api.Text, api.Bool)) {
		t.Errorf("what was handed in became %v, %v, %v, %v", all, wide, payload, room)
	}
}

// spoil changes all of a list, and what lies behind it and its rows.
func spoil(l []api.Pair) {
	for i := range l {
		r := l[i].Row[:cap(l[i].Row)]
		for k := range r {
			r[k] = api.Cell{Num: 99, Text: "spoilt"}
		}
		l[i].Weight = 99
	}
	l = l[:cap(l)]
	for i := range l {
		l[i] = pair(99, num(99))
	}
}

// TestWhatIsAnsweredIsApart changes all that is answered, and what could lie behind it.
func TestWhatIsAnsweredIsApart(t *testing.T) {
	low := append(make([]api.Cell, 0, 9), num(1), text("a"))
	high := append(make([]api.Cell, 0, 9), num(2), text("b"))
	v := append(make([]api.Pair, 0, 9), api.Pair{Row: low, Weight: 2}, api.Pair{Row: high, Weight: 3})
	other := append(make([]api.Pair, 0, 9), v...)
	payload := payloadOf(example, delta(4, v))
	keep, keepPayload := deep(v), slices.Clone(payload)
	calls := map[string]func() []api.Pair{
		"Apply of a Delta":               func() []api.Pair { return apply(example, 3, v[:1], delta(4, v[1:])).view },
		"Apply of a Delta without pairs": func() []api.Pair { return apply(example, 3, v, delta(4, nil)).view },
		"Apply to a view without pairs":  func() []api.Pair { return apply(example, 3, nil, delta(4, v)).view },
		"Apply of a Snapshot":            func() []api.Pair { return apply(example, 4, v, snapshot(4, other)).view },
		"Apply of a Snapshot, the view":  func() []api.Pair { return apply(example, 4, v, snapshot(4, v)).view },
		"Read": func() []api.Pair {
			e, _ := entry.Read(example, 2, payload)
			return e.Pairs
		},
	}
	for name, call := range calls {
		first, second := call(), call()
		if !zset.Same(first, keep) || !zset.Same(second, keep) {
			t.Fatal(name, first, second)
		}
		spoil(first[:1:1])
		if !zset.Same(first[1:], keep[1:]) {
			t.Errorf("%s: rows of one answer share parts", name)
		}
		spoil(first)
		if !zset.Same(second, keep) || !zset.Same(v, keep) || !zset.Same(other, keep) || !bytes.Equal(payload, keepPayload) {
			t.Errorf("%s: what was answered is shared", name)
		}
		if len(low[:3][2].Text) > 0 || len(high[:3][2].Text) > 0 || v[:3][2].Row != nil || other[:3][2].Row != nil {
			t.Errorf("%s: what lies behind what was handed in is handed out", name)
		}
	}
	one, _ := entry.Write(example, delta(4, v))
	two, _ := entry.Write(example, delta(4, v))
	clear(one[:cap(one)])
	if !bytes.Equal(two, framedOf(2, payload)) {
		t.Errorf("what was written is shared: %v", two)
	}
	read, _ := entry.Read(example, 2, payload)
	clear(payload)
	if !same(read, delta(4, keep)) {
		t.Errorf("what was read shares its payload: %v", read)
	}
}

// TestAnAnswerHangsOnNothingAhead asks the same again, behind others.
func TestAnAnswerHangsOnNothingAhead(t *testing.T) {
	v := set("2 1,61; 1 2,62")
	for _, s := range schemas() {
		for _, e := range entries(s)[:40] {
			entry.Write(s, e)
			entry.Apply(s, e.Seq, e.Pairs, e)
			entry.Read(s, frameKind(e), payloadOf(s, e)[1:])
			checkApply(t, example, 3, v, delta(4, v))
			checkApply(t, example, 3, v, snapshot(3, v))
			checkWrite(t, example, delta(4, v))
		}
	}
}

// TestManyAtATime asks by many goroutines at a time, of the same lists.
func TestManyAtATime(t *testing.T) {
	m := mixer(77)
	v, a := m.set(example, 60), m.set(example, 60)
	want := applyOf(example, 3, v, delta(4, a))
	wantB := framedOf(2, payloadOf(example, delta(4, a)))
	var all sync.WaitGroup
	for range 16 {
		all.Go(func() {
			b, e := entry.Write(example, delta(4, a))
			kind, payload, _, d := frame.Next(b)
			got, f := entry.Read(example, kind, payload)
			behind := apply(example, 3, v, got)
			if e != api.OK || d != api.OK || f != api.OK || !bytes.Equal(b, wantB) || !same(got, delta(4, a)) || !behind.same(want) {
				t.Error(e, d, f, got, behind)
			}
			if after := apply(example, 4, behind.view, snapshot(4, want.view)); !after.same(want) {
				t.Error(after)
			}
		})
	}
	all.Wait()
}
