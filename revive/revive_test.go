package revive_test

import (
	"bytes"
	"fmt"
	"hash/crc32"
	"math"
	"math/big"
	"slices"
	"strings"
	"sync"
	"testing"

	"deckle/api"
	"deckle/batch"
	"deckle/cell"
	"deckle/revive"
	"deckle/row"
	"deckle/trace"
	"deckle/zset"
)

const (
	top    = math.MaxInt64
	bottom = math.MinInt64
	most   = 4096 // entries
)

// example is the schema of the document's own examples.
var example = []api.Column{{Name: "id", Kind: api.Int}, {Name: "name", Kind: api.Text}}

// columns are such of those kinds, named a, b, c and so on.
func columns(kinds ...int) []api.Column {
	var s []api.Column
	for i, kind := range kinds {
		s = append(s, api.Column{Name: string(rune('a' + i)), Kind: kind})
	}
	return s
}

func num(x uint64) api.Cell { return api.Cell{Num: x} }

func text(s string) api.Cell { return api.Cell{Text: s} }

func pair(w int64, l ...api.Cell) api.Pair { return api.Pair{Row: l, Weight: w} }

func pairs(l ...api.Pair) []api.Pair { return l }

// p is a pair of the example's schema.
func p(w, id int64, name string) api.Pair { return pair(w, cell.Int(id), text(name)) }

// set is the one of a text, of the example's schema.
func set(x string) []api.Pair {
	a, e := zset.Read(example, x)
	if e != api.OK {
		panic(x + ": " + e.Error())
	}
	return a
}

func delta(seq int64, a []api.Pair) api.Entry { return api.Entry{Kind: api.Delta, Seq: seq, Pairs: a} }

func snapshot(seq int64, a []api.Pair) api.Entry {
	return api.Entry{Kind: api.Snapshot, Seq: seq, Pairs: a}
}

// many are n pairs of one number each, in order, from that one on.
func many(from, n int) []api.Pair {
	var l []api.Pair
	for i := range n {
		l = append(l, pair(1, num(uint64(from+i))))
	}
	return l
}

// deep is a copy that shares nothing.
func deep(l []api.Pair) []api.Pair {
	l = slices.Clone(l)
	for i, p := range l {
		l[i].Row = slices.Clone(p.Row)
	}
	return l
}

// brief is a text of x that can be told whole, if x is small.
func brief(x any) string {
	s := fmt.Sprint(x)
	if len(s) > 300 {
		return s[:300] + ".."
	}
	return s
}

// wrongSchemas are such as may not be, and what layer 5 says of them.
func wrongSchemas() map[api.Errno][]api.Column {
	return map[api.Errno][]api.Column{
		api.ErrNone:  {},
		api.ErrLimit: make([]api.Column, 9),
		api.ErrLong:  {{Name: strings.Repeat("a", 33)}},
		api.ErrArg:   {{Name: "A"}},
		api.ErrKind:  {{Name: "a", Kind: 6}},
	}
}

// schemas are some with each kind, and with as many columns, and as long a name, as may be.
func schemas() [][]api.Column {
	return [][]api.Column{
		columns(api.Int), columns(api.Uint), columns(api.Bool), columns(api.Bytes), columns(api.Text), columns(api.Float),
		example, columns(api.Bool, api.Text, api.Float),
		{{Name: strings.Repeat("_", 32), Kind: api.Text}},
		columns(api.Int, api.Uint, api.Bool, api.Bytes, api.Text, api.Float, api.Int, api.Text),
	}
}

// heavy are 600 rows of one number and seven texts, whose bytes are more than a payload's may be.
func heavy() ([]api.Column, []api.Pair) {
	s := columns(api.Uint, api.Bytes, api.Bytes, api.Bytes, api.Bytes, api.Bytes, api.Bytes, api.Bytes)
	var a []api.Pair
	for i := range 600 {
		r := []api.Cell{num(uint64(i))}
		for range 7 {
			// No two that stand one behind the other begin alike, so a text has 259 bytes.
			r = append(r, text(string(rune('a'+i%2))+strings.Repeat("x", 255)))
		}
		a = append(a, pair(1, r...))
	}
	return s, a
}

// mixer makes the same numbers at each run, that look like any.
type mixer uint32

func (m *mixer) below(n int) int {
	*m ^= *m << 13
	*m ^= *m >> 17
	*m ^= *m << 5
	return int(uint32(*m)>>3) % n
}

// cellsOf are such of a kind as may be.
func cellsOf(kind int) []api.Cell {
	switch kind {
	case api.Int:
		return []api.Cell{cell.Int(bottom), cell.Int(-1), num(0), num(64), cell.Int(top)}
	case api.Uint:
		return []api.Cell{num(0), num(1), num(128), num(math.MaxUint64)}
	case api.Bool:
		return []api.Cell{num(0), num(1)}
	case api.Bytes:
		return []api.Cell{text(""), text("\x00"), text("ab"), text("\xff"), text(strings.Repeat("\xff", 256))}
	case api.Text:
		return []api.Cell{text(""), text("a"), text("ab"), text("ä"), text(strings.Repeat("ä", 128))}
	}
	return []api.Cell{num(math.MaxUint64), num(1 << 63), num(0), num(0x3ff0000000000000)}
}

// pairs are n of any rows and weights, some of which may not be, or are too great.
func (m *mixer) pairs(s []api.Column, n int) []api.Pair {
	weights := []int64{-3, -2, -1, 0, 1, 2, 3, 1, -1, 2}
	if m.below(9) == 0 {
		weights = append(weights, top, bottom)
	}
	var l []api.Pair
	for range n {
		var r []api.Cell
		for _, c := range s {
			from := cellsOf(c.Kind)
			r = append(r, from[m.below(len(from))])
		}
		switch m.below(60) {
		case 0:
			r = r[1:]
		case 1:
			r[0] = api.Cell{Num: 2, Text: strings.Repeat("\xff", 257)}
		}
		l = append(l, pair(weights[m.below(len(weights))], r...))
	}
	return l
}

// The document's words, told anew. (What is wrong with a row is layer 6's, with a schema layer 5's; a set's bytes are layer 10's.)

// numberOf are the bytes of a number that isn't below 0.
func numberOf(x int64) []byte {
	var b []byte
	for x >= 128 {
		b = append(b, byte(x%128)+128)
		x /= 128
	}
	return append(b, byte(x))
}

// framedOf are the bytes of a frame.
func framedOf(kind byte, payload []byte) []byte {
	b := append([]byte{kind}, numberOf(int64(len(payload)))...)
	b = append(b, payload...)
	sum := crc32.Checksum(b, crc32.MakeTable(crc32.Castagnoli))
	return append(b, byte(sum), byte(sum>>8), byte(sum>>16), byte(sum>>24))
}

func headOf(s []api.Column) []byte {
	b := []byte{byte(len(s))}
	for _, c := range s {
		b = append(b, byte(len(c.Name)))
		b = append(b, c.Name...)
		b = append(b, byte(c.Kind))
	}
	return append([]byte("DKL1"), framedOf(0, b)...)
}

func frameOf(s []api.Column, e api.Entry) []byte {
	b, wrong := batch.Write(s, e.Pairs)
	if wrong != api.OK {
		panic(wrong)
	}
	kind := byte(2)
	if e.Kind == api.Snapshot {
		kind = 1
	}
	return framedOf(kind, append(numberOf(e.Seq), b...))
}

// fileOf are the head, and the entries' frames, whether they follow or not.
func fileOf(s []api.Column, l ...api.Entry) []byte {
	b := headOf(s)
	for _, e := range l {
		b = append(b, frameOf(s, e)...)
	}
	return b
}

// collectOf is the set of pairs, by sums of any size.
func collectOf(s []api.Column, l []api.Pair) ([]api.Pair, api.Errno) {
	type group struct {
		row []api.Cell
		sum *big.Int
	}
	var all []group
	for _, p := range l {
		if wrong := row.Check(s, p.Row); wrong != api.OK {
			return nil, wrong
		}
		i := slices.IndexFunc(all, func(g group) bool { return slices.Equal(g.row, p.Row) })
		if i < 0 {
			i, all = len(all), append(all, group{p.Row, new(big.Int)})
		}
		all[i].sum.Add(all[i].sum, big.NewInt(p.Weight))
	}
	var set []api.Pair
	for _, g := range all {
		if !g.sum.IsInt64() {
			return nil, api.ErrOver
		}
		if g.sum.Sign() != 0 {
			set = append(set, pair(g.sum.Int64(), g.row...))
		}
	}
	slices.SortFunc(set, func(a, b api.Pair) int { return row.Compare(s, a.Row, b.Row) })
	if len(set) > 1024 {
		return nil, api.ErrLimit
	}
	return set, api.OK
}

// state is what stands behind a head, or behind an entry: where its frame ends, the number, and the view.
type state struct {
	end  int
	seq  int64
	view []api.Pair
}

// walk goes through b as long as it is a file of s, and tells what stands behind its head, and behind each entry; nothing, if it has no head.
func walk(s []api.Column, b []byte) []state {
	head := headOf(s)
	if !bytes.HasPrefix(b, head) {
		return nil
	}
	l := []state{{end: len(head)}}
	for len(l) <= most {
		next, ok := follow(s, b, l[len(l)-1])
		if !ok {
			break
		}
		l = append(l, next)
	}
	return l
}

// follow is what stands behind the entry that begins at at's end, if there is one that follows.
func follow(s []api.Column, b []byte, at state) (state, bool) {
	kind, payload, size := frameIn(b[at.end:])
	seq := at.seq
	if kind == 2 {
		seq++
	}
	body, ok := bytes.CutPrefix(payload, numberOf(seq))
	if size == 0 || kind == 0 || !ok {
		return state{}, false
	}
	l, _, wrong := batch.Read(body, s)
	if wrong != api.OK {
		return state{}, false
	}
	view := at.view
	if kind == 2 {
		view, wrong = collectOf(s, slices.Concat(view, l))
	}
	if wrong != api.OK || kind == 1 && !zset.Same(view, l) {
		return state{}, false
	}
	return state{at.end + size, seq, view}, true
}

// frameIn is the frame that b begins with, and how many bytes it has: 0, if there is none.
func frameIn(b []byte) (byte, []byte, int) {
	size, n := 0, 1
	for n < min(len(b), 5) {
		size += int(b[n]&127) << (7 * (n - 1))
		n++
		if b[n-1] < 128 {
			break
		}
	}
	end := n + size
	if len(b) < end+4 || size > 1048576 || b[0] > 2 || !bytes.Equal(framedOf(b[0], b[n:end]), b[:end+4]) {
		return 0, nil, 0
	}
	return b[0], b[n:end], end + 4
}

// model is what a log has, by the document's words.
type model struct {
	s    []api.Column
	b    []byte
	l    []state // behind the head, and behind each entry
	safe int     // so many entries
}

func modelOf(s []api.Column) *model {
	b := headOf(s)
	return &model{s: s, b: b, l: []state{{end: len(b)}}}
}

func (m *model) many() int { return len(m.l) - 1 }

func (m *model) last() state { return m.l[m.many()] }

// loose is how many bytes aren't safe.
func (m *model) loose() int { return len(m.b) - m.l[m.safe].end }

func (m *model) append(l []api.Pair) api.Errno {
	if m.many() == most {
		return api.ErrLimit
	}
	change, wrong := collectOf(m.s, l)
	if wrong != api.OK {
		return wrong
	}
	view, wrong := collectOf(m.s, slices.Concat(m.last().view, change))
	if wrong != api.OK {
		return wrong
	}
	return m.put(delta(m.last().seq+1, change), view)
}

func (m *model) snap() api.Errno {
	if m.many() == most {
		return api.ErrLimit
	}
	return m.put(snapshot(m.last().seq, m.last().view), m.last().view)
}

func (m *model) put(e api.Entry, view []api.Pair) api.Errno {
	b := frameOf(m.s, e)
	if len(b) > 1+3+1048576+4 {
		return api.ErrLimit
	}
	m.b = append(m.b, b...)
	m.l = append(m.l, state{len(m.b), e.Seq, view})
	return api.OK
}

func (m *model) crash(keep int, junk []byte) api.Errno {
	if keep < 0 || keep > m.loose() {
		return api.ErrRange
	}
	if len(junk) > m.loose()-keep {
		return api.ErrLong
	}
	torn := slices.Concat(m.b[:m.l[m.safe].end+keep], junk)
	m.l = walk(m.s, torn)
	m.b = slices.Clone(torn[:m.last().end])
	m.safe = m.many()
	return api.OK
}

// both is a log, and what it should be.
type both struct {
	t *testing.T
	l *revive.Log
	m *model
}

// start is a new log.
func start(t *testing.T, s []api.Column) *both {
	t.Helper()
	l, e := revive.New(s)
	if e != api.OK || l == nil {
		t.Fatalf("New(%v): %v", s, e)
	}
	x := &both{t, l, modelOf(s)}
	x.check()
	return x
}

// check holds what the log has against what it should have.
func (x *both) check() {
	x.t.Helper()
	l, m := x.l, x.m
	if !bytes.Equal(l.Bytes(), m.b) {
		x.t.Fatalf("Bytes = %s; want %s", brief(l.Bytes()), brief(m.b))
	}
	if l.Seq() != m.last().seq || l.Many() != m.many() || l.Safe() != m.safe || !zset.Same(l.View(), m.last().view) {
		x.t.Fatalf("%d, %d, %d, %s; want %d, %d, %d, %s", l.Seq(), l.Many(), l.Safe(), brief(l.View()), m.last().seq, m.many(), m.safe, brief(m.last().view))
	}
}

func (x *both) append(l ...api.Pair) api.Errno {
	x.t.Helper()
	e, want := x.l.Append(l...), x.m.append(l)
	if e != want {
		x.t.Fatalf("Append(%s) = %v; want %v", brief(l), e, want)
	}
	x.check()
	return e
}

func (x *both) snap() api.Errno {
	x.t.Helper()
	e, want := x.l.Snap(), x.m.snap()
	if e != want {
		x.t.Fatalf("Snap = %v; want %v", e, want)
	}
	x.check()
	return e
}

func (x *both) sync() {
	x.t.Helper()
	if e := x.l.Sync(); e != api.OK {
		x.t.Fatalf("Sync = %v", e)
	}
	x.m.safe = x.m.many()
	x.check()
}

func (x *both) crash(keep int, junk ...byte) api.Errno {
	x.t.Helper()
	e, want := x.l.Crash(keep, junk), x.m.crash(keep, junk)
	if e != want {
		x.t.Fatalf("Crash(%d, %s) = %v; want %v", keep, brief(junk), e, want)
	}
	x.check()
	return e
}

// taken holds calls against none that was refused.
func (x *both) taken(l ...api.Errno) {
	x.t.Helper()
	for i, e := range l {
		if e != api.OK {
			x.t.Fatalf("%d: %v", i, e)
		}
	}
}

// is holds what the log has against what a test tells.
func (x *both) is(many, safe int, seq int64, view string) {
	x.t.Helper()
	x.check()
	if x.l.Many() != many || x.l.Safe() != safe || x.l.Seq() != seq || !zset.Same(x.l.View(), set(view)) {
		x.t.Fatalf("%d, %d, %d, %v; want %d, %d, %d, %s", x.l.Many(), x.l.Safe(), x.l.Seq(), x.l.View(), many, safe, seq, view)
	}
}

// two is a log of two changes, the first one safe; and how many bytes the second one has.
func two(t *testing.T) (*both, int) {
	t.Helper()
	x := start(t, example)
	x.taken(x.append(p(2, 1, "a")))
	x.sync()
	x.taken(x.append(p(1, 2, "b")))
	return x, x.m.loose()
}

// left holds Revive of b against what is left of it, by the document's words, and tells how many bytes that is.
func left(t *testing.T, s []api.Column, b []byte) int {
	t.Helper()
	l := walk(s, b)
	n, y, e := revive.Revive(b)
	if len(l) == 0 {
		_, _, want := trace.Decode(b)
		if n != 0 || len(y.Schema) != 0 || len(y.Entries) != 0 || e != want || e == api.OK {
			t.Fatalf("Revive(%s) = %d, %s, %v; want %v", brief(b), n, brief(y), e, want)
		}
		return 0
	}
	end := l[len(l)-1].end
	if n != end || e != api.OK || !slices.Equal(y.Schema, s) || len(y.Entries) != len(l)-1 {
		t.Fatalf("Revive(%s) = %d, %s, %v; want %d, %d entries", brief(b), n, brief(y), e, end, len(l)-1)
	}
	if again := fileOf(y.Schema, y.Entries...); !bytes.Equal(again, b[:n]) {
		t.Fatalf("Revive(%s): another trace, %s", brief(b), brief(y))
	}
	return n
}

// P16.1

func TestReviveOfWhatIsWhole(t *testing.T) {
	view := set("2 1,61; 1 2,62")
	for i, l := range [][]api.Entry{
		nil,
		{snapshot(0, nil)},
		{delta(1, nil)},
		{delta(1, view), snapshot(1, view), snapshot(1, view)},
		{snapshot(0, nil), delta(1, view), delta(2, set("-2 1,61")), snapshot(2, set("1 2,62")), delta(3, nil)},
	} {
		b := fileOf(example, l...)
		n, y, e := revive.Revive(b)
		if n != len(b) || e != api.OK || !trace.Same(y, api.Trace{Schema: example, Entries: l}) {
			t.Errorf("%d: Revive = %d, %v, %v", i, n, y, e)
		}
	}
	for _, s := range schemas() {
		b := headOf(s)
		if n, y, e := revive.Revive(b); n != len(b) || e != api.OK || !trace.Same(y, api.Trace{Schema: s}) {
			t.Errorf("Revive of a head of %v: %d, %v, %v", s, n, y, e)
		}
	}
}

// TestReviveOfWhatHasNoHead tells no trace, and what is wrong with the head.
func TestReviveOfWhatHasNoHead(t *testing.T) {
	head := headOf(example)
	first := frameOf(example, delta(1, set("1 1,61")))
	turned := slices.Clone(head)
	turned[len(head)-1] ^= 1
	magic := func(b ...byte) []byte { return append([]byte("DKL1"), b...) }
	for i, c := range []struct {
		b    []byte
		want api.Errno
	}{
		{nil, api.ErrForm}, {[]byte{}, api.ErrForm}, {[]byte("D"), api.ErrForm}, {[]byte("DKL"), api.ErrForm}, {[]byte("DKL2"), api.ErrForm}, {head[1:], api.ErrForm},
		{first, api.ErrForm}, {head[4:], api.ErrForm}, {append([]byte{0}, head...), api.ErrForm},
		{magic(), api.ErrShort}, {magic(0), api.ErrShort}, {head[:len(head)-1], api.ErrShort}, {head[:5], api.ErrShort},
		{magic('x'), api.ErrKind}, {magic(3), api.ErrKind}, {magic(first...), api.ErrKind}, {magic(framedOf(1, []byte{0, 0})...), api.ErrKind},
		{turned, api.ErrSum}, {slices.Concat(turned, first), api.ErrSum}, {magic(slices.Concat([]byte{0}, make([]byte, 6))...), api.ErrSum},
		{magic(0, 128, 0), api.ErrForm}, {magic(0, 129, 128, 64), api.ErrLimit},
		{magic(framedOf(0, []byte{0})...), api.ErrNone}, {magic(framedOf(0, nil)...), api.ErrShort}, {magic(framedOf(0, []byte{1, 1, 'a', 6})...), api.ErrKind},
		{magic(framedOf(0, []byte{1, 1, 'A', 0})...), api.ErrArg}, {magic(framedOf(0, []byte{1, 1, 'a', 0, 0})...), api.ErrLong}, {magic(framedOf(0, []byte{9})...), api.ErrRange},
		{magic(slices.Concat(framedOf(0, []byte{0}), first)...), api.ErrNone},
	} {
		n, y, e := revive.Revive(c.b)
		_, _, decoded := trace.Decode(c.b)
		if n != 0 || len(y.Schema) != 0 || len(y.Entries) != 0 || e != decoded || e == api.OK {
			t.Errorf("%d: Revive(%v) = %d, %v, %v; want %v", i, c.b, n, y, e, decoded)
		}
		if e != c.want {
			t.Errorf("%d: Revive(%v): %v; want %v", i, c.b, e, c.want)
		}
	}
}

// tornable is a file of some entries of each kind, and what stands behind each.
func tornable() ([]byte, []state) {
	view := set("2 1,61; 1 2,62")
	b := fileOf(example, snapshot(0, nil), delta(1, view), snapshot(1, view), delta(2, set("-2 1,61; 5 300,6162")), delta(3, nil), snapshot(3, set("1 2,62; 5 300,6162")))
	l := walk(example, b)
	if len(l) != 7 || l[6].end != len(b) {
		panic("no file")
	}
	return b, l
}

// TestReviveOfEachBeginning cuts a file at each place, with and without bytes behind that are no entry.
func TestReviveOfEachBeginning(t *testing.T) {
	b, l := tornable()
	for i := range len(b) + 1 {
		want := 0
		for _, at := range l {
			if at.end <= i {
				want = at.end
			}
		}
		if n := left(t, example, b[:i]); n != want {
			t.Errorf("Revive of %d bytes: %d; want %d", i, n, want)
		}
		for _, junk := range []string{"\x00", "\x01", "\x02", "\x03", "\xff\xff", "junk", "DKL1", "\x02\x00", "\x02\x80\x80\x80\x80\x80\x80\x80\x80\x80\x80", string(b), string(b[4:]), string(b[:i])} {
			left(t, example, append(slices.Clone(b[:i]), junk...))
		}
		left(t, example, b[i:])
	}
}

// TestReviveOfEachTurnedByte turns one byte into each other one.
func TestReviveOfEachTurnedByte(t *testing.T) {
	b, l := tornable()
	for i := range b {
		want := 0 // where what the byte is in begins; there is nothing ahead of a head
		for _, at := range l {
			if at.end <= i {
				want = at.end
			}
		}
		for c := range 256 {
			turned := slices.Clone(b)
			turned[i] = byte(c)
			if turned[i] == b[i] {
				continue
			}
			// A length that is another one may end its frame where the bytes say so, but no sum is right then.
			if n := left(t, example, turned); n != want {
				t.Fatalf("Revive with %d at %d: %d; want %d", c, i, n, want)
			}
		}
	}
}

// TestReviveIsTheGreatestBeginning finds none that is greater, and is a trace.
func TestReviveIsTheGreatestBeginning(t *testing.T) {
	b, _ := tornable()
	m := mixer(17)
	for range 300 {
		torn := slices.Clone(b[:m.below(len(b)+1)])
		for range m.below(3) {
			if len(torn) > 0 {
				torn[m.below(len(torn))] ^= 1 << m.below(8)
			}
		}
		n, y, e := revive.Revive(torn)
		greatest, want := 0, api.Trace{}
		for i := range len(torn) + 1 {
			if z, _, wrong := trace.Decode(torn[:i]); wrong == api.OK {
				greatest, want = i, z
			}
		}
		if n != greatest || !trace.Same(y, want) || (e == api.OK) != (greatest > 0) {
			t.Fatalf("Revive(%v) = %d, %v, %v; want %d, %v", torn, n, y, e, greatest, want)
		}
	}
}

// TestReviveOfEntriesThatDontFollow leaves them, and all behind them.
func TestReviveOfEntriesThatDontFollow(t *testing.T) {
	view := set("2 1,61; 1 2,62")
	ahead := fileOf(example, delta(1, view))
	more := frameOf(example, delta(2, nil))
	for i, b := range [][]byte{
		frameOf(example, delta(1, nil)), frameOf(example, delta(3, nil)), frameOf(example, delta(0, nil)), // numbers
		frameOf(example, snapshot(0, view)), frameOf(example, snapshot(2, view)),
		frameOf(example, snapshot(1, nil)), frameOf(example, snapshot(1, view[:1])), // views
		frameOf(example, delta(2, set("9223372036854775807 1,61"))), // sums
		framedOf(0, nil), headOf(example)[4:], headOf(example), // kinds
		framedOf(2, []byte{2, 0, 0}), framedOf(2, []byte{2}), framedOf(2, nil), framedOf(2, []byte{130, 0, 0}), framedOf(1, numberOf(1<<48+1)),
		framedOf(2, []byte{2, 1, 2, 0, 1, 97, 0}), framedOf(2, []byte{2, 2, 2, 0, 0, 1, 97, 0, 1, 97, 2, 2}),
		{2, 130, 0, 2, 0}, {3}, {2}, {255},
	} {
		for _, behind := range [][]byte{nil, more, {7}} {
			torn := slices.Concat(ahead, b, behind)
			if n := left(t, example, torn); n != len(ahead) {
				t.Errorf("%d: Revive(%v) = %d; want %d", i, torn, n, len(ahead))
			}
		}
	}
	if n := left(t, example, slices.Concat(ahead, more, more)); n != len(ahead)+len(more) {
		t.Error(n)
	}
}

// TestReviveOfMoreEntriesThanMayBe leaves those beyond.
func TestReviveOfMoreEntriesThanMayBe(t *testing.T) {
	b := headOf(example)
	for i := range most {
		b = append(b, frameOf(example, delta(int64(i+1), nil))...)
	}
	for _, behind := range [][]byte{nil, frameOf(example, delta(most+1, nil)), frameOf(example, snapshot(most, nil)), {2}} {
		if n, y, e := revive.Revive(slices.Concat(b, behind)); n != len(b) || len(y.Entries) != most || e != api.OK {
			t.Errorf("Revive with %v = %d, %d, %v", behind, n, len(y.Entries), e)
		}
	}
}

func TestReviveOfEachSchema(t *testing.T) {
	m := mixer(41)
	for _, s := range schemas() {
		x := start(t, s)
		for range 12 {
			x.append(m.pairs(s, m.below(4))...)
			if m.below(3) == 0 {
				x.snap()
			}
		}
		for range 60 {
			left(t, s, x.m.b[:m.below(len(x.m.b)+1)])
		}
		left(t, s, x.m.b)
	}
}

// P16.2

func TestNew(t *testing.T) {
	for _, s := range schemas() {
		x := start(t, s)
		if l := x.l; !bytes.Equal(l.Bytes(), headOf(s)) || l.Seq() != 0 || len(l.View()) != 0 || l.Many() != 0 || l.Safe() != 0 {
			t.Errorf("New(%v): %v, %d, %v, %d, %d", s, l.Bytes(), l.Seq(), l.View(), l.Many(), l.Safe())
		}
	}
	for want, s := range wrongSchemas() {
		if l, e := revive.New(s); l != nil || e != want {
			t.Errorf("New(%v): %v; want %v", s, e, want)
		}
	}
	if l, e := revive.New(nil); l != nil || e != api.ErrNone {
		t.Errorf("New(nil): %v", e)
	}
}

// TestTheHeadIsSafe finds nothing that a crash of a new log could take.
func TestTheHeadIsSafe(t *testing.T) {
	for _, s := range schemas() {
		x := start(t, s)
		if e := x.crash(1); e != api.ErrRange {
			t.Error(e)
		}
		if e := x.crash(0, 'x'); e != api.ErrLong {
			t.Error(e)
		}
		x.taken(x.crash(0), x.append(), x.crash(0), x.snap(), x.crash(0))
		if !bytes.Equal(x.l.Bytes(), headOf(s)) {
			t.Error(x.l.Bytes())
		}
	}
}

func TestAppendAndSnap(t *testing.T) {
	x := start(t, example)
	b := headOf(example)
	for i, c := range []struct {
		l    []api.Pair
		snap bool
		want []byte
		seq  int64
		view string
	}{
		{nil, true, framedOf(1, []byte{0, 0}), 0, "-"},
		{pairs(p(2, 1, "a"), p(-1, 1, "a")), false, framedOf(2, []byte("\x01\x01\x02\x00\x01a\x02")), 1, "1 1,61"},
		{nil, true, framedOf(1, []byte("\x01\x01\x02\x00\x01a\x02")), 1, "1 1,61"},
		{nil, false, framedOf(2, []byte{2, 0}), 2, "1 1,61"},
		{pairs(p(-1, 1, "a")), false, framedOf(2, []byte("\x03\x01\x02\x00\x01a\x01")), 3, "-"},
		{nil, true, framedOf(1, []byte{3, 0}), 3, "-"},
	} {
		if c.snap {
			x.taken(x.snap())
		} else {
			x.taken(x.append(c.l...))
		}
		b = append(b, c.want...)
		if !bytes.Equal(x.l.Bytes(), b) {
			t.Fatalf("%d: %v; want %v", i, x.l.Bytes(), b)
		}
		x.is(i+1, 0, c.seq, c.view)
	}
}

// TestWhatMayNotBe leaves all as it is, what is safe too.
func TestWhatMayNotBe(t *testing.T) {
	long := strings.Repeat("a", 257)
	x := start(t, example)
	for range 3 {
		x.taken(x.append(p(1, 1, "a"), p(-1, 2, "b")), x.snap())
		for _, c := range []struct {
			want api.Errno
			l    []api.Pair
		}{
			{api.ErrArg, pairs(api.Pair{})}, {api.ErrArg, pairs(p(1, 1, "a"), pair(1, num(1)))},
			{api.ErrType, pairs(p(1, 1, "\xff"))}, {api.ErrLong, pairs(p(0, 1, long))},
			{api.ErrOver, pairs(p(top, 7, "z"), p(1, 7, "z"))}, {api.ErrOver, pairs(p(top, 1, "a"))}, {api.ErrOver, pairs(p(bottom, 2, "b"))},
			{api.ErrArg, pairs(p(top, 7, "z"), p(1, 7, "z"), api.Pair{})},
		} {
			loose := x.m.loose()
			if e := x.append(c.l...); e != c.want {
				t.Errorf("Append(%s) = %v; want %v", brief(c.l), e, c.want)
			}
			if e := x.crash(loose + 1); e != api.ErrRange {
				t.Error(e)
			}
		}
		x.sync()
	}
	y := start(t, columns(api.Uint))
	y.taken(y.append(many(0, 1024)...))
	if e := y.append(pair(1, num(1024))); e != api.ErrLimit {
		t.Error(e)
	}
	if e := y.append(many(0, 1025)...); e != api.ErrLimit {
		t.Error(e)
	}
	y.taken(y.crash(y.m.loose()))
}

// TestPayloadsOfMoreBytesThanMayBe can't be written, and nothing of them is on the disk.
func TestPayloadsOfMoreBytesThanMayBe(t *testing.T) {
	s, a := heavy()
	x := start(t, s)
	if e := x.append(a...); e != api.ErrLimit {
		t.Error(e)
	}
	x.taken(x.append(a[:300]...), x.snap(), x.append(a[300:]...))
	if e := x.snap(); e != api.ErrLimit {
		t.Error(e)
	}
	x.taken(x.crash(x.m.loose() - 1))
	if x.l.Many() != 2 {
		t.Error(x.l.Many())
	}
	x.taken(x.snap(), x.crash(0))
	x.taken(x.append(a[300:]...), x.crash(x.m.loose()))
	if e := x.snap(); e != api.ErrLimit {
		t.Error(e)
	}
}

// TestAsManyEntriesAsMayBe asks for one more, also behind crashes; one that loses some makes room for others.
func TestAsManyEntriesAsMayBe(t *testing.T) {
	x := start(t, example)
	for i := range most - 1 {
		if e, want := x.l.Append(), x.m.append(nil); e != api.OK || want != api.OK {
			t.Fatal(i, e)
		}
		if i == 1000 {
			x.sync()
		}
	}
	x.taken(x.append(p(1, 1, "a"), p(2, 2, "b"), p(3, 3, "c")))
	x.is(most, 1001, most, "1 1,61; 2 2,62; 3 3,63")
	for range 2 {
		if e := x.append(); e != api.ErrLimit {
			t.Error(e)
		}
		if e := x.append(api.Pair{}); e != api.ErrLimit {
			t.Error(e)
		}
		if e := x.snap(); e != api.ErrLimit {
			t.Error(e)
		}
	}
	// Junk of more entries than there is room for: the last one is gone.
	last := len(frameOf(example, delta(most, set("1 1,61; 2 2,62; 3 3,63"))))
	empty, full := frameOf(example, delta(most, nil)), frameOf(example, snapshot(most, nil))
	if len(empty)+len(full) > last {
		t.Fatal("the junk is too long")
	}
	x.taken(x.crash(x.m.loose()-last, append(slices.Clone(empty), full...)...))
	x.is(most, most, most, "-")
	if e := x.append(); e != api.ErrLimit {
		t.Error(e)
	}
	x.taken(x.crash(0))
	y := start(t, example)
	for range most {
		y.l.Append()
		y.m.append(nil)
	}
	y.taken(y.crash(y.m.loose() - 1))
	y.is(most-1, most-1, most-1, "-")
	y.taken(y.snap())
	if e := y.snap(); e != api.ErrLimit {
		t.Error(e)
	}
	y.taken(y.crash(0), y.append(p(1, 1, "a")))
	y.is(most, most-1, most, "1 1,61")
}

func TestSync(t *testing.T) {
	x := start(t, example)
	x.sync()
	x.is(0, 0, 0, "-")
	x.taken(x.append(p(1, 1, "a")))
	x.is(1, 0, 1, "1 1,61")
	x.sync()
	x.is(1, 1, 1, "1 1,61")
	x.taken(x.snap(), x.append())
	x.is(3, 1, 2, "1 1,61")
	x.sync()
	x.sync()
	x.is(3, 3, 2, "1 1,61")
	if e := x.crash(1); e != api.ErrRange {
		t.Error(e)
	}
	x.taken(x.crash(0))
	x.is(3, 3, 2, "1 1,61")
}

// P16.3

// TestTheExample is the document's own.
func TestTheExample(t *testing.T) {
	x, _ := two(t)
	b := x.l.Bytes()
	if e := x.l.Crash(3, nil); e != api.OK {
		t.Fatal(e)
	}
	if l := x.l; l.Many() != 1 || l.Safe() != 1 || l.Seq() != 1 || !zset.Same(l.View(), set("2 1,61")) || !bytes.HasPrefix(b, l.Bytes()) {
		t.Errorf("%d, %d, %d, %v", l.Many(), l.Safe(), l.Seq(), l.View())
	}
}

func TestCrash(t *testing.T) {
	_, n := two(t)
	second := frameOf(example, delta(2, set("1 2,62")))
	other := frameOf(example, delta(2, nil))
	full := frameOf(example, snapshot(1, set("2 1,61")))
	for i, c := range []struct {
		keep int
		junk []byte
		many int
		seq  int64
		view string
	}{
		{0, nil, 1, 1, "2 1,61"},
		{3, nil, 1, 1, "2 1,61"},
		{n - 1, nil, 1, 1, "2 1,61"},
		{n, nil, 2, 2, "2 1,61; 1 2,62"},
		{0, second, 2, 2, "2 1,61; 1 2,62"},
		{1, second[1:], 2, 2, "2 1,61; 1 2,62"},
		{n - 1, second[n-1:], 2, 2, "2 1,61; 1 2,62"},
		{n - 1, []byte{second[n-1] ^ 1}, 1, 1, "2 1,61"},
		{0, other, 2, 2, "2 1,61"},
		{0, full, 2, 1, "2 1,61"},
		{1, other[1:], 2, 2, "2 1,61"},
		{1, full[1:], 1, 1, "2 1,61"},
		{0, append(slices.Clone(other), 2), 2, 2, "2 1,61"},
		{0, append(slices.Clone(other), 'x', 'y'), 2, 2, "2 1,61"},
		{1, other, 1, 1, "2 1,61"},
		{0, frameOf(example, delta(1, nil)), 1, 1, "2 1,61"},
		{0, frameOf(example, delta(3, nil)), 1, 1, "2 1,61"},
		{0, frameOf(example, snapshot(1, nil)), 1, 1, "2 1,61"},
		{0, []byte("DKL1"), 1, 1, "2 1,61"},
	} {
		x, _ := two(t)
		if e := x.crash(c.keep, c.junk...); e != api.OK {
			t.Errorf("%d: Crash(%d, %v) = %v", i, c.keep, c.junk, e)
		}
		x.is(c.many, c.many, c.seq, c.view)
		if n := x.m.loose(); n != 0 {
			t.Errorf("%d: %d bytes aren't safe", i, n)
		}
		x.taken(x.append(p(1, 1, "a")), x.snap(), x.crash(0))
		x.is(c.many, c.many, c.seq, c.view)
	}
}

func TestCrashRefused(t *testing.T) {
	_, n := two(t)
	for _, c := range []struct {
		keep, junk int
		want       api.Errno
	}{
		{n + 1, 0, api.ErrRange}, {-1, 0, api.ErrRange}, {math.MaxInt, 0, api.ErrRange}, {math.MinInt, 0, api.ErrRange},
		{math.MaxInt - 3, 5, api.ErrRange}, {-1, 70000, api.ErrRange}, {n + 1, 1, api.ErrRange}, // the range goes ahead
		{n, 1, api.ErrLong}, {0, n + 1, api.ErrLong}, {1, n, api.ErrLong}, {n - 1, 2, api.ErrLong}, {0, 70000, api.ErrLong},
	} {
		x, _ := two(t)
		for range 2 {
			if e := x.crash(c.keep, make([]byte, c.junk)...); e != c.want {
				t.Errorf("Crash(%d, %d bytes) = %v; want %v", c.keep, c.junk, e, c.want)
			}
			x.is(2, 1, 2, "2 1,61; 1 2,62")
		}
		// What wasn't safe isn't safe still.
		x.taken(x.append(), x.crash(n))
		x.is(2, 2, 2, "2 1,61; 1 2,62")
		x, _ = two(t)
		x.crash(c.keep, make([]byte, c.junk)...)
		x.taken(x.crash(0))
		x.is(1, 1, 1, "2 1,61")
	}
}

// TestAllCrashesOfALog goes through all places, with bytes of many kinds laid in.
func TestAllCrashesOfALog(t *testing.T) {
	for safe := range 5 {
		play := func() *both {
			x := start(t, example)
			for i := range 4 {
				if i == safe {
					x.sync()
				}
				if i == 2 {
					x.taken(x.snap())
					continue
				}
				x.taken(x.append(p(1, int64(i), "a")))
			}
			if safe == 4 {
				x.sync()
			}
			return x
		}
		loose := play().m.loose()
		for keep := range loose + 1 {
			x := play()
			b := x.m.b[x.m.l[safe].end+keep:]
			for _, junk := range [][]byte{nil, {0}, {1}, {2}, {3, 0}, b, b[:len(b)/2], frameOf(example, delta(int64(safe+1), nil)), frameOf(example, snapshot(0, nil)), make([]byte, len(b)), make([]byte, len(b)+1)} {
				x := play()
				ahead := x.l.Bytes()
				whole := x.m.l[safe]
				if e := x.crash(keep, junk...); e == api.ErrRange || (e == api.OK) != (len(junk) <= len(b)) {
					t.Fatalf("Crash(%d, %v) = %v", keep, junk, e)
				}
				if !bytes.HasPrefix(x.l.Bytes(), ahead[:whole.end]) || x.l.Safe() < safe || len(x.l.Bytes()) > len(ahead) {
					t.Fatalf("Crash(%d, %v) left %v", keep, junk, x.l.Bytes())
				}
				x.append(p(5, 5, "e"))
				x.crash(0)
			}
		}
	}
}

// P16.4

// TestAllThatALogHas asks behind each of many calls.
func TestAllThatALogHas(t *testing.T) {
	m := mixer(2463534242)
	told := map[api.Errno]int{}
	lost, grown := 0, 0
	for _, s := range schemas() {
		for range 8 {
			x := start(t, s)
			for range 40 {
				switch m.below(9) {
				case 0:
					told[x.snap()]++
				case 1:
					x.sync()
				case 2, 3:
					was := x.m.many()
					told[x.crash(m.tear(x.m))]++
					if x.m.many() < was {
						lost++
					}
				case 4:
					was := x.m.many()
					keep, junk := m.entries(x.m)
					told[x.crash(keep, junk...)]++
					if x.m.many() > was {
						grown++
					}
				default:
					told[x.append(m.pairs(s, m.below(5))...)]++
				}
				if n := left(t, s, x.l.Bytes()); n != len(x.l.Bytes()) {
					t.Fatalf("%d of %d bytes are a trace", n, len(x.l.Bytes()))
				}
			}
		}
	}
	for _, e := range []api.Errno{api.OK, api.ErrArg, api.ErrType, api.ErrOver, api.ErrRange, api.ErrLong} {
		if told[e] < 10 {
			t.Errorf("%v was told only %d times", e, told[e])
		}
	}
	if lost < 100 || grown < 1 {
		t.Errorf("%d crashes lost entries, and %d laid more in", lost, grown)
	}
}

// tear is a place from one ahead of all to one behind all, where nothing is laid in.
func (m *mixer) tear(x *model) int { return m.below(x.loose()+3) - 1 }

// entries are a place and bytes behind that, which may be entries that follow, or nearly so.
func (m *mixer) entries(x *model) (int, []byte) {
	at := x.l[x.safe+m.below(x.many()-x.safe+1)]
	var junk []byte
	for range m.below(4) {
		switch m.below(4) {
		case 0:
			junk = append(junk, frameOf(x.s, snapshot(at.seq, at.view))...)
		case 1:
			junk = append(junk, byte(m.below(4)))
		default:
			at.seq++
			junk = append(junk, frameOf(x.s, delta(at.seq, nil))...)
		}
	}
	return at.end - x.l[x.safe].end, junk
}

func TestANilLog(t *testing.T) {
	var l *revive.Log
	for _, a := range [][]api.Pair{nil, {p(1, 1, "a")}, {{}}} {
		if e := l.Append(a...); e != api.ErrNil {
			t.Errorf("Append(%v) = %v", a, e)
		}
	}
	if e := l.Snap(); e != api.ErrNil {
		t.Errorf("Snap = %v", e)
	}
	if e := l.Sync(); e != api.ErrNil {
		t.Errorf("Sync = %v", e)
	}
	for _, keep := range []int{0, 1, -1, math.MinInt, math.MaxInt} {
		for _, junk := range [][]byte{nil, {1}} {
			if e := l.Crash(keep, junk); e != api.ErrNil {
				t.Errorf("Crash(%d, %v) = %v", keep, junk, e)
			}
		}
	}
	if b := l.Bytes(); len(b) != 0 {
		t.Errorf("Bytes = %v", b)
	}
	if n := l.Seq(); n != 0 {
		t.Errorf("Seq = %d", n)
	}
	if a := l.View(); len(a) != 0 {
		t.Errorf("View = %v", a)
	}
	if n, k := l.Many(), l.Safe(); n != 0 || k != 0 {
		t.Errorf("Many = %d, Safe = %d", n, k)
	}
	if s := l.Schema(); len(s) != 0 {
		t.Errorf("Schema = %v", s)
	}
}

// TestTheSchemaIsPromoted asks for what a log has of its writer, behind a crash too.
func TestTheSchemaIsPromoted(t *testing.T) {
	for _, s := range schemas() {
		x := start(t, s)
		x.taken(x.append(), x.crash(1))
		if got := x.l.Schema(); !slices.Equal(got, s) {
			t.Errorf("Schema = %v; want %v", got, s)
		}
	}
}

// P16.5

// TestWhatWasSafeIsThere finds all entries that were, behind many crashes, and those that were kept whole.
func TestWhatWasSafeIsThere(t *testing.T) {
	m := mixer(9)
	for range 40 {
		x := start(t, example)
		var safe []api.Entry
		for range 15 {
			for range m.below(4) {
				x.append(m.pairs(example, 2)...)
			}
			if m.below(2) == 0 {
				x.sync()
				y, _, _ := trace.Decode(x.l.Bytes())
				safe = y.Entries
			}
			for range m.below(3) {
				x.snap()
			}
			all, _, _ := trace.Decode(x.l.Bytes())
			keep := m.below(x.m.loose() + 1)
			whole := 0
			for _, at := range x.m.l[x.m.safe:] {
				if at.end <= x.m.l[x.m.safe].end+keep {
					whole++
				}
			}
			whole += x.m.safe - 1 // what is safe was counted, too
			junk := bytes.Repeat([]byte{9}, m.below(x.m.loose()-keep+1))
			x.taken(x.crash(keep, junk...))
			y, _, e := trace.Decode(x.l.Bytes())
			if e != api.OK || len(y.Entries) != whole || len(y.Entries) < len(safe) {
				t.Fatalf("%d entries, %v; want %d", len(y.Entries), e, whole)
			}
			if !trace.Same(y, api.Trace{Schema: example, Entries: all.Entries[:whole]}) || !trace.Same(api.Trace{Entries: y.Entries[:len(safe)]}, api.Trace{Entries: safe}) {
				t.Fatalf("%s is left of %s", brief(y), brief(all))
			}
			safe = y.Entries
		}
	}
}

// TestWhatIsRevivedIsRevivedAsItself asks once more for what is left.
func TestWhatIsRevivedIsRevivedAsItself(t *testing.T) {
	b, _ := tornable()
	m := mixer(23)
	for i := range len(b) + 1 {
		for _, junk := range []int{0, 1, 5, 40} {
			torn := slices.Clone(b[:i])
			for range junk {
				torn = append(torn, byte(m.below(256)))
			}
			n, y, e := revive.Revive(torn)
			if e != api.OK {
				continue
			}
			k, z, e := revive.Revive(torn[:n])
			if k != n || e != api.OK || !trace.Same(y, z) {
				t.Fatalf("Revive(%v) = %d, %v; then %d, %v, %v", torn, n, y, k, z, e)
			}
			if again, _, e := trace.Encode(y); e != api.OK || !bytes.Equal(again, torn[:n]) {
				t.Fatalf("Revive(%v) = %d, %v, whose bytes are %v, %v", torn, n, y, again, e)
			}
		}
	}
}

// TestALogGoesOnBehindACrash holds it against one that had just what is left, call by call.
func TestALogGoesOnBehindACrash(t *testing.T) {
	m := mixer(101)
	for _, s := range schemas() {
		for range 6 {
			x := start(t, s)
			for range 8 {
				x.append(m.pairs(s, m.below(4))...)
				if m.below(3) == 0 {
					x.snap()
				}
				if m.below(5) == 0 {
					x.sync()
				}
			}
			x.taken(x.crash(m.below(x.m.loose() + 1)))
			y := replayed(t, s, x.l.Bytes())
			for range 12 {
				change, keep := m.pairs(s, m.below(4)), m.below(99)-1
				for _, call := range []func(z *both) api.Errno{
					func(z *both) api.Errno { return z.append(change...) },
					func(z *both) api.Errno { return z.snap() },
					func(z *both) api.Errno { return z.crash(keep, 2) },
				} {
					if e, want := call(x), call(y); e != want || !bytes.Equal(x.l.Bytes(), y.l.Bytes()) || x.l.Safe() != y.l.Safe() {
						t.Fatalf("%v, %s; want %v, %s", e, brief(x.l.Bytes()), want, brief(y.l.Bytes()))
					}
				}
				if m.below(4) == 0 {
					x.sync()
					y.sync()
				}
			}
		}
	}
}

// replayed is a log that had just b's entries.
func replayed(t *testing.T, s []api.Column, b []byte) *both {
	t.Helper()
	x := start(t, s)
	y, _, _ := trace.Decode(b)
	for _, e := range y.Entries {
		if e.Kind == api.Snapshot {
			x.taken(x.snap())
		} else {
			x.taken(x.append(e.Pairs...))
		}
	}
	x.sync()
	if !bytes.Equal(x.l.Bytes(), b) {
		t.Fatalf("%s; want %s", brief(x.l.Bytes()), brief(b))
	}
	return x
}

// The rules of all layers.

// spoil changes all of a list, and what lies behind it and its rows.
func spoil(l []api.Pair) {
	for i := range l {
		r := l[i].Row[:cap(l[i].Row)]
		for k := range r {
			r[k] = api.Cell{Num: 99, Text: "spoilt"}
		}
	}
	l = l[:cap(l)]
	for i := range l {
		l[i] = pair(99, num(99))
	}
}

func spoilBytes(b []byte) {
	b = b[:cap(b)]
	for i := range b {
		b[i] = 99
	}
}

func spoilColumns(s []api.Column) {
	s = s[:cap(s)]
	for i := range s {
		s[i] = api.Column{Name: "spoilt", Kind: 99}
	}
}

// TestWhatIsHandedInStays calls all with lists that have more behind their length.
func TestWhatIsHandedInStays(t *testing.T) {
	room := columns(api.Int, api.Text, api.Bool)
	wide := []api.Cell{num(1), text("a"), num(9)}
	l := pairs(pair(3, num(2), text("b")), api.Pair{Row: wide[:2], Weight: 2}, pair(0, num(7), text("z")), pair(-1, num(2), text("b")), api.Pair{})
	junk := append(frameOf(room[:2], delta(1, nil)), 99, 99, 99)
	file := append(fileOf(room[:2], delta(1, nil)), 2, 99, 99)
	keepRoom, keepWide, keepL, keepJunk, keepFile := slices.Clone(room), slices.Clone(wide), deep(l), slices.Clone(junk), slices.Clone(file)
	for range 2 {
		x, e := revive.New(room[:2])
		if e != api.OK {
			t.Fatal(e)
		}
		if e := x.Append(l...); e != api.ErrArg {
			t.Error(e)
		}
		if e := x.Append(l[:4]...); e != api.OK || !zset.Same(x.View(), pairs(pair(2, num(1), text("a")), pair(2, num(2), text("b")))) {
			t.Error(e, x.View())
		}
		x.Snap()
		if e := x.Crash(0, junk[:len(junk)-3]); e != api.OK || x.Many() != 1 || len(x.View()) != 0 {
			t.Error(e, x.Many(), x.View())
		}
		x.Append(l[:1]...)
		x.Crash(0, junk[:1])
		x.Append(l[:4]...)
		if n, _, e := revive.Revive(file[:len(file)-2]); n != len(file)-3 || e != api.OK {
			t.Error(n, e)
		}
	}
	if !slices.Equal(room, keepRoom) || !slices.Equal(wide, keepWide) || !zset.Same(l, keepL) || !bytes.Equal(junk, keepJunk) || !bytes.Equal(file, keepFile) {
		t.Errorf("what was handed in became %v, %v, %v, %v, %v", room, wide, l, junk, file)
	}
}

// TestWhatLiesBehindALengthIsNotRead cuts a file that goes on in memory.
func TestWhatLiesBehindALengthIsNotRead(t *testing.T) {
	b, l := tornable()
	for i := range b {
		n, _, _ := revive.Revive(b[:i])
		if k, _, _ := revive.Revive(slices.Clip(slices.Clone(b[:i]))); n != k || n > i {
			t.Fatalf("Revive of %d bytes: %d; %d, where nothing lies behind", i, n, k)
		}
	}
	x := start(t, example)
	x.taken(x.append(p(1, 1, "a"), p(2, 2, "b"), p(3, 3, "c")))
	frame := b[l[0].end:l[1].end]
	x.taken(x.crash(0, frame[:len(frame)-1]...))
	x.is(0, 0, 0, "-")
}

// TestWhatWasHandedInMayBeChanged changes all of it when the call has answered.
func TestWhatWasHandedInMayBeChanged(t *testing.T) {
	s := slices.Clone(example)
	log, _ := revive.New(s)
	x := &both{t, log, modelOf(example)}
	spoilColumns(s)
	x.check()
	for i := range 6 {
		l := pairs(p(2, 1, "a"), p(1, 2, "b"))
		want := x.m.append(deep(l))
		if e := x.l.Append(l...); e != want {
			t.Fatal(e)
		}
		spoil(l)
		x.check()
		x.taken(x.snap())
		if i == 2 {
			x.sync()
		}
		x.taken(x.append())
		junk := frameOf(example, snapshot(x.m.last().seq, x.m.last().view))
		x.taken(x.append(wordy(40)...))
		keep := x.m.l[x.m.many()-1].end - x.m.l[x.m.safe].end
		want = x.m.crash(keep, slices.Clone(junk))
		if e := x.l.Crash(keep, junk); e != want || e != api.OK {
			t.Fatal(e)
		}
		spoilBytes(junk)
		x.check()
	}
	b := fileOf(example, delta(1, set("2 1,61")))
	n, y, e := revive.Revive(b)
	spoilBytes(b)
	if e != api.OK || n != len(b) || !trace.Same(y, api.Trace{Schema: example, Entries: []api.Entry{delta(1, set("2 1,61"))}}) {
		t.Error(n, y, e)
	}
}

// wordy are n pairs of the example's schema.
func wordy(n int) []api.Pair {
	var l []api.Pair
	for i := range n {
		l = append(l, p(1, int64(100+i), "long enough"))
	}
	return l
}

// TestWhatIsAnsweredIsApart changes all that is answered, and what could lie behind it.
func TestWhatIsAnsweredIsApart(t *testing.T) {
	x := start(t, example)
	for i := range 12 {
		one, view, s := x.l.Bytes(), x.l.View(), x.l.Schema()
		two, viewTwo := x.l.Bytes(), x.l.View()
		spoilBytes(one)
		spoil(view)
		spoilColumns(s)
		x.check()
		if !bytes.Equal(two, x.m.b) || !zset.Same(viewTwo, x.m.last().view) || !slices.Equal(x.l.Schema(), example) {
			t.Fatalf("two answers share: %v, %v", two, viewTwo)
		}
		keep := slices.Clone(two)
		x.taken(x.append(p(1, int64(i), "a"), p(2, 1, "b")), x.snap())
		switch i % 4 {
		case 1:
			x.sync()
		case 3:
			x.taken(x.crash(x.m.loose() - 1))
		}
		_ = append(x.l.Bytes(), "xyz"...)
		x.taken(x.append(p(1, 5, "e")))
		if !bytes.Equal(two, keep) {
			t.Fatalf("what was answered ahead became %v", two)
		}
		spoilBytes(two)
		spoil(viewTwo)
		x.check()
	}
	b, _ := tornable()
	_, y, _ := revive.Revive(b)
	for _, e := range y.Entries {
		spoil(e.Pairs)
	}
	spoilColumns(y.Schema)
	left(t, example, b)
}

// TestLogsHaveNothingToDoWithOneAnother lets such as begin with the same go on apart.
func TestLogsHaveNothingToDoWithOneAnother(t *testing.T) {
	l := []*both{start(t, example), start(t, example), start(t, example), start(t, columns(api.Bool))}
	m := mixer(3)
	for range 300 {
		x := l[m.below(len(l))]
		switch m.below(6) {
		case 0:
			x.snap()
		case 1:
			x.sync()
		case 2:
			x.crash(m.tear(x.m))
		default:
			x.append(m.pairs(x.m.s, m.below(4))...)
		}
		for _, y := range l {
			y.check()
		}
	}
}

// TestManyAtATime goes on by many goroutines at a time, each one with its own log, of the same lists.
func TestManyAtATime(t *testing.T) {
	m := mixer(77)
	b, _ := tornable()
	var l [][]api.Pair
	for range 40 {
		l = append(l, m.pairs(example, 4))
	}
	junk := []byte{2, 2}
	var group sync.WaitGroup
	for range 16 {
		group.Go(func() {
			log, _ := revive.New(example)
			x := &model{s: example, b: headOf(example), l: []state{{end: len(headOf(example))}}}
			for i, change := range l {
				if e, want := log.Append(change...), x.append(change); e != want {
					t.Error(e, want)
				}
				if i%3 == 0 {
					keep := x.loose() / 2
					if e, want := log.Crash(keep, junk), x.crash(keep, junk); e != want {
						t.Error(e, want)
					}
				}
			}
			if !bytes.Equal(log.Bytes(), x.b) || !zset.Same(log.View(), x.last().view) || log.Safe() != x.safe {
				t.Error(brief(log.Bytes()))
			}
			for i := range b {
				if n, _, _ := revive.Revive(b[:i]); n > i {
					t.Error(n)
				}
			}
		})
	}
	group.Wait()
}
