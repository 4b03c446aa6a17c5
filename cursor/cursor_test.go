package cursor_test

import (
	"bytes"
	"fmt"
	"hash/crc32"
	"math"
	"slices"
	"strings"
	"sync"
	"testing"

	"deckle/api"
	"deckle/cell"
	"deckle/cursor"
	"deckle/entry"
	"deckle/frame"
	"deckle/trace"
	"deckle/wire"
	"deckle/zset"
)

const (
	top      = math.MaxInt64
	bottom   = math.MinInt64
	greatest = 281474976710656 // of a cursor's numbers, and of its Offsets
	most     = 4096            // entries
)

// example is the schema of the document's own examples.
var example = []api.Column{{Name: "id", Kind: api.Int}, {Name: "name", Kind: api.Text}}

// columns are such of those kinds, named a, b, c and so on.
func columns(kinds ...int) []api.Column {
	var s []api.Column
	for i, kind := range kinds {
		s = append(s, api.Column{Name: string(rune('a' + i)), Kind: kind})
	}
	return s
}

// set is the one of a text, of the example's schema.
func set(x string) []api.Pair {
	a, e := zset.Read(example, x)
	if e != api.OK {
		panic(x + ": " + e.Error())
	}
	return a
}

func delta(seq int64, a []api.Pair) api.Entry { return api.Entry{Kind: api.Delta, Seq: seq, Pairs: a} }

func snapshot(seq int64, a []api.Pair) api.Entry {
	return api.Entry{Kind: api.Snapshot, Seq: seq, Pairs: a}
}

// empty are n Deltas without pairs, from the number 1 on.
func empty(n int) []api.Entry {
	var l []api.Entry
	for i := range n {
		l = append(l, delta(int64(i+1), nil))
	}
	return l
}

// small are entries of both kinds, some of which have the number of the one ahead.
func small() []api.Entry {
	return []api.Entry{snapshot(0, nil), delta(1, set("2 1,61; 1 2,62")), delta(2, set("-2 1,61")), snapshot(2, set("1 2,62")), snapshot(2, set("1 2,62")), delta(3, nil)}
}

// schemas are some with each kind, and with as many columns, and as long a name, as may be.
func schemas() [][]api.Column {
	return [][]api.Column{
		columns(api.Int), columns(api.Uint), columns(api.Bool), columns(api.Bytes), columns(api.Text), columns(api.Float),
		example, columns(api.Bool, api.Text, api.Float),
		{{Name: strings.Repeat("_", 32), Kind: api.Text}},
		columns(api.Int, api.Uint, api.Bool, api.Bytes, api.Text, api.Float, api.Int, api.Text),
	}
}

// brief is a text of x that can be told whole, if x is small.
func brief(x any) string {
	s := fmt.Sprint(x)
	if len(s) > 300 {
		return s[:300] + ".."
	}
	return s
}

// mixer makes the same numbers at each run, that look like any.
type mixer uint32

func (m *mixer) below(n int) int {
	*m ^= *m << 13
	*m ^= *m >> 17
	*m ^= *m << 5
	return int(uint32(*m)>>3) % n
}

// number is one of any size up to the greatest one.
func (m *mixer) number() int64 {
	x := int64(m.below(1<<24))<<24 | int64(m.below(1<<24))
	return x >> m.below(48)
}

// The document's words, told anew.

// numberOf are the bytes of a number that isn't below 0.
func numberOf(x int64) []byte {
	var b []byte
	for x >= 128 {
		b = append(b, byte(x%128)+128)
		x /= 128
	}
	return append(b, byte(x))
}

func checksum(b []byte) uint32 { return crc32.Checksum(b, crc32.MakeTable(crc32.Castagnoli)) }

func fourOf(x uint32) []byte { return []byte{byte(x), byte(x >> 8), byte(x >> 16), byte(x >> 24)} }

// sealed are bytes, and those of their sum.
func sealed(b ...byte) []byte { return slices.Concat(b, fourOf(checksum(b))) }

func checkOf(c api.Cursor) api.Errno {
	if c.Seq < 0 || c.Seq > greatest {
		return api.ErrRange
	}
	if c.Offset < 0 || c.Offset > greatest {
		return api.ErrRange
	}
	return api.OK
}

// insideOf are a cursor's bytes ahead of their sum.
func insideOf(c api.Cursor) []byte {
	return slices.Concat([]byte{67}, numberOf(c.Seq), numberOf(c.Offset), fourOf(c.Print))
}

func writeOf(c api.Cursor) ([]byte, api.Errno) {
	if wrong := checkOf(c); wrong != api.OK {
		return nil, wrong
	}
	return sealed(insideOf(c)...), api.OK
}

func readOf(b []byte) (api.Cursor, api.Errno) {
	n := len(b) - 4
	if n < 0 || !bytes.Equal(b[n:], fourOf(checksum(b[:n]))) {
		return api.Cursor{}, api.ErrSum
	}
	b = b[:n]
	if len(b) == 0 {
		return api.Cursor{}, api.ErrShort
	}
	if b[0] != 'C' {
		return api.Cursor{}, api.ErrForm
	}
	b = b[1:]
	var l [2]int64
	for i := range l {
		x, n, wrong := wire.GetUint(b)
		if wrong != api.OK {
			return api.Cursor{}, wrong
		}
		if x > greatest {
			return api.Cursor{}, api.ErrRange
		}
		l[i], b = int64(x), b[n:]
	}
	if len(b) < 4 {
		return api.Cursor{}, api.ErrShort
	}
	if len(b) > 4 {
		return api.Cursor{}, api.ErrLong
	}
	return api.Cursor{Seq: l[0], Offset: l[1], Print: uint32(b[0]) + uint32(b[1])<<8 + uint32(b[2])<<16 + uint32(b[3])<<24}, api.OK
}

// printOf is a schema's: the sum of its bytes.
func printOf(s []api.Column) uint32 {
	b := []byte{byte(len(s))}
	for _, c := range s {
		b = append(b, byte(len(c.Name)))
		b = append(b, c.Name...)
		b = append(b, byte(c.Kind))
	}
	return checksum(b)
}

// file is a trace's bytes, and the places in it, by the bytes of its parts.
func file(s []api.Column, l ...api.Entry) ([]byte, []api.Cursor) {
	b, e := trace.Head(s)
	if e != api.OK {
		panic(e)
	}
	at := api.Cursor{Offset: int64(len(b)), Print: printOf(s)}
	places := []api.Cursor{at}
	for _, x := range l {
		part, e := entry.Write(s, x)
		if e != api.OK {
			panic(e)
		}
		b = append(b, part...)
		at.Seq, at.Offset = x.Seq, int64(len(b))
		places = append(places, at)
	}
	return b, places
}

// bytesOf are those of a cursor that may be.
func bytesOf(c api.Cursor) []byte {
	b, e := writeOf(c)
	if e != api.OK {
		panic(e)
	}
	return b
}

// checkWrite holds Check and Write against the document's words.
func checkWrite(t *testing.T, c api.Cursor) []byte {
	t.Helper()
	want, wantE := writeOf(c)
	b, e := cursor.Write(c)
	if got := cursor.Check(c); got != wantE || e != wantE || !bytes.Equal(b, want) {
		t.Fatalf("Check(%v) = %v, Write = %v, %v; want %v, %v", c, got, b, e, want, wantE)
	}
	return b
}

// checkRead holds Read against the document's words, and what is read against its bytes.
func checkRead(t *testing.T, b []byte) api.Errno {
	t.Helper()
	want, wantE := readOf(b)
	c, e := cursor.Read(b)
	if c != want || e != wantE {
		t.Fatalf("Read(%v) = %v, %v; want %v, %v", b, c, e, want, wantE)
	}
	if again, wrong := cursor.Write(c); e == api.OK && (wrong != api.OK || !bytes.Equal(again, b)) {
		t.Fatalf("Read(%v) = %v, whose bytes are %v, %v", b, c, again, wrong)
	}
	return e
}

// reads holds Read against the cursor, or the error, that a test tells.
func reads(t *testing.T, b []byte, want api.Cursor, wantE api.Errno) {
	t.Helper()
	if c, e := cursor.Read(b); c != want || e != wantE {
		t.Errorf("Read(%v) = %v, %v; want %v, %v", b, c, e, want, wantE)
	}
	checkRead(t, b)
}

// found holds Find, and Valid of the cursor's bytes, against the place that a test tells.
func found(t *testing.T, f []byte, c api.Cursor, want int) {
	t.Helper()
	if at, e := cursor.Find(f, c); at != want || e != api.OK {
		t.Fatalf("Find(%s, %v) = %d, %v; want %d", brief(f), c, at, e, want)
	}
	if got, at, e := cursor.Valid(f, bytesOf(c)); got != c || at != want || e != api.OK {
		t.Fatalf("Valid(%s) of %v = %v, %d, %v; want %d", brief(f), c, got, at, e, want)
	}
}

// lost holds Find, and Valid of the cursor's bytes, if it has some, against that there is no such place.
func lost(t *testing.T, f []byte, c api.Cursor) {
	t.Helper()
	if at, e := cursor.Find(f, c); at != 0 || e != api.ErrCursor {
		t.Fatalf("Find(%s, %v) = %d, %v", brief(f), c, at, e)
	}
	b, e := writeOf(c)
	if e != api.OK {
		b = sealed(slices.Concat([]byte{67}, wire.Uint(uint64(c.Seq)), wire.Uint(uint64(c.Offset)), fourOf(c.Print))...)
	}
	invalid(t, f, b, api.ErrCursor)
}

func invalid(t *testing.T, f, b []byte, want api.Errno) {
	t.Helper()
	if c, at, e := cursor.Valid(f, b); c != (api.Cursor{}) || at != 0 || e != want {
		t.Fatalf("Valid(%s, %v) = %v, %d, %v; want %v", brief(f), b, c, at, e, want)
	}
}

// steps are numbers at the edges of what may be, and of how many bytes one has.
func steps() []int64 {
	l := []int64{bottom, bottom + 1, -greatest, -129, -128, -2, -1, 0, 1, 2, 66, 67, 68, 126, 127, 128, 129, 255, 256, 300, 16383, 16384}
	for shift := 21; shift < 63; shift += 7 {
		l = append(l, 1<<shift-1, 1<<shift)
	}
	return append(l, math.MaxUint32, 1<<32, greatest-1, greatest, greatest+1, greatest*2, top-1, top)
}

// prints are some whose bytes are all unlike, and at the edges.
func prints() []uint32 {
	return []uint32{0, 1, 5, 127, 128, 255, 256, 0x01020304, 0x04030201, 0x80000000, 0xff00ff00, math.MaxUint32}
}

// P18.1

// TestTheExample is the document's own.
func TestTheExample(t *testing.T) {
	c := api.Cursor{Seq: 1, Offset: 30, Print: 5}
	want := sealed(67, 1, 30, 5, 0, 0, 0)
	if b, e := cursor.Write(c); e != api.OK || !bytes.Equal(b, want) {
		t.Errorf("Write(%v) = %v, %v; want %v", c, b, e, want)
	}
	if e := cursor.Check(c); e != api.OK {
		t.Error(e)
	}
	reads(t, want, c, api.OK)
}

func TestCheckAndWrite(t *testing.T) {
	for _, c := range []struct {
		seq, offset int64
		want        api.Errno
	}{
		{0, 0, api.OK}, {greatest, greatest, api.OK}, {greatest, 0, api.OK}, {0, greatest, api.OK}, {7, 3, api.OK}, {3, 7, api.OK},
		{-1, 0, api.ErrRange}, {0, -1, api.ErrRange}, {-1, -1, api.ErrRange}, {bottom, 0, api.ErrRange}, {0, bottom, api.ErrRange},
		{greatest + 1, 0, api.ErrRange}, {0, greatest + 1, api.ErrRange}, {top, 0, api.ErrRange}, {0, top, api.ErrRange}, {top, bottom, api.ErrRange}, {bottom, top, api.ErrRange},
	} {
		for _, p := range prints() {
			x := api.Cursor{Seq: c.seq, Offset: c.offset, Print: p}
			if e := cursor.Check(x); e != c.want {
				t.Errorf("Check(%v) = %v; want %v", x, e, c.want)
			}
			if b, e := cursor.Write(x); e != c.want || e != api.OK && len(b) != 0 {
				t.Errorf("Write(%v) = %v, %v; want %v", x, b, e, c.want)
			}
			checkWrite(t, x)
		}
	}
	for _, seq := range steps() {
		for _, offset := range steps() {
			for _, p := range prints() {
				checkWrite(t, api.Cursor{Seq: seq, Offset: offset, Print: p})
			}
		}
	}
}

func TestReadOfFew(t *testing.T) {
	reads(t, sealed(67, 0, 0, 0, 0, 0, 0), api.Cursor{}, api.OK)
	reads(t, sealed(67, 172, 2, 7, 1, 2, 3, 4), api.Cursor{Seq: 300, Offset: 7, Print: 0x04030201}, api.OK)
	reads(t, sealed(67, 7, 172, 2, 255, 0, 0, 128), api.Cursor{Seq: 7, Offset: 300, Print: 0x800000ff}, api.OK)
	reads(t, sealed([]byte("C\x80\x80\x80\x80\x80\x80\x40\x80\x80\x80\x80\x80\x80\x40\xff\xff\xff\xff")...), api.Cursor{Seq: greatest, Offset: greatest, Print: math.MaxUint32}, api.OK)
	for i, c := range []struct {
		inside string
		want   api.Errno
	}{
		{"", api.ErrShort}, {"C", api.ErrShort}, {"C\x00", api.ErrShort}, {"C\x00\x00", api.ErrShort},
		{"C\x00\x00\x00", api.ErrShort}, {"C\x00\x00\x00\x00", api.ErrShort}, {"C\x00\x00\x00\x00\x00", api.ErrShort},
		{"C\x80", api.ErrShort}, {"C\x00\x80", api.ErrShort}, {"C\x00\x80\x80\x80", api.ErrShort},
		// Another begin, ahead of all behind it.
		{"D", api.ErrForm}, {"B\x00\x00\x00\x00\x00\x00", api.ErrForm}, {"c\x00\x00\x00\x00\x00\x00", api.ErrForm}, {"\xc3\x00\x00\x00\x00\x00\x00", api.ErrForm},
		{"\x00", api.ErrForm}, {"\x00\x00\x00\x00\x00\x00\x00", api.ErrForm}, {"DC\x00\x00\x00\x00\x00\x00", api.ErrForm}, {"D\x80\x00", api.ErrForm}, {"D\xff\xff\xff\xff\xff\xff\xff\xff\xff\xff", api.ErrForm},
		// Numbers in another form, or too great, the first one ahead of the other.
		{"C\x80\x00\x00\x00\x00\x00\x00", api.ErrForm}, {"C\x00\x80\x00\x00\x00\x00\x00", api.ErrForm}, {"C\x81\x00\xff\xff\xff\xff\xff\xff\xff\xff\xff\xff", api.ErrForm},
		{"C\x81\x80\x80\x80\x80\x80\x40\x00\x00\x00\x00\x00", api.ErrRange}, {"C\x00\x81\x80\x80\x80\x80\x80\x40\x00\x00\x00\x00", api.ErrRange}, {"C\x81\x80\x80\x80\x80\x80\x40\x80\x00", api.ErrRange},
		{"C\x81\x80\x80\x80\x80\x80\x40", api.ErrRange}, {"C\x00\x81\x80\x80\x80\x80\x80\x40", api.ErrRange},
		{"C\xff\xff\xff\xff\xff\xff\xff\xff\xff\x01\x00", api.ErrRange}, {"C\x00\xff\xff\xff\xff\xff\xff\xff\xff\xff\x01", api.ErrRange},
		{"C\xff\xff\xff\xff\xff\xff\xff\xff\xff\x02\x00", api.ErrLong}, {"C\x00\xff\xff\xff\xff\xff\xff\xff\xff\xff\x02", api.ErrLong}, {"C\xff\xff\xff\xff\xff\xff\xff\xff\xff\xff\xff", api.ErrLong},
		// Bytes behind.
		{"C\x00\x00\x00\x00\x00\x00\x00", api.ErrLong}, {"C\x00\x00\x00\x00\x00\x00C\x00\x00\x00\x00\x00\x00", api.ErrLong}, {"C\x01\x1e\x05\x00\x00\x00\x00\x00\x00\x00", api.ErrLong},
	} {
		if x, e := cursor.Read(sealed([]byte(c.inside)...)); x != (api.Cursor{}) || e != c.want {
			t.Errorf("%d: Read of %x = %v, %v; want %v", i, c.inside, x, e, c.want)
		}
		checkRead(t, sealed([]byte(c.inside)...))
		// The sum goes ahead of all that.
		if x, e := cursor.Read([]byte(c.inside)); x != (api.Cursor{}) || e != api.ErrSum {
			t.Errorf("%d: Read of %x, not sealed: %v, %v", i, c.inside, x, e)
		}
	}
}

// TestReadOfWhatIsNotSealed has fewer bytes than a sum, or other ones.
func TestReadOfWhatIsNotSealed(t *testing.T) {
	for _, x := range []string{"", "C", "\x00\x00\x00", "C\x00\x00\x00\x00\x00\x00", "\x00\x00\x00\x01", "\xff\xff\xff\xff", "CCCCCCCCCCC"} {
		reads(t, []byte(x), api.Cursor{}, api.ErrSum)
	}
	reads(t, nil, api.Cursor{}, api.ErrSum)
	reads(t, make([]byte, 4), api.Cursor{}, api.ErrShort) // the sum of no bytes
	whole := bytesOf(api.Cursor{Seq: 300, Offset: 70000, Print: 0x01020304})
	for cut := range whole {
		reads(t, whole[:cut], api.Cursor{}, api.ErrSum)
		reads(t, whole[cut+1:], api.Cursor{}, api.ErrSum)
	}
	reads(t, append(slices.Clone(whole), 0), api.Cursor{}, api.ErrSum)
	turned := slices.Clone(whole)
	slices.Reverse(turned[len(turned)-4:])
	reads(t, turned, api.Cursor{}, api.ErrSum)
}

// TestReadOfChangedBytes puts, takes away and changes bytes, with sums that are right.
func TestReadOfChangedBytes(t *testing.T) {
	told := map[api.Errno]int{}
	check := func(inside []byte) { told[checkRead(t, sealed(inside...))]++ }
	for _, c := range []api.Cursor{{}, {Seq: 1, Offset: 30, Print: 5}, {Seq: 300, Offset: 70000, Print: 0x01020304}, {Seq: greatest, Offset: greatest, Print: math.MaxUint32}, {Seq: greatest - 1, Offset: 1 << 32, Print: 0x80000000}} {
		inside := insideOf(c)
		for at := range len(inside) + 1 {
			check(inside[:at])
			check(inside[at:])
			for x := range 256 {
				check(slices.Insert(slices.Clone(inside), at, byte(x)))
			}
			if at == len(inside) {
				break
			}
			check(slices.Delete(slices.Clone(inside), at, at+1))
			for x := range 256 {
				changed := slices.Clone(inside)
				changed[at] = byte(x)
				check(changed)
			}
		}
	}
	for _, e := range []api.Errno{api.OK, api.ErrShort, api.ErrForm, api.ErrLong, api.ErrRange} {
		if told[e] < 20 {
			t.Errorf("%v was told only %d times", e, told[e])
		}
	}
}

// TestReadOfAny takes bytes that look like any.
func TestReadOfAny(t *testing.T) {
	m := mixer(2463534242)
	for range 20000 {
		b := make([]byte, m.below(16))
		for i := range b {
			b[i] = byte(m.below(4) * (1 + m.below(64)))
		}
		checkRead(t, b)
		checkRead(t, sealed(b...))
		checkRead(t, sealed(append([]byte{67}, b...)...))
	}
}

// TestTurnedBits turns up to three, or any within 32 that follow each other.
func TestTurnedBits(t *testing.T) {
	f, places := file(example, small()...)
	whole := bytesOf(places[3])
	m := mixer(987654321)
	check := func(l ...int) {
		t.Helper()
		b := slices.Clone(whole)
		for _, i := range l {
			b[i/8] ^= 1 << (i % 8)
		}
		if c, e := cursor.Read(b); c != (api.Cursor{}) || e != api.ErrSum {
			t.Fatalf("turned %v: %v, %v", l, c, e)
		}
		invalid(t, f, b, api.ErrCursor)
	}
	for i := range 8 * len(whole) {
		check(i)
		for k := range i {
			check(i, k)
			if k > 0 {
				check(i, k, m.below(k))
			}
		}
		for range 20 {
			row := []int{i}
			for k := i + 1; k < min(i+32, 8*len(whole)); k++ {
				if m.below(2) == 0 {
					row = append(row, k)
				}
			}
			check(row...)
		}
	}
}

// P18.2

func TestFindAndValid(t *testing.T) {
	for _, s := range schemas() {
		for _, l := range [][]api.Entry{nil, empty(1), {snapshot(0, nil)}, {snapshot(0, nil), snapshot(0, nil), delta(1, nil), snapshot(1, nil)}, empty(130)} {
			f, places := file(s, l...)
			for i, c := range places {
				found(t, f, c, i)
			}
		}
	}
	f, places := file(example, small()...)
	for i, c := range places {
		found(t, f, c, i)
	}
}

// TestFindOfAll asks for each number at each Offset: those of the places alone are found, each as the one that it is.
func TestFindOfAll(t *testing.T) {
	f, places := file(example, small()...)
	for seq := int64(-1); seq <= 4; seq++ {
		for offset := int64(-1); offset <= int64(len(f))+2; offset++ {
			c := api.Cursor{Seq: seq, Offset: offset, Print: printOf(example)}
			if i := slices.Index(places, c); i >= 0 {
				found(t, f, c, i)
			} else {
				lost(t, f, c)
			}
		}
	}
}

// TestFindOfOthers has places that are unlike in one part.
func TestFindOfOthers(t *testing.T) {
	f, places := file(example, small()...)
	for _, c := range places {
		for _, x := range steps() {
			if x != c.Seq {
				lost(t, f, api.Cursor{Seq: x, Offset: c.Offset, Print: c.Print})
			}
			lost(t, f, api.Cursor{Seq: c.Seq, Offset: c.Offset + x | 1<<40, Print: c.Print})
		}
		lost(t, f, api.Cursor{Seq: c.Seq + 1<<32, Offset: c.Offset, Print: c.Print})
		lost(t, f, api.Cursor{Seq: c.Seq, Offset: c.Offset + 1<<32, Print: c.Print})
		for bit := range 32 {
			lost(t, f, api.Cursor{Seq: c.Seq, Offset: c.Offset, Print: c.Print ^ 1<<bit})
		}
		lost(t, f, api.Cursor{Seq: c.Offset, Offset: c.Seq, Print: c.Print})
		lost(t, f, api.Cursor{Seq: c.Seq, Offset: c.Offset})
	}
	lost(t, f, api.Cursor{})
	lost(t, f, api.Cursor{Print: printOf(example)}) // where a view stands at first
}

// TestValidOfWhatIsNotRead tells nothing else than ErrCursor of what Read refuses.
func TestValidOfWhatIsNotRead(t *testing.T) {
	f, places := file(example, small()...)
	for _, c := range places {
		inside := insideOf(c)
		for at := range inside {
			invalid(t, f, sealed(inside[:at]...), api.ErrCursor)
			invalid(t, f, sealed(slices.Insert(slices.Clone(inside), at, 67)...), api.ErrCursor)
		}
		invalid(t, f, sealed(append(inside, 0)...), api.ErrCursor)
		invalid(t, f, inside, api.ErrCursor)
		invalid(t, f, append(bytesOf(c), 0), api.ErrCursor)
		invalid(t, f, sealed(bytesOf(c)...), api.ErrCursor)
	}
	for _, b := range []string{"", "x", "C", "\x00\x00\x00\x00", "C\x00\x00\x00\x00\x00\x00"} {
		invalid(t, f, []byte(b), api.ErrCursor)
	}
	invalid(t, f, nil, api.ErrCursor)
	invalid(t, f, f, api.ErrCursor)
}

// framed is a frame, which may have any payload.
func framed(kind int, payload ...byte) []byte {
	b, e := frame.Write(kind, payload)
	if e != api.OK {
		panic(e)
	}
	return b
}

// wrongFiles are such as are none, and what layer 13 says of them.
func wrongFiles() []struct {
	b    []byte
	want api.Errno
} {
	head, _ := file(example)
	whole, _ := file(example, small()...)
	turned := slices.Clone(whole)
	turned[len(turned)-1] ^= 1
	long, _ := file(example, empty(most+1)...)
	begin := []byte("DKL1")
	return []struct {
		b    []byte
		want api.Errno
	}{
		{nil, api.ErrForm}, {begin[:3], api.ErrForm}, {whole[1:], api.ErrForm}, {[]byte("DKL2"), api.ErrForm}, {bytesOf(api.Cursor{}), api.ErrForm},
		{begin, api.ErrShort}, {head[:len(head)-1], api.ErrShort}, {whole[:len(whole)-1], api.ErrShort}, {append(slices.Clone(whole), 2), api.ErrShort},
		{slices.Concat(begin, []byte{3}), api.ErrKind}, {slices.Concat(begin, framed(2, 1, 0)), api.ErrKind}, {slices.Concat(whole, head[4:]), api.ErrKind},
		{slices.Concat(begin, framed(0, 0)), api.ErrNone}, {slices.Concat(begin, framed(0, 9)), api.ErrRange}, {slices.Concat(begin, framed(0, 1, 1, 'A', 0)), api.ErrArg},
		{turned, api.ErrSum}, {slices.Concat(head, framed(2, 1, 0, 0)), api.ErrLong},
		{slices.Concat(head, framed(2, 2, 0)), api.ErrSeq}, {slices.Concat(head, framed(1, 1, 0)), api.ErrSeq}, {slices.Concat(whole, framed(2, 3, 0)), api.ErrSeq},
		{slices.Concat(whole, framed(1, 3, 0)), api.ErrView}, {long, api.ErrLimit},
	}
}

// TestAWrongFileIsToldFirst, whatever the cursor is: a place ahead of where the file is wrong, or none.
func TestAWrongFileIsToldFirst(t *testing.T) {
	_, places := file(example, small()...)
	for i, w := range wrongFiles() {
		if _, _, e := trace.Marks(w.b); e != w.want {
			t.Fatalf("%d: %v; want %v", i, e, w.want)
		}
		for _, c := range append(places, api.Cursor{}, api.Cursor{Seq: -1}, api.Cursor{Offset: top}) {
			if at, e := cursor.Find(w.b, c); at != 0 || e != w.want {
				t.Errorf("%d: Find(%v) = %d, %v; want %v", i, c, at, e, w.want)
			}
		}
		for _, b := range [][]byte{bytesOf(places[0]), bytesOf(places[1]), bytesOf(places[6]), bytesOf(api.Cursor{}), nil, []byte("x"), sealed(), sealed(67, 128, 0)} {
			invalid(t, w.b, b, w.want)
		}
	}
}

// TestAsManyEntriesAsMayBe has one place more.
func TestAsManyEntriesAsMayBe(t *testing.T) {
	f, places := file(example, empty(most)...)
	for _, i := range []int{0, 1, 127, 128, 2048, most - 1, most} {
		found(t, f, places[i], i)
	}
	last := places[most]
	lost(t, f, api.Cursor{Seq: last.Seq + 1, Offset: last.Offset, Print: last.Print})
	if c, e := cursor.Last(f); c != last || e != api.OK {
		t.Error(c, e)
	}
	if c, e := cursor.Start(f); c != places[0] || e != api.OK {
		t.Error(c, e)
	}
}

// P18.3

func TestStartAndLast(t *testing.T) {
	for _, s := range schemas() {
		for n := range 5 {
			l := empty(n)
			for _, l := range [][]api.Entry{l, append(l, snapshot(int64(n), nil))} {
				f, places := file(s, l...)
				first, e := cursor.Start(f)
				last, lastE := cursor.Last(f)
				if first != places[0] || e != api.OK || last != places[len(places)-1] || lastE != api.OK {
					t.Errorf("of %v: %v, %v; %v, %v", l, first, e, last, lastE)
				}
				if last.Offset != int64(len(f)) || first.Seq != 0 || last.Seq != int64(n) {
					t.Errorf("of %v: %v, %v", l, first, last)
				}
			}
		}
	}
}

func TestStartAndLastOfWhatIsNoFile(t *testing.T) {
	for i, w := range wrongFiles() {
		if c, e := cursor.Start(w.b); c != (api.Cursor{}) || e != w.want {
			t.Errorf("%d: Start: %v, %v; want %v", i, c, e, w.want)
		}
		if c, e := cursor.Last(w.b); c != (api.Cursor{}) || e != w.want {
			t.Errorf("%d: Last: %v, %v; want %v", i, c, e, w.want)
		}
	}
}

// P18.4

// TestACursorIsReadOfItsBytes, and no two have the same ones.
func TestACursorIsReadOfItsBytes(t *testing.T) {
	m := mixer(7)
	seen := map[string]api.Cursor{}
	check := func(c api.Cursor) {
		b := checkWrite(t, c)
		if checkOf(c) != api.OK {
			return
		}
		reads(t, b, c, api.OK)
		if other, ok := seen[string(b)]; ok && other != c {
			t.Fatalf("%v and %v have the same bytes", other, c)
		}
		seen[string(b)] = c
	}
	for _, seq := range steps() {
		for _, offset := range steps() {
			check(api.Cursor{Seq: seq, Offset: offset, Print: prints()[m.below(12)]})
		}
	}
	for range 20000 {
		check(api.Cursor{Seq: m.number(), Offset: m.number(), Print: uint32(m.below(1<<29)) << m.below(4)})
	}
	if len(seen) < 15000 {
		t.Errorf("only %d are unlike", len(seen))
	}
}

// TestACursorOfAnotherSchemaIsRefused, with as many bytes ahead of each place, too.
func TestACursorOfAnotherSchemaIsRefused(t *testing.T) {
	all := append(schemas(), []api.Column{{Name: "ie", Kind: api.Int}, {Name: "name", Kind: api.Text}}, []api.Column{{Name: "id", Kind: api.Uint}, {Name: "name", Kind: api.Text}}, []api.Column{{Name: "name", Kind: api.Text}, {Name: "id", Kind: api.Int}})
	alike := 0
	for i, s := range all {
		f, places := file(s, empty(3)...)
		for k, other := range all {
			_, strange := file(other, empty(3)...)
			for n, c := range strange {
				if i == k {
					found(t, f, c, n)
					continue
				}
				lost(t, f, c)
				if c.Offset == places[n].Offset {
					alike++
				}
			}
		}
	}
	if alike < 100 {
		t.Errorf("only %d were alike but for the schema", alike)
	}
}

// TestACursorBetweenTwoEntriesIsRefused by the number ahead of it, and by that behind.
func TestACursorBetweenTwoEntriesIsRefused(t *testing.T) {
	f, places := file(example, small()...)
	for i, c := range places[1:] {
		for offset := places[i].Offset + 1; offset < c.Offset; offset++ {
			lost(t, f, api.Cursor{Seq: places[i].Seq, Offset: offset, Print: c.Print})
			lost(t, f, api.Cursor{Seq: c.Seq, Offset: offset, Print: c.Print})
		}
	}
}

// TestAFileThatGrowsKeepsItsPlaces, and has none yet of those behind it.
func TestAFileThatGrowsKeepsItsPlaces(t *testing.T) {
	_, all := file(example, small()...)
	for n := range len(small()) + 1 {
		f, _ := file(example, small()[:n]...)
		for i, c := range all {
			if i <= n {
				found(t, f, c, i)
			} else {
				lost(t, f, c)
			}
		}
	}
}

// The rules of all layers.

// TestWhatIsHandedInStays calls all with bytes that have more behind their length.
func TestWhatIsHandedInStays(t *testing.T) {
	f, places := file(example, small()...)
	room := append(slices.Clone(f), framed(2, 4, 0)...)
	b := append(bytesOf(places[2]), 1, 2, 3, 4)
	keepRoom, keepB := slices.Clone(room), slices.Clone(b)
	short, cut := room[:len(f)], b[:len(b)-4]
	for range 2 {
		found(t, short, places[2], 2)
		if c, at, e := cursor.Valid(short, cut); c != places[2] || at != 2 || e != api.OK {
			t.Error(c, at, e)
		}
		if c, e := cursor.Read(cut); c != places[2] || e != api.OK {
			t.Error(c, e)
		}
		if c, e := cursor.Last(short); c != places[6] || e != api.OK {
			t.Error(c, e)
		}
		if c, e := cursor.Start(short); c != places[0] || e != api.OK {
			t.Error(c, e)
		}
		cursor.Read(b)
		cursor.Valid(room, b)
	}
	if !bytes.Equal(room, keepRoom) || !bytes.Equal(b, keepB) {
		t.Errorf("what was handed in became %v, %v", room, b)
	}
}

// TestWhatIsAnsweredIsApart changes what Write answered, and what could lie behind it.
func TestWhatIsAnsweredIsApart(t *testing.T) {
	for _, c := range []api.Cursor{{}, {Seq: 1, Offset: 30, Print: 5}, {Seq: greatest, Offset: greatest, Print: math.MaxUint32}} {
		one, two := checkWrite(t, c), checkWrite(t, c)
		one = one[:cap(one)]
		for i := range one {
			one[i] = 99
		}
		if !bytes.Equal(two, bytesOf(c)) {
			t.Errorf("two answers share a part: %v", two)
		}
		checkWrite(t, c)
		x, e := cursor.Read(two)
		clear(two)
		if x != c || e != api.OK {
			t.Error(x, e)
		}
	}
}

// TestAnAnswerHangsOnNothingAhead asks the same again, behind others that are served and refused.
func TestAnAnswerHangsOnNothingAhead(t *testing.T) {
	f, places := file(example, small()...)
	other, _ := file(columns(api.Uint), empty(9)...)
	for i, c := range places {
		cursor.Find(other, c)
		cursor.Last(other)
		cursor.Start(f[:len(f)-1])
		cursor.Read([]byte("x"))
		lost(t, other, c)
		found(t, f, c, i)
		checkRead(t, bytesOf(c))
	}
}

// TestManyAtATime asks by many goroutines at a time, of the same bytes.
func TestManyAtATime(t *testing.T) {
	row := []api.Cell{cell.Int(1), {Text: "a"}}
	var l []api.Entry
	for i := range 60 {
		l = append(l, delta(int64(i+1), []api.Pair{{Row: row, Weight: 1}}))
	}
	f, places := file(example, l...)
	b := bytesOf(places[30])
	var all sync.WaitGroup
	for range 16 {
		all.Go(func() {
			for i, c := range places {
				if at, e := cursor.Find(f, c); at != i || e != api.OK {
					t.Error(c, at, e)
				}
			}
			if c, at, e := cursor.Valid(f, b); c != places[30] || at != 30 || e != api.OK {
				t.Error(c, at, e)
			}
			first, e := cursor.Start(f)
			last, lastE := cursor.Last(f)
			if first != places[0] || last != places[60] || e != api.OK || lastE != api.OK {
				t.Error(first, last, e, lastE)
			}
		})
	}
	all.Wait()
}
