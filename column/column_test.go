package column_test

import (
	"bytes"
	"math"
	"math/big"
	"slices"
	"strings"
	"sync"
	"testing"
	"unicode/utf8"

	"deckle/api"
	"deckle/cell"
	"deckle/column"
	"deckle/reader"
	"deckle/wire"
)

var (
	everyKind = []int{api.Int, api.Uint, api.Bool, api.Bytes, api.Text, api.Float}
	noKinds   = []int{math.MinInt, math.MinInt32, -256, -1, 6, 7, 255, 256, 1 << 32, 1<<32 + 1, math.MaxInt}
	noCounts  = []int{math.MinInt, math.MinInt32, -1024, -1, 1025, 1026, 2048, 1 << 20, 1 << 32, math.MaxInt}
)

func cells(l ...api.Cell) []api.Cell { return l }

func nums(l ...uint64) []api.Cell {
	var out []api.Cell
	for _, x := range l {
		out = append(out, api.Cell{Num: x})
	}
	return out
}

func ints(l ...int64) []api.Cell {
	var out []api.Cell
	for _, x := range l {
		out = append(out, api.Cell{Num: uint64(x)})
	}
	return out
}

func texts(l ...string) []api.Cell {
	var out []api.Cell
	for _, s := range l {
		out = append(out, api.Cell{Text: s})
	}
	return out
}

// The document's words, told anew.

// numberOf are the bytes of a number below 2^64.
func numberOf(x *big.Int) []byte {
	rest, seven := new(big.Int).Set(x), new(big.Int)
	base := big.NewInt(128)
	var b []byte
	for {
		rest.DivMod(rest, base, seven)
		if rest.Sign() == 0 {
			return append(b, byte(seven.Int64()))
		}
		b = append(b, byte(seven.Int64())+128)
	}
}

// signedOf are the bytes of a number of either sign.
func signedOf(x *big.Int) []byte {
	twice := new(big.Int).Add(x, x)
	if x.Sign() < 0 {
		twice.Neg(twice)
		twice.Sub(twice, big.NewInt(1))
	}
	return numberOf(twice)
}

// lessOf is a less b, round and round, from -2^63 to 2^63 - 1.
func lessOf(a, b uint64) *big.Int {
	round := new(big.Int).Lsh(big.NewInt(1), 64)
	d := new(big.Int).SetUint64(a)
	d.Sub(d, new(big.Int).SetUint64(b))
	d.Mod(d, round)
	if d.BitLen() == 64 {
		d.Sub(d, round)
	}
	return d
}

// sharedOf is the greatest number that Shared may be.
func sharedOf(a, b string) int {
	n := 0
	for i := 1; i <= len(a) && i <= len(b); i++ {
		if a[:i] == b[:i] {
			n = i
		}
	}
	return n
}

// writeOf are the bytes of cells that may be.
func writeOf(kind int, l []api.Cell) []byte {
	var b []byte
	for i, c := range l {
		var ahead api.Cell
		if i > 0 {
			ahead = l[i-1]
		}
		switch kind {
		case api.Int:
			if i == 0 {
				b = append(b, signedOf(big.NewInt(int64(c.Num)))...)
				continue
			}
			b = append(b, signedOf(lessOf(c.Num, ahead.Num))...)
		case api.Uint, api.Float:
			if i == 0 {
				b = append(b, numberOf(new(big.Int).SetUint64(c.Num))...)
				continue
			}
			b = append(b, signedOf(lessOf(c.Num, ahead.Num))...)
		case api.Bool:
			if i%8 == 0 {
				b = append(b, 0)
			}
			b[len(b)-1] += byte(c.Num) * []byte{1, 2, 4, 8, 16, 32, 64, 128}[i%8]
		default:
			n := sharedOf(ahead.Text, c.Text)
			b = append(b, numberOf(big.NewInt(int64(n)))...)
			b = append(b, numberOf(big.NewInt(int64(len(c.Text)-n)))...)
			b = append(b, c.Text[n:]...)
		}
	}
	return b
}

// took is what stands in bytes up to a place: the cells there, or why it ended.
type took struct {
	l  []api.Cell
	at int
	e  api.Errno
}

// takeOf takes n cells off the front, and says nothing of what is behind them.
func takeOf(b []byte, kind, n int) took {
	if !slices.Contains(everyKind, kind) {
		return took{e: api.ErrKind}
	}
	if n < 0 || n > 1024 {
		return took{e: api.ErrRange}
	}
	switch kind {
	case api.Bool:
		return takeBoolsOf(b, n)
	case api.Bytes, api.Text:
		return takeTextsOf(b, kind, n)
	}
	var l []api.Cell
	at := 0
	for i := range n {
		var x uint64
		var size int
		var e api.Errno
		if i == 0 && kind != api.Int {
			x, size, e = wire.GetUint(b[at:])
		} else {
			var d int64
			d, size, e = wire.GetInt(b[at:])
			x = uint64(d)
		}
		if e != api.OK {
			return took{at: at, e: e}
		}
		if i > 0 {
			x += l[i-1].Num
		}
		at += size
		l = append(l, api.Cell{Num: x})
	}
	return took{l: l, at: at}
}

func takeBoolsOf(b []byte, n int) took {
	var l []api.Cell
	at := 0
	for i := 0; i < n; i += 8 {
		if at == len(b) {
			return took{at: at, e: api.ErrShort}
		}
		at++
		for k := range 8 {
			bit := b[at-1] >> k & 1
			if i+k < n {
				l = append(l, api.Cell{Num: uint64(bit)})
			} else if bit == 1 {
				return took{at: at, e: api.ErrForm}
			}
		}
	}
	return took{l: l, at: at}
}

func takeTextsOf(b []byte, kind, n int) took {
	var l []api.Cell
	at := 0
	ahead := ""
	for range n {
		x, size, e := wire.GetUint(b[at:])
		if e == api.OK && x > uint64(len(ahead)) {
			e = api.ErrRange
		}
		if e != api.OK {
			return took{at: at, e: e}
		}
		at += size
		rest, size, e := wire.GetBytes(b[at:], 256-int(x))
		if e != api.OK {
			return took{at: at, e: e}
		}
		at += size
		s := ahead[:x] + string(rest)
		if sharedOf(ahead, s) > int(x) {
			return took{at: at, e: api.ErrForm}
		}
		if kind == api.Text && !utf8.ValidString(s) {
			return took{at: at, e: api.ErrType}
		}
		l = append(l, api.Cell{Text: s})
		ahead = s
	}
	return took{l: l, at: at}
}

// readOf takes all of bytes.
func readOf(b []byte, kind, n int) took {
	x := takeOf(b, kind, n)
	if x.e == api.OK && x.at < len(b) {
		return took{at: x.at, e: api.ErrLong}
	}
	return x
}

// checkWrite holds Write against the document's words.
func checkWrite(t *testing.T, kind int, l []api.Cell) []byte {
	t.Helper()
	want := writeOf(kind, l)
	b, e := column.Write(kind, l...)
	if e != api.OK || !bytes.Equal(b, want) {
		t.Fatalf("Write(%d, %.200v) = %.200v, %v; want %.200v", kind, l, b, e, want)
	}
	return b
}

// checkRead holds Read, and Take with bytes ahead and behind, against the document's words, and what is read against its bytes.
func checkRead(t *testing.T, b []byte, kind, n int) {
	t.Helper()
	want := readOf(b, kind, n)
	l, at, e := column.Read(b, kind, n)
	if !slices.Equal(l, want.l) || at != want.at || e != want.e {
		t.Fatalf("Read(%.200v, %d, %d) = %.200v, %d, %v; want %.200v", b, kind, n, l, at, e, want)
	}
	checkTake(t, b, kind, n)
	if e != api.OK {
		return
	}
	if len(l) != n || at != len(b) {
		t.Fatalf("Read(%.200v, %d, %d) = %d cells of %d bytes", b, kind, n, len(l), at)
	}
	if again, e := column.Write(kind, l...); e != api.OK || !bytes.Equal(again, b) {
		t.Fatalf("Read(%.200v, %d, %d) = %.200v, whose bytes are %.200v, %v", b, kind, n, l, again, e)
	}
}

// checkTake lets Take take off a reader that stands at each of some places.
func checkTake(t *testing.T, b []byte, kind, n int) {
	t.Helper()
	want := takeOf(b, kind, n)
	for _, ahead := range []int{0, 3} {
		all := append(bytes.Repeat([]byte{200}, ahead), b...)
		var l []api.Cell
		went := false
		at, e := reader.Run(all, func(r *reader.Reader) {
			for range ahead {
				r.Byte()
			}
			l = column.Take(r, kind, n)
			went = true
			if r.At() != ahead+want.at {
				t.Fatalf("Take(%d, %d) of %.200v: At %d; want %d", kind, n, b, r.At()-ahead, want.at)
			}
		})
		wantE := want.e
		if wantE == api.OK && want.at < len(b) {
			wantE = api.ErrLong
		}
		if went != (want.e == api.OK) || !slices.Equal(l, want.l) || at != ahead+want.at || e != wantE {
			t.Fatalf("Take(%d, %d) of %.200v, %d ahead: went through: %v, %.200v, %d, %v; want %.200v", kind, n, b, ahead, went, l, at, e, want)
		}
	}
}

// Cells to be tried.

// mixer makes the same numbers at each run, that look like any.
type mixer uint32

func (m *mixer) below(n int) int {
	*m ^= *m << 13
	*m ^= *m >> 17
	*m ^= *m << 5
	return int(uint32(*m)>>3) % n
}

// edges are numbers around which something changes: their bytes' lengths, their signs, and where they go round.
func edges() []uint64 {
	l := []uint64{0, 1, 2, 3, 5, 7, 300, 299, 0x3ff0000000000000, 0xbff0000000000000, 0x7ff0000000000000, 0xfff0000000000000, 0x7ff8000000000001}
	for _, i := range []int{6, 7, 8, 13, 14, 31, 32, 55, 56, 61, 62, 63} {
		p := uint64(1) << i
		l = append(l, p-1, p, p+1, -p, -p-1, -p+1)
	}
	return append(l, math.MaxUint64, math.MaxUint64-1)
}

// someTexts are UTF-8, many of which begin with bytes alike, also within a rune.
func someTexts() []string {
	long := strings.Repeat("x", 256)
	return []string{"", "a", "ab", "abc", "abd", "b", "ba", "\x00", "\x00\x00", "ä", "ö", "aä", "aö", "äb", "\u07ff", "\u0800", "\u0801", "€", "\U00010000", "\U00010001", "\U0010ffff",
		long, long[:255], long[:128], long[:127], long[:126] + "y", long[:129], long[:255] + "y", long[:1], "y" + long[:255], strings.Repeat("ä", 128), strings.Repeat("ä", 127) + "ö", strings.Repeat("ä", 127)}
}

// someBytes are such, and some that are no UTF-8.
func someBytes() []string {
	return append(someTexts(), "\xff", "\xff\x00", "\xc3", "\xe2\x82", "a\x80", "\xc0\x80", "\xed\xa0\x80", strings.Repeat("\xff", 256), strings.Repeat("\xff", 255))
}

// cellsOf are such of a kind as may be.
func cellsOf(kind int) []api.Cell {
	switch kind {
	case api.Bool:
		return nums(0, 1)
	case api.Bytes:
		return texts(someBytes()...)
	case api.Text:
		return texts(someTexts()...)
	}
	return nums(edges()...)
}

// mixed are n cells of a kind.
func (m *mixer) mixed(kind, n int) []api.Cell {
	from := cellsOf(kind)
	l := make([]api.Cell, n)
	for i := range l {
		l[i] = from[m.below(len(from))]
		if i > 0 && m.below(4) == 0 {
			l[i] = l[i-1]
		}
	}
	return l
}

// lists are some of each length that may be told from others.
func lists(kind int) [][]api.Cell {
	m := mixer(2463534242)
	l := [][]api.Cell{nil}
	for n := range 40 {
		l = append(l, m.mixed(kind, n), m.mixed(kind, n))
	}
	for _, n := range []int{63, 64, 65, 255, 256, 257, 1023, 1024} {
		l = append(l, m.mixed(kind, n))
	}
	return l
}

// P9.1

func TestExamples(t *testing.T) {
	for i, c := range []struct {
		kind int
		l    []api.Cell
		want []byte
	}{
		{api.Int, ints(5, 7, 4), []byte{10, 4, 5}},
		{api.Text, texts("ab", "abc", "b"), []byte{0, 2, 97, 98, 2, 1, 99, 0, 1, 98}},
		{api.Bool, nums(1, 0, 1), []byte{5}},
		{api.Int, nil, nil},
		{api.Int, ints(0), []byte{0}},
		{api.Int, ints(-1, -1, -2), []byte{1, 0, 1}},
		{api.Int, ints(math.MinInt64), []byte{255, 255, 255, 255, 255, 255, 255, 255, 255, 1}},
		{api.Int, ints(math.MaxInt64, math.MinInt64, math.MaxInt64), []byte{254, 255, 255, 255, 255, 255, 255, 255, 255, 1, 2, 1}},
		{api.Int, ints(0, math.MinInt64, 0), []byte{0, 255, 255, 255, 255, 255, 255, 255, 255, 255, 1, 255, 255, 255, 255, 255, 255, 255, 255, 255, 1}},
		{api.Uint, nil, nil},
		{api.Uint, nums(300), []byte{172, 2}},
		{api.Uint, nums(300, 299, 301), []byte{172, 2, 1, 4}},
		{api.Uint, nums(math.MaxUint64), []byte{255, 255, 255, 255, 255, 255, 255, 255, 255, 1}},
		{api.Uint, nums(math.MaxUint64, 0, math.MaxUint64), []byte{255, 255, 255, 255, 255, 255, 255, 255, 255, 1, 2, 1}},
		{api.Float, nil, nil},
		{api.Float, cells(cell.Float(0), cell.Float(math.Copysign(0, -1))), []byte{0, 255, 255, 255, 255, 255, 255, 255, 255, 255, 1}},
		{api.Float, nums(1<<63|1, 1<<63), []byte{129, 128, 128, 128, 128, 128, 128, 128, 128, 1, 1}},
		{api.Bool, nil, nil},
		{api.Bool, nums(0), []byte{0}},
		{api.Bool, nums(1), []byte{1}},
		{api.Bool, nums(0, 0, 0, 0, 0, 0, 0, 1), []byte{128}},
		{api.Bool, nums(0, 0, 0, 0, 0, 0, 0, 0, 1), []byte{0, 1}},
		{api.Bytes, nil, nil},
		{api.Bytes, texts(""), []byte{0, 0}},
		{api.Bytes, texts("\xff", "\xff", "\xff\x00", "\xff", ""), []byte{0, 1, 255, 1, 0, 1, 1, 0, 1, 0, 0, 0}},
		{api.Text, nil, nil},
		{api.Text, texts("ä", "ö", "äö"), []byte{0, 2, 0xc3, 0xa4, 1, 1, 0xb6, 1, 3, 0xa4, 0xc3, 0xb6}},
	} {
		b, e := column.Write(c.kind, c.l...)
		if e != api.OK || !bytes.Equal(b, c.want) {
			t.Errorf("%d: Write(%d, %v) = %v, %v; want %v", i, c.kind, c.l, b, e, c.want)
		}
		l, at, e := column.Read(c.want, c.kind, len(c.l))
		if e != api.OK || at != len(c.want) || !slices.Equal(l, c.l) {
			t.Errorf("%d: Read(%v, %d, %d) = %v, %d, %v; want %v", i, c.want, c.kind, len(c.l), l, at, e, c.l)
		}
	}
}

// TestWriteOfEachBehindEach writes each two cells, one behind the other.
func TestWriteOfEachBehindEach(t *testing.T) {
	for _, kind := range everyKind {
		for _, a := range cellsOf(kind) {
			for _, b := range cellsOf(kind) {
				l := cells(a, b)
				checkRead(t, checkWrite(t, kind, l), kind, 2)
				checkWrite(t, kind, cells(a, b, a))
			}
		}
	}
}

// TestWriteOfAllBools writes all that there are of up to 17.
func TestWriteOfAllBools(t *testing.T) {
	for n := range 18 {
		for x := range 1 << n {
			if n > 12 && x%37 > 0 {
				continue
			}
			l := make([]api.Cell, n)
			for i := range l {
				l[i].Num = uint64(x >> i & 1)
			}
			b := checkWrite(t, api.Bool, l)
			if len(b) != (n+7)/8 {
				t.Fatalf("%d Bools have %d bytes", n, len(b))
			}
			got, at, e := column.Read(b, api.Bool, n)
			if e != api.OK || at != len(b) || !slices.Equal(got, l) {
				t.Fatalf("Read(%v, %d) = %v, %d, %v", b, n, got, at, e)
			}
		}
	}
}

func TestWriteOfWhatMayNotBe(t *testing.T) {
	long := strings.Repeat("x", 257)
	for i, c := range []struct {
		kind int
		l    []api.Cell
		want api.Errno
	}{
		{api.Int, texts("a"), api.ErrType},
		{api.Int, cells(api.Cell{Num: 1}, api.Cell{Num: 1, Text: "a"}), api.ErrType},
		{api.Uint, texts("\x00"), api.ErrType},
		{api.Uint, texts(long), api.ErrType},
		{api.Float, texts("a"), api.ErrType},
		{api.Bool, nums(2), api.ErrType},
		{api.Bool, nums(256), api.ErrType},
		{api.Bool, nums(1<<32 + 1), api.ErrType},
		{api.Bool, nums(math.MaxUint64), api.ErrType},
		{api.Bool, nums(1, 0, 1, 0, 1, 0, 1, 0, 2), api.ErrType},
		{api.Bool, texts("a"), api.ErrType},
		{api.Bytes, nums(1), api.ErrType},
		{api.Bytes, texts(long), api.ErrLong},
		{api.Bytes, texts("", strings.Repeat("\xff", 256), strings.Repeat("\xff", 257)), api.ErrLong},
		{api.Bytes, cells(api.Cell{Num: 1, Text: long}), api.ErrType},
		{api.Text, nums(1), api.ErrType},
		{api.Text, texts("\xff"), api.ErrType},
		{api.Text, texts("ä", "\xc3"), api.ErrType},
		{api.Text, texts("a", "a\xc3", "aä"), api.ErrType},
		{api.Text, texts(long), api.ErrLong},
		{api.Text, texts(long + "\xff"), api.ErrType},
		// Of several cells the first one that has an error tells it.
		{api.Text, texts("a", long, "\xff"), api.ErrLong},
		{api.Text, texts("a", "\xff", long), api.ErrType},
		{api.Bytes, append(texts("a", long), nums(1)...), api.ErrLong},
		{api.Bytes, append(nums(1), texts("a", long)...), api.ErrType},
		// How many there are has no bound, so what is wrong behind any number of them is told.
		{api.Bool, append(nums(make([]uint64, 70000)...), nums(2)...), api.ErrType},
	} {
		if b, e := column.Write(c.kind, c.l...); len(b) != 0 || e != c.want {
			t.Errorf("%d: Write(%d, %.200v) = %.200v, %v; want %v", i, c.kind, c.l, b, e, c.want)
		}
	}
}

func TestWriteOfNoKind(t *testing.T) {
	for _, kind := range noKinds {
		for _, l := range [][]api.Cell{nil, {}, nums(0), nums(2), texts("a"), texts("\xff"), texts(strings.Repeat("x", 257))} {
			if b, e := column.Write(kind, l...); len(b) != 0 || e != api.ErrKind {
				t.Errorf("Write(%d, %.200v) = %v, %v", kind, l, b, e)
			}
		}
	}
	for _, kind := range everyKind {
		if b, e := column.Write(kind); len(b) != 0 || e != api.OK {
			t.Errorf("Write(%d) = %v, %v", kind, b, e)
		}
	}
}

// TestWriteOfMoreThanAreTaken writes more than may be taken at once.
func TestWriteOfMoreThanAreTaken(t *testing.T) {
	m := mixer(88172645)
	for _, kind := range everyKind {
		for _, n := range []int{1025, 1026, 5001} {
			checkRead(t, checkWrite(t, kind, m.mixed(kind, n)), kind, n)
		}
	}
}

func TestShared(t *testing.T) {
	long := strings.Repeat("x", 70000)
	for _, c := range []struct {
		a, b string
		want int
	}{
		{"", "", 0}, {"", "a", 0}, {"a", "a", 1}, {"a", "b", 0}, {"a", "ab", 1}, {"ab", "ac", 1}, {"abc", "abd", 2}, {"abc", "xbc", 0},
		{"abc", "axc", 1}, {"abab", "ab", 2}, {"\x00", "\x00\x00", 1}, {"\x00", "", 0}, {"ä", "ö", 1}, {"ä", "ä", 2}, {"\xff\xfe", "\xff", 1}, {"\x80", "\x00", 0},
		{"a", "A", 0}, {"é", "e\u0301", 0}, {"\xff", "\ufffd", 0}, {long, long, 70000}, {long, long + "x", 70000}, {long, long[:69999] + "y", 69999}, {long, long[1:], 69999}, {"y" + long, long, 0},
	} {
		if n := column.Shared(c.a, c.b); n != c.want {
			t.Errorf("Shared(%.50q, %.50q) = %d; want %d", c.a, c.b, n, c.want)
		}
		if n := column.Shared(c.b, c.a); n != c.want {
			t.Errorf("Shared(%.50q, %.50q) = %d; want %d", c.b, c.a, n, c.want)
		}
	}
	for _, a := range someBytes() {
		for _, b := range someBytes() {
			if n := column.Shared(a, b); n != sharedOf(a, b) {
				t.Errorf("Shared(%q, %q) = %d; want %d", a, b, n, sharedOf(a, b))
			}
		}
	}
}

// P9.2 and P9.3

func TestReadOfWhatIsNone(t *testing.T) {
	x := strings.Repeat("x", 256)
	max := "\xff\xff\xff\xff\xff\xff\xff\xff\xff\x01"
	over := "\xff\xff\xff\xff\xff\xff\xff\xff\xff\x02"
	for i, c := range []struct {
		b       string
		kind, n int
		at      int
		want    api.Errno
	}{
		// Int
		{"", api.Int, 1, 0, api.ErrShort},
		{"\x80", api.Int, 1, 0, api.ErrShort},
		{"\x02", api.Int, 0, 0, api.ErrLong},
		{"\x02\x02", api.Int, 1, 1, api.ErrLong},
		{"\x02", api.Int, 2, 1, api.ErrShort},
		{"\x02\x80", api.Int, 2, 1, api.ErrShort},
		{"\x80\x00", api.Int, 1, 0, api.ErrForm},
		{"\x02\x80\x00", api.Int, 2, 1, api.ErrForm},
		{over, api.Int, 1, 0, api.ErrLong},
		{max + over, api.Int, 2, 10, api.ErrLong},
		{max + max, api.Int, 2, 20, api.OK},
		// Uint, Float
		{"", api.Uint, 1, 0, api.ErrShort},
		{"\x00", api.Uint, 0, 0, api.ErrLong},
		{over, api.Uint, 1, 0, api.ErrLong},
		{max + over, api.Uint, 2, 10, api.ErrLong},
		{max + max, api.Uint, 2, 20, api.OK},
		{"\x80\x00", api.Uint, 1, 0, api.ErrForm},
		{"\x02\x80\x00", api.Float, 2, 1, api.ErrForm},
		{"\x02\x80", api.Float, 2, 1, api.ErrShort},
		{max + max + "\x00", api.Float, 2, 20, api.ErrLong},
		// Bool
		{"", api.Bool, 1, 0, api.ErrShort},
		{"\x00", api.Bool, 0, 0, api.ErrLong},
		{"\x02", api.Bool, 1, 1, api.ErrForm},
		{"\x80", api.Bool, 7, 1, api.ErrForm},
		{"\x80", api.Bool, 8, 1, api.OK},
		{"\xff", api.Bool, 9, 1, api.ErrShort},
		{"\xff\x02", api.Bool, 9, 2, api.ErrForm},
		{"\xff\x80", api.Bool, 9, 2, api.ErrForm},
		{"\xff\x01", api.Bool, 9, 2, api.OK},
		{"\xff\x01", api.Bool, 8, 1, api.ErrLong},
		{"\xff\x01\x00", api.Bool, 9, 2, api.ErrLong},
		{"\x02\x00", api.Bool, 1, 1, api.ErrForm}, // ahead of the bytes that are left
		// Bytes, Text
		{"", api.Text, 1, 0, api.ErrShort},
		{"\x00", api.Text, 1, 1, api.ErrShort},
		{"\x00\x01", api.Text, 1, 1, api.ErrShort},
		{"\x80\x00", api.Text, 1, 0, api.ErrForm},
		{"\x00\x80\x00", api.Text, 1, 1, api.ErrForm},
		{"\x01\x00", api.Text, 1, 0, api.ErrRange},
		{max + "\x00", api.Bytes, 1, 0, api.ErrRange},
		{over + "\x00", api.Bytes, 1, 0, api.ErrLong},
		{"\x00" + max, api.Bytes, 1, 1, api.ErrLimit},
		{"\x00" + over, api.Bytes, 1, 1, api.ErrLong},
		{"\x00\x00\x00", api.Bytes, 1, 2, api.ErrLong},
		{"\x00\x00", api.Bytes, 0, 0, api.ErrLong},
		{"\x00\x01a\x02\x00", api.Bytes, 2, 3, api.ErrRange},
		{"\x00\x01a\x01\x00", api.Bytes, 2, 5, api.OK},
		{"\x00\x02ab\x00\x01a", api.Bytes, 2, 7, api.ErrForm}, // one more is alike
		{"\x00\x02ab\x01\x01b", api.Bytes, 2, 7, api.ErrForm},
		{"\x00\x02ab\x01\x02bb", api.Text, 2, 8, api.ErrForm},
		{"\x00\x02ab\x00\x02ab", api.Text, 2, 8, api.ErrForm},
		{"\x00\x02ab\x01\x00", api.Text, 2, 6, api.OK}, // none more is there
		{"\x00\x02ab\x01\x01c", api.Text, 2, 7, api.OK},
		{"\x00\x02ab\x00\x00\x01\x00", api.Text, 3, 6, api.ErrRange}, // the one ahead is the empty one
		{"\x00\x80\x02" + x, api.Bytes, 1, 259, api.OK},
		{"\x00\x81\x02" + x + "x", api.Bytes, 1, 1, api.ErrLimit},
		{"\x00\x81\x02", api.Bytes, 1, 1, api.ErrLimit},
		{"\x00\x80\x02" + x[1:], api.Bytes, 1, 1, api.ErrShort},
		{"\x00\x02xx\x02\xfe\x01" + x[2:], api.Bytes, 2, 261, api.OK},
		{"\x00\x02xx\x02\xff\x01" + x[1:], api.Bytes, 2, 5, api.ErrLimit},
		{"\x00\x80\x02" + x + "\x80\x02\x00", api.Bytes, 2, 262, api.OK},
		{"\x00\x80\x02" + x + "\x80\x02\x01x", api.Bytes, 2, 261, api.ErrLimit},
		{"\x00\x80\x02" + x + "\x81\x02\x00", api.Bytes, 2, 259, api.ErrRange},
		{"\x00\x80\x02" + x + "\xff\x01\x00", api.Bytes, 2, 262, api.OK},
		{"\x00\x01\xff", api.Text, 1, 3, api.ErrType},
		{"\x00\x01\xff", api.Bytes, 1, 3, api.OK},
		{"\x00\x01\xc3", api.Text, 1, 3, api.ErrType},
		{"\x00\x02\xc3\xa4\x01\x01\xb6", api.Text, 2, 7, api.OK},
		{"\x00\x02\xc3\xa4\x01\x00", api.Text, 2, 6, api.ErrType},
		{"\x00\x02\xc3\xa4\x01\x01b", api.Text, 2, 7, api.ErrType},
		{"\x00\x02\xc3\xa4\x00\x01\xb6", api.Text, 2, 7, api.ErrType},
		{"\x00\x02\xc3\xa4\x00\x01\xc3", api.Text, 2, 7, api.ErrForm},       // what is alike goes ahead of what is no UTF-8
		{"\x00\x01\xff\x01\x00", api.Text, 2, 3, api.ErrType},               // and each cell ahead of the next one
		{"\x00\x01\xff\x02\x00", api.Text, 2, 3, api.ErrType},               //
		{"\x00\x02ab\x00\x01a\x00\x01\xff", api.Text, 3, 7, api.ErrForm},    //
		{"\x00\x01a\x00\x01\xff\x00\x01\xff", api.Text, 3, 6, api.ErrType},  //
		{"\x00\x01a\x00\x01\xff\x00\x01\xff", api.Bytes, 3, 9, api.ErrForm}, //
	} {
		l, at, e := column.Read([]byte(c.b), c.kind, c.n)
		if at != c.at || e != c.want || e != api.OK && len(l) != 0 {
			t.Errorf("%d: Read(%.50q, %d, %d) = %.200v, %d, %v; want %d, %v", i, c.b, c.kind, c.n, l, at, e, c.at, c.want)
		}
		checkRead(t, []byte(c.b), c.kind, c.n)
	}
}

// TestTakeOfWhatMayNotBe asks for kinds, and so many, that there are not, wherever the reader stands.
func TestTakeOfWhatMayNotBe(t *testing.T) {
	for _, b := range [][]byte{nil, {0}, {128}, {0, 1, 255}, make([]byte, 3000)} {
		for _, kind := range noKinds {
			for _, n := range append([]int{0, 1, 1024}, noCounts...) {
				l, at, e := column.Read(b, kind, n)
				if len(l) != 0 || at != 0 || e != api.ErrKind {
					t.Errorf("Read of %d bytes, %d, %d = %v, %d, %v", len(b), kind, n, l, at, e)
				}
				checkTake(t, b, kind, n)
			}
		}
		for _, kind := range everyKind {
			for _, n := range noCounts {
				l, at, e := column.Read(b, kind, n)
				if len(l) != 0 || at != 0 || e != api.ErrRange {
					t.Errorf("Read of %d bytes, %d, %d = %v, %d, %v", len(b), kind, n, l, at, e)
				}
				checkTake(t, b, kind, n)
			}
		}
	}
}

func TestReadOfAsManyAsMayBe(t *testing.T) {
	m := mixer(521288629)
	for _, kind := range everyKind {
		for _, n := range []int{1023, 1024} {
			l := m.mixed(kind, n)
			b := checkWrite(t, kind, l)
			got, at, e := column.Read(b, kind, n)
			if e != api.OK || at != len(b) || !slices.Equal(got, l) {
				t.Errorf("Read of %d of kind %d: %d, %d, %v", n, kind, len(got), at, e)
			}
			checkRead(t, b, kind, n)
			checkRead(t, b, kind, n-1)
			checkRead(t, b, kind, n+1)
		}
	}
}

// TestTakeOneBehindTheOther takes columns of all kinds off one reader, and what is between them.
func TestTakeOneBehindTheOther(t *testing.T) {
	m := mixer(362436069)
	for range 300 {
		var b []byte
		var all [][]api.Cell
		for _, kind := range everyKind {
			l := m.mixed(kind, m.below(20))
			all = append(all, l)
			b = append(append(b, checkWrite(t, kind, l)...), 77)
		}
		at, e := reader.Run(b, func(r *reader.Reader) {
			for i, kind := range everyKind {
				if got := column.Take(r, kind, len(all[i])); !slices.Equal(got, all[i]) {
					t.Fatalf("Take(%d) = %v; want %v", kind, got, all[i])
				}
				if r.Byte() != 77 {
					t.Fatalf("Take(%d) took more, or less", kind)
				}
			}
		})
		if at != len(b) || e != api.OK {
			t.Fatalf("of %v: %d, %v", b, at, e)
		}
	}
}

// TestTakeOffAReaderThatIsOver shows that nothing panics, and all ends.
func TestTakeOffAReaderThatIsOver(t *testing.T) {
	var over *reader.Reader
	reader.Run([]byte{1, 2, 3}, func(r *reader.Reader) { over = r })
	for _, r := range []*reader.Reader{nil, over} {
		for _, kind := range append(slices.Clone(everyKind), noKinds...) {
			for _, n := range append([]int{0, 1, 9, 1024}, noCounts...) {
				column.Take(r, kind, n)
			}
		}
	}
}

func TestBound(t *testing.T) {
	const most = 1 << 24
	for _, c := range []struct{ n, bytes, want int }{
		{0, 0, 0}, {1, 0, 10}, {0, 1, 1}, {3, 7, 37}, {1024, 1024 * 256, 10240 + 262144},
		{most, 0, 10 * most}, {0, most, most}, {most, most, 11 * most}, {most - 1, most - 1, 11 * (most - 1)},
		{most + 1, 0, 0}, {0, most + 1, 0}, {most + 1, most, 0}, {most, most + 1, 0}, {most + 1, most + 1, 0},
		{-1, 0, 0}, {0, -1, 0}, {-1, 5, 0}, {5, -1, 0}, {-1, -1, 0}, {-1, most, 0}, {most, -1, 0},
		{math.MinInt, 5, 0}, {5, math.MinInt, 0}, {math.MaxInt, 5, 0}, {5, math.MaxInt, 0}, {math.MaxInt, math.MaxInt, 0}, {math.MinInt, math.MaxInt, 0},
		{1 << 32, 1, 0}, {1, 1 << 32, 0}, {1<<32 + 1, 1, 0}, {1, 1<<32 + 1, 0},
	} {
		if n := column.Bound(c.n, c.bytes); n != c.want {
			t.Errorf("Bound(%d, %d) = %d; want %d", c.n, c.bytes, n, c.want)
		}
	}
}

// P9.4

func TestCellsAreReadOfTheirBytes(t *testing.T) {
	for _, kind := range everyKind {
		seen := map[string][]api.Cell{}
		for _, l := range lists(kind) {
			b := checkWrite(t, kind, l)
			got, at, e := column.Read(b, kind, len(l))
			if e != api.OK || at != len(b) || !slices.Equal(got, l) {
				t.Fatalf("Read(%.200v, %d, %d) = %.200v, %d, %v; want %.200v", b, kind, len(l), got, at, e, l)
			}
			checkRead(t, b, kind, len(l))
			key := string(b) + "/" + string(rune(len(l)))
			if other, ok := seen[key]; ok && !slices.Equal(other, l) {
				t.Fatalf("%.200v and %.200v have the same bytes", other, l)
			}
			seen[key] = l
			size := 0
			for _, c := range l {
				size += len(c.Text)
			}
			if most := column.Bound(len(l), size); len(b) > most {
				t.Fatalf("%d cells of kind %d have %d bytes; Bound tells %d", len(l), kind, len(b), most)
			}
		}
	}
}

// TestReadOfAllShortBytes reads all that are made of some bytes where something changes.
func TestReadOfAllShortBytes(t *testing.T) {
	from := []byte{0, 1, 2, 3, 'a', 127, 128, 129, 0xc3, 0xa4, 255}
	var all func(b []byte)
	all = func(b []byte) {
		for _, kind := range everyKind {
			for n := range 4 {
				checkRead(t, b, kind, n)
			}
		}
		if len(b) < 4 {
			for _, c := range from {
				all(append(slices.Clip(b), c))
			}
		}
	}
	all(nil)
}

// TestReadOfAllOfTexts reads all of up to seven bytes that could be of texts.
func TestReadOfAllOfTexts(t *testing.T) {
	from := []byte{0, 1, 2, 'a', 0xc3}
	var all func(b []byte)
	all = func(b []byte) {
		for n := 2; n < 4; n++ {
			want := readOf(b, api.Text, n)
			l, at, e := column.Read(b, api.Text, n)
			if !slices.Equal(l, want.l) || at != want.at || e != want.e {
				t.Fatalf("Read(%v, %d) = %v, %d, %v; want %v", b, n, l, at, e, want)
			}
		}
		if len(b) < 7 {
			for _, c := range from {
				all(append(slices.Clip(b), c))
			}
		}
	}
	all(nil)
}

// TestReadOfWhatIsAllButAColumn cuts and changes the bytes of cells.
func TestReadOfWhatIsAllButAColumn(t *testing.T) {
	m := mixer(123456789)
	for _, kind := range everyKind {
		for range 12 {
			n := 1 + m.below(9)
			b := checkWrite(t, kind, m.mixed(kind, n))
			if len(b) > 400 {
				b = b[:400]
			}
			for at := range b {
				checkRead(t, b[:at], kind, n)
				checkRead(t, b[at:], kind, n)
				checkRead(t, slices.Delete(slices.Clone(b), at, at+1), kind, n)
				for _, c := range []byte{0, 1, 2, 127, 128, 129, 255, b[at] ^ 1, b[at] ^ 128, b[at] + 1, b[at] - 1} {
					changed := slices.Clone(b)
					changed[at] = c
					checkRead(t, changed, kind, n)
					checkRead(t, slices.Insert(slices.Clone(b), at, c), kind, n)
				}
			}
		}
	}
}

// TestBoundOfWhatIsLongest writes cells that have as many bytes as they can.
func TestBoundOfWhatIsLongest(t *testing.T) {
	long := strings.Repeat("x", 256)
	for _, n := range []int{0, 1, 2, 9, 1024} {
		var far, apart, alike []api.Cell
		for i := range n {
			far = append(far, api.Cell{Num: uint64(i+1) << 63})
			apart = append(apart, api.Cell{Text: string(rune('a'+i%2)) + long[1:]})
			alike = append(alike, api.Cell{Text: long[:255] + string(rune('a'+i%2))})
		}
		for _, c := range []struct {
			kind  int
			l     []api.Cell
			bytes int
		}{{api.Int, far, 0}, {api.Uint, far, 0}, {api.Float, far, 0}, {api.Bytes, apart, 256 * n}, {api.Text, alike, 256 * n}, {api.Text, texts(make([]string, n)...), 0}} {
			b := checkWrite(t, c.kind, c.l)
			if most := column.Bound(n, c.bytes); len(b) > most {
				t.Errorf("%d cells of kind %d have %d bytes; Bound tells %d", n, c.kind, len(b), most)
			}
		}
	}
}

// The rules of all layers.

// TestWhatIsHandedInStays calls all with lists that have more behind their length.
func TestWhatIsHandedInStays(t *testing.T) {
	for _, kind := range everyKind {
		m := mixer(987654321)
		room := append(m.mixed(kind, 9), api.Cell{Num: 7, Text: "\xff"}, api.Cell{Num: 8})
		keep := slices.Clone(room)
		b, e := column.Write(kind, room[:9]...)
		if want := writeOf(kind, keep[:9]); e != api.OK || !bytes.Equal(b, want) {
			t.Errorf("Write(%d) = %v, %v; want %v", kind, b, e, want)
		}
		if !slices.Equal(room, keep) {
			t.Errorf("what was handed in became %v", room)
		}
		// What lies behind would make one cell more.
		all := append(slices.Clone(b), writeOf(kind, keep[:1])...)
		keepAll := slices.Clone(all)
		l, at, e := column.Read(all[:len(b)], kind, 9)
		if e != api.OK || at != len(b) || !slices.Equal(l, keep[:9]) {
			t.Errorf("Read(%d) = %v, %d, %v", kind, l, at, e)
		}
		for n := range b {
			want := readOf(slices.Clone(b[:n]), kind, 9)
			if _, at, e := column.Read(all[:n], kind, 9); at != want.at || e != want.e {
				t.Errorf("Read(%d) of %d bytes: %d, %v; want %v", kind, n, at, e, want)
			}
		}
		if !bytes.Equal(all, keepAll) {
			t.Errorf("what was handed in became %v", all)
		}
	}
}

// TestWhatIsAnsweredIsApart changes all that is answered, what could lie behind it, and what was read.
func TestWhatIsAnsweredIsApart(t *testing.T) {
	for _, kind := range everyKind {
		m := mixer(192837465)
		l := m.mixed(kind, 9)
		first, _ := column.Write(kind, l...)
		second, _ := column.Write(kind, l...)
		b := slices.Clone(first)
		one, _, _ := column.Read(first, kind, 9)
		other, _, _ := column.Read(first, kind, 9)
		for _, x := range [][]byte{first, first[:cap(first)]} {
			for i := range x {
				x[i] = 99
			}
		}
		one = one[:cap(one)]
		for i := range one {
			one[i] = api.Cell{Num: 99, Text: "spoilt"}
		}
		if !bytes.Equal(second, b) || !slices.Equal(other, l) {
			t.Errorf("kind %d: what was answered is shared: %v, %v", kind, second, other)
		}
	}
}

// TestAnAnswerHangsOnNothingAhead asks the same again, behind others.
func TestAnAnswerHangsOnNothingAhead(t *testing.T) {
	for _, kind := range everyKind {
		m := mixer(5)
		l := m.mixed(kind, 20)
		b := checkWrite(t, kind, l)
		for _, other := range everyKind {
			column.Write(other, cellsOf(other)...)
			column.Read(b, other, 20)
			column.Read(b[:len(b)-1], kind, 20)
			if again := checkWrite(t, kind, l); !bytes.Equal(again, b) {
				t.Errorf("kind %d, behind %d: %v; want %v", kind, other, again, b)
			}
			checkRead(t, b, kind, 20)
		}
	}
}

// TestManyAtATime asks by many goroutines at a time, of the same lists.
func TestManyAtATime(t *testing.T) {
	var all sync.WaitGroup
	for _, kind := range everyKind {
		m := mixer(77)
		l := m.mixed(kind, 1024)
		want := writeOf(kind, l)
		for range 8 {
			all.Go(func() {
				b, e := column.Write(kind, l...)
				got, at, d := column.Read(want, kind, 1024)
				if e != api.OK || d != api.OK || at != len(want) || !bytes.Equal(b, want) || !slices.Equal(got, l) {
					t.Error(kind, e, d, at)
				}
			})
		}
	}
	all.Wait()
}
