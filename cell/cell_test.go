package cell_test

import (
	"bytes"
	"cmp"
	"encoding/hex"
	"math"
	"math/big"
	"regexp"
	"slices"
	"strconv"
	"strings"
	"testing"

	"deckle/api"
	"deckle/cell"
)

var (
	everyKind = []int{api.Int, api.Uint, api.Bool, api.Bytes, api.Text, api.Float}
	noKinds   = []int{math.MinInt, math.MinInt32, -2, -1, 6, 7, 256, 1 << 32, 1<<32 + 1, math.MaxInt}
)

func num(x uint64) api.Cell { return api.Cell{Num: x} }

func text(s string) api.Cell { return api.Cell{Text: s} }

// numbers are those around which something changes: small ones, and each power of two and of ten with what stands beside it.
func numbers() []uint64 {
	var l []uint64
	for x := range uint64(300) {
		l = append(l, x, -x)
	}
	for i := range 64 {
		p := uint64(1) << i
		l = append(l, p-1, p, p+1, ^p, -p, p*0x9e3779b97f4a7c15)
	}
	for p := uint64(1); p <= 1e19; p *= 10 {
		l = append(l, p-1, p, p+1, -p, -p-1, -p+1)
		if p == 1e19 {
			break
		}
	}
	return l
}

// isUTF8 tells it by the rules of the encoding alone: how many bytes the first one asks for, each other one from 128 to 191, no longer than it need be, no half of a pair, nothing above 10ffff.
func isUTF8(s string) bool {
	least := []int{0, 0, 0x80, 0x800, 0x10000}
	for len(s) > 0 {
		n, x := 1, int(s[0])
		switch {
		case x >= 0xf8 || x >= 0x80 && x < 0xc0:
			return false
		case x >= 0xf0:
			n, x = 4, x-0xf0
		case x >= 0xe0:
			n, x = 3, x-0xe0
		case x >= 0xc0:
			n, x = 2, x-0xc0
		}
		if len(s) < n {
			return false
		}
		for _, c := range []byte(s[1:n]) {
			if c < 0x80 || c > 0xbf {
				return false
			}
			x = 64*x + int(c) - 0x80
		}
		if x < least[n] || x > 0x10ffff || x >= 0xd800 && x <= 0xdfff {
			return false
		}
		s = s[n:]
	}
	return true
}

// checkOf is Check as the document tells it.
func checkOf(kind int, c api.Cell) api.Errno {
	switch kind {
	case api.Int, api.Uint, api.Float:
		if c.Text != "" {
			return api.ErrType
		}
	case api.Bool:
		if c.Text != "" || c.Num > 1 {
			return api.ErrType
		}
	case api.Bytes:
		if c.Num != 0 {
			return api.ErrType
		}
	case api.Text:
		if c.Num != 0 || !isUTF8(c.Text) {
			return api.ErrType
		}
	default:
		return api.ErrKind
	}
	if len(c.Text) > api.MaxText {
		return api.ErrLong
	}
	return api.OK
}

// textOf is the text of a cell that Check lets be.
func textOf(kind int, c api.Cell) string {
	x := new(big.Int).SetUint64(c.Num)
	switch kind {
	case api.Int:
		return big.NewInt(int64(c.Num)).String()
	case api.Uint:
		return x.String()
	case api.Bool:
		return []string{"false", "true"}[c.Num]
	case api.Float:
		return hex.EncodeToString(x.FillBytes(make([]byte, 8)))
	}
	if c.Text == "" {
		return "-"
	}
	return hex.EncodeToString([]byte(c.Text))
}

var forms = []*regexp.Regexp{
	api.Int:   regexp.MustCompile(`\A(0|-?[1-9][0-9]*)\z`),
	api.Uint:  regexp.MustCompile(`\A(0|[1-9][0-9]*)\z`),
	api.Bool:  regexp.MustCompile(`\A(false|true)\z`),
	api.Bytes: regexp.MustCompile(`\A(-|([0-9a-f][0-9a-f])+)\z`),
	api.Text:  regexp.MustCompile(`\A(-|([0-9a-f][0-9a-f])+)\z`),
	api.Float: regexp.MustCompile(`\A[0-9a-f]{16}\z`),
}

// readOf is Read of a kind that there is, as the document tells it.
func readOf(kind int, s string) (api.Cell, api.Errno) {
	if !forms[kind].MatchString(s) {
		return api.Cell{}, api.ErrForm
	}
	switch kind {
	case api.Int, api.Uint:
		x, _ := new(big.Int).SetString(s, 10)
		if kind == api.Int && x.IsInt64() {
			return num(uint64(x.Int64())), api.OK
		}
		if kind == api.Uint && x.IsUint64() {
			return num(x.Uint64()), api.OK
		}
		return api.Cell{}, api.ErrForm
	case api.Bool:
		return num(uint64(strings.Count(s, "true"))), api.OK
	case api.Float:
		x, _ := new(big.Int).SetString(s, 16)
		return num(x.Uint64()), api.OK
	}
	b, _ := hex.DecodeString(strings.TrimPrefix(s, "-"))
	if len(b) > api.MaxText {
		return api.Cell{}, api.ErrLong
	}
	if kind == api.Text && !isUTF8(string(b)) {
		return api.Cell{}, api.ErrType
	}
	return text(string(b)), api.OK
}

// mixed are n texts, the same ones at each call, of up to a few bytes out of those of parts.
func mixed(n, most int, parts string) []string {
	x := uint32(2463534242)
	next := func(below int) int {
		x ^= x << 13
		x ^= x >> 17
		x ^= x << 5
		return int(x>>5) % below
	}
	var l []string
	for range n {
		var b []byte
		for range next(most + 1) {
			b = append(b, parts[next(len(parts))])
		}
		l = append(l, string(b))
	}
	return l
}

// encodings are bytes that are UTF-8, or all but that: all of one and two, and of three and four those at the encoding's edges.
func encodings() []string {
	l := []string{""}
	edges := []byte{0, 0x41, 0x7f, 0x80, 0x8f, 0x90, 0x9f, 0xa0, 0xbf, 0xc0, 0xc1, 0xc2, 0xdf, 0xe0, 0xe1, 0xec, 0xed, 0xee, 0xef, 0xf0, 0xf1, 0xf3, 0xf4, 0xf5, 0xf7, 0xf8, 0xff}
	for i := range 256 {
		l = append(l, string([]byte{byte(i)}))
		for j := range 256 {
			l = append(l, string([]byte{byte(i), byte(j)}))
		}
	}
	for _, a := range edges {
		for _, b := range edges {
			for _, c := range edges {
				l = append(l, string([]byte{a, b, c}))
				for _, d := range edges {
					l = append(l, string([]byte{a, b, c, d}))
				}
			}
		}
	}
	return l
}

// cells are such of all kinds, and such of none.
func cells() []api.Cell {
	var l []api.Cell
	for _, x := range numbers() {
		l = append(l, num(x), api.Cell{Num: x, Text: "a"})
	}
	for _, x := range floatsInOrder() {
		l = append(l, num(x))
	}
	for _, n := range []int{1, 2, 255, 256, 257, 258, 512, 70000} {
		for _, part := range []string{"x", "\x00", "ä", "\xff", "\U0001f600"} {
			whole := strings.Repeat(part, n)
			l = append(l, text(whole), text(whole[:n]), api.Cell{Num: 1, Text: whole[:n]})
		}
	}
	for _, s := range mixed(500, 6, "\x00a\xc3\xa4\xff~") {
		l = append(l, text(s), api.Cell{Num: 1, Text: s})
	}
	return l
}

// floatsInOrder are floats' bits, in the order that the document tells.
func floatsInOrder() []uint64 {
	return []uint64{
		0xffffffffffffffff, 0xfffffffffffffffe, 0xfff8000000000001, 0xfff8000000000000, 0xfff7ffffffffffff, 0xfff0000000000001,
		0xfff0000000000000, // -Inf
		0xffefffffffffffff, 0xc000000000000000, 0xbff0000000000001, 0xbff0000000000000, 0xbfefffffffffffff,
		0x8010000000000000, 0x800fffffffffffff, 0x8000000000000002, 0x8000000000000001,
		0x8000000000000000, // -0
		0x0000000000000000,
		0x0000000000000001, 0x0000000000000002, 0x000fffffffffffff, 0x0010000000000000,
		0x3fefffffffffffff, 0x3ff0000000000000, 0x3ff0000000000001, 0x4000000000000000, 0x7fefffffffffffff,
		0x7ff0000000000000, // +Inf
		0x7ff0000000000001, 0x7ff7ffffffffffff, 0x7ff8000000000000, 0x7ff8000000000001, 0x7ffffffffffffffe, 0x7fffffffffffffff,
	}
}

// P4.1

func TestCheck(t *testing.T) {
	long, longest := strings.Repeat("x", 257), strings.Repeat("x", 256)
	for _, c := range []struct {
		kind int
		c    api.Cell
		want api.Errno
	}{
		{api.Int, num(0), api.OK},
		{api.Int, num(math.MaxUint64), api.OK},
		{api.Int, text("a"), api.ErrType},
		{api.Int, text("\x00"), api.ErrType},
		{api.Int, text(long), api.ErrType},
		{api.Uint, num(math.MaxUint64), api.OK},
		{api.Uint, text("a"), api.ErrType},
		{api.Uint, text(long), api.ErrType},
		{api.Bool, num(0), api.OK},
		{api.Bool, num(1), api.OK},
		{api.Bool, num(2), api.ErrType},
		{api.Bool, num(256), api.ErrType},
		{api.Bool, num(math.MaxUint64), api.ErrType},
		{api.Bool, api.Cell{Num: 1, Text: "a"}, api.ErrType},
		{api.Bool, text(long), api.ErrType},
		{api.Bytes, text(""), api.OK},
		{api.Bytes, text("\xff\x00"), api.OK},
		{api.Bytes, text(longest), api.OK},
		{api.Bytes, text(long), api.ErrLong},
		{api.Bytes, text(strings.Repeat("\xff", 257)), api.ErrLong},
		{api.Bytes, num(1), api.ErrType},
		{api.Bytes, num(1 << 63), api.ErrType},
		{api.Bytes, api.Cell{Num: 1, Text: long}, api.ErrType}, // the type goes ahead of what is long
		{api.Text, text(""), api.OK},
		{api.Text, text("ä\x00"), api.OK},
		{api.Text, text(longest), api.OK},
		{api.Text, text(strings.Repeat("ä", 128)), api.OK},
		{api.Text, text(strings.Repeat("ä", 129)), api.ErrLong}, // bytes count, not runes
		{api.Text, text(long), api.ErrLong},
		{api.Text, text("\xff"), api.ErrType},
		{api.Text, text("\ufffd"), api.OK},
		{api.Text, text(long + "\xff"), api.ErrType},
		{api.Text, text(longest + "ä"[:1]), api.ErrType},
		{api.Text, num(1), api.ErrType},
		{api.Text, api.Cell{Num: 1, Text: long}, api.ErrType},
		{api.Float, num(0), api.OK},
		{api.Float, num(math.MaxUint64), api.OK},
		{api.Float, num(0x7ff0000000000001), api.OK},
		{api.Float, text("a"), api.ErrType},
		{api.Float, text(long), api.ErrType},
	} {
		if e := cell.Check(c.kind, c.c); e != c.want {
			t.Errorf("Check(%d, %d, %q) = %v; want %v", c.kind, c.c.Num, c.c.Text, e, c.want)
		}
	}
	for _, kind := range everyKind {
		for _, c := range cells() {
			if e, want := cell.Check(kind, c), checkOf(kind, c); e != want {
				t.Fatalf("Check(%d, %d, %q) = %v; want %v", kind, c.Num, c.Text, e, want)
			}
		}
	}
}

func TestNoSuchKindGoesAheadOfAll(t *testing.T) {
	for _, kind := range noKinds {
		for _, c := range append(cells(), api.Cell{}) {
			if e := cell.Check(kind, c); e != api.ErrKind {
				t.Fatalf("Check(%d, %d, %q) = %v", kind, c.Num, c.Text, e)
			}
			if s, e := cell.Text(kind, c); s != "" || e != api.ErrKind {
				t.Fatalf("Text(%d, %d, %q) = %q, %v", kind, c.Num, c.Text, s, e)
			}
		}
		if n := cell.Compare(kind, num(0), num(1)); n != 0 {
			t.Errorf("Compare(%d, 0, 1) = %d", kind, n)
		}
		for _, s := range []string{"", "0", "-", "61", "ff", "true", "0000000000000000", "?", strings.Repeat("61", 257)} {
			if c, e := cell.Read(kind, s); c != (api.Cell{}) || e != api.ErrKind {
				t.Errorf("Read(%d, %q) = %v, %v", kind, s, c, e)
			}
		}
	}
}

func TestTextIsUTF8(t *testing.T) {
	for _, s := range encodings() {
		want := api.OK
		if !isUTF8(s) {
			want = api.ErrType
		}
		if e := cell.Check(api.Text, text(s)); e != want {
			t.Fatalf("Check(Text, %q) = %v; want %v", s, e, want)
		}
		if e := cell.Check(api.Bytes, text(s)); e != api.OK {
			t.Fatalf("Check(Bytes, %q) = %v", s, e)
		}
	}
}

// checkOrder holds each two of l, which stand in order, against each other.
func checkOrder(t *testing.T, kind int, l []api.Cell) {
	t.Helper()
	for i, a := range l {
		for k, b := range l {
			if n := cell.Compare(kind, a, b); n != cmp.Compare(i, k) {
				t.Fatalf("Compare(%d, %v, %v) = %d; want %d", kind, a, b, n, cmp.Compare(i, k))
			}
		}
	}
}

func TestCompareNumbers(t *testing.T) {
	var signed []int64
	unsigned := numbers()
	for _, x := range unsigned {
		signed = append(signed, int64(x))
	}
	slices.Sort(signed)
	slices.Sort(unsigned)
	var l, m []api.Cell
	for _, x := range slices.Compact(signed) {
		l = append(l, num(uint64(x)))
	}
	for _, x := range slices.Compact(unsigned) {
		m = append(m, num(x))
	}
	checkOrder(t, api.Int, l)
	checkOrder(t, api.Uint, m)
	checkOrder(t, api.Bool, []api.Cell{num(0), num(1)})
	checkOrder(t, api.Int, []api.Cell{num(1 << 63), num(math.MaxUint64), num(0), num(1), num(1<<63 - 1)})
	checkOrder(t, api.Uint, []api.Cell{num(0), num(1), num(1<<63 - 1), num(1 << 63), num(math.MaxUint64)})
}

func TestCompareTexts(t *testing.T) {
	long := strings.Repeat("a", 255)
	l := []string{"", "\x00", "\x00\x00", "\x00\x01", "\x01", "A", "Z", "a", "a\x00", "aa", long, long + "\x00", long + "a", long + "b", "ab", "abc", "b", "\x7f", "z\u0301"}
	slices.Sort(l)
	l = append(l, "\u0080", "ä", "\u0800", "\uffff", "\U00010000", "\U0010ffff")
	var m []api.Cell
	for _, s := range l {
		m = append(m, text(s))
	}
	checkOrder(t, api.Text, m)
	checkOrder(t, api.Bytes, m)
	checkOrder(t, api.Bytes, []api.Cell{text(""), text("\x00"), text("\x7f"), text("\x7f\xff"), text("\x80"), text("\x80\x00"), text("\xff"), text("\xff\x00"), text("\xff\xff")})
	for _, a := range mixed(100, 3, "\x00a\x80\xff") {
		for _, b := range mixed(100, 3, "\x00a\x80\xff") {
			want := bytes.Compare([]byte(a), []byte(b))
			if n := cell.Compare(api.Bytes, text(a), text(b)); n != want {
				t.Fatalf("Compare(Bytes, %q, %q) = %d; want %d", a, b, n, want)
			}
		}
	}
}

// floatOrder holds two floats' bits against each other as the document tells it, by floats where they are numbers.
func floatOrder(a, b uint64) int {
	class := func(bits uint64) int {
		switch x := math.Float64frombits(bits); {
		case x != x && bits>>63 == 1:
			return 0
		case x != x:
			return 2
		}
		return 1
	}
	if n := cmp.Compare(class(a), class(b)); n != 0 {
		return n
	}
	switch class(a) {
	case 0:
		return cmp.Compare(b, a)
	case 2:
		return cmp.Compare(a, b)
	}
	x, y := math.Float64frombits(a), math.Float64frombits(b)
	if x == 0 && y == 0 {
		return cmp.Compare(b>>63, a>>63)
	}
	return cmp.Compare(x, y)
}

func TestCompareFloats(t *testing.T) {
	var l []api.Cell
	for _, x := range floatsInOrder() {
		l = append(l, num(x))
	}
	checkOrder(t, api.Float, l)
	// The document's examples.
	if cell.Compare(api.Float, num(0x8000000000000000), num(0)) != -1 {
		t.Error("-0 isn't ahead of +0")
	}
	if cell.Compare(api.Float, num(0x7ff8000000000001), cell.Float(math.Inf(1))) != 1 {
		t.Error("what is no number, without a sign, isn't behind +Inf")
	}
	for _, a := range numbers() {
		for _, b := range numbers() {
			if n, want := cell.Compare(api.Float, num(a), num(b)), floatOrder(a, b); n != want {
				t.Fatalf("Compare(Float, %x, %x) = %d; want %d", a, b, n, want)
			}
		}
	}
}

func TestCompareOfWhatIsNoCell(t *testing.T) {
	long := strings.Repeat("x", 257)
	for _, c := range []struct {
		kind      int
		good, bad api.Cell
	}{
		{api.Int, num(1), text("a")},
		{api.Int, num(1), api.Cell{Num: 2, Text: "a"}},
		{api.Uint, num(1), api.Cell{Num: 2, Text: "a"}},
		{api.Float, num(1), api.Cell{Num: 2, Text: "a"}},
		{api.Bool, num(1), num(2)},
		{api.Bool, num(0), api.Cell{Num: 1, Text: "a"}},
		{api.Bytes, text("a"), text(long)},
		{api.Bytes, text("a"), api.Cell{Num: 1, Text: "b"}},
		{api.Text, text("a"), text(long)},
		{api.Text, text("a"), text("\xff")},
		{api.Text, text("a"), api.Cell{Num: 1, Text: "b"}},
	} {
		if n := cell.Compare(c.kind, c.good, c.bad); n != 0 {
			t.Errorf("Compare(%d, %v, %v) = %d", c.kind, c.good, c.bad, n)
		}
		if n := cell.Compare(c.kind, c.bad, c.good); n != 0 {
			t.Errorf("Compare(%d, %v, %v) = %d", c.kind, c.bad, c.good, n)
		}
	}
}

// P4.2

func TestFloatAndNumber(t *testing.T) {
	for _, c := range []struct {
		x    float64
		bits uint64
	}{
		{0, 0},
		{math.Copysign(0, -1), 0x8000000000000000},
		{1, 0x3ff0000000000000},
		{-2, 0xc000000000000000},
		{1.5, 0x3ff8000000000000},
		{0.1, 0x3fb999999999999a},
		{5e-324, 1},
		{math.MaxFloat64, 0x7fefffffffffffff},
		{math.Inf(1), 0x7ff0000000000000},
		{math.Inf(-1), 0xfff0000000000000},
	} {
		if got := cell.Float(c.x); got != num(c.bits) {
			t.Errorf("Float(%v) = %v; want %x", c.x, got, c.bits)
		}
		if got := cell.Number(num(c.bits)); got != c.x || math.Signbit(got) != math.Signbit(c.x) {
			t.Errorf("Number(%x) = %v; want %v", c.bits, got, c.x)
		}
		if got := cell.Number(api.Cell{Num: c.bits, Text: "a"}); got != c.x {
			t.Errorf("Number(%x) beside a text = %v; want %v", c.bits, got, c.x)
		}
	}
	for _, bits := range append(numbers(), floatsInOrder()...) {
		x := cell.Number(num(bits))
		if math.IsNaN(x) != math.IsNaN(math.Float64frombits(bits)) {
			t.Fatalf("Number(%x) = %v", bits, x)
		}
		got := cell.Float(x)
		if got.Text != "" || !math.IsNaN(x) && got.Num != bits || !math.IsNaN(math.Float64frombits(got.Num)) && math.IsNaN(x) {
			t.Fatalf("Float(Number(%x)) = %x, %q", bits, got.Num, got.Text)
		}
	}
}

func TestIntAndSigned(t *testing.T) {
	for _, c := range []struct {
		x    int64
		bits uint64
	}{
		{0, 0},
		{1, 1},
		{-1, math.MaxUint64},
		{-7, math.MaxUint64 - 6},
		{math.MaxInt64, 1<<63 - 1},
		{math.MinInt64, 1 << 63},
	} {
		if got := cell.Int(c.x); got != num(c.bits) {
			t.Errorf("Int(%d) = %v; want %x", c.x, got, c.bits)
		}
		if got := cell.Signed(num(c.bits)); got != c.x {
			t.Errorf("Signed(%x) = %d; want %d", c.bits, got, c.x)
		}
		if got := cell.Signed(api.Cell{Num: c.bits, Text: "a"}); got != c.x {
			t.Errorf("Signed(%x) beside a text = %d; want %d", c.bits, got, c.x)
		}
	}
	for _, bits := range numbers() {
		if got := cell.Int(cell.Signed(num(bits))); got != num(bits) {
			t.Fatalf("Int(Signed(%x)) = %v", bits, got)
		}
	}
}

// P4.3

func TestText(t *testing.T) {
	for _, c := range []struct {
		kind int
		c    api.Cell
		want string
	}{
		{api.Int, cell.Int(0), "0"},
		{api.Int, cell.Int(-1), "-1"},
		{api.Int, cell.Int(10), "10"},
		{api.Int, cell.Int(math.MaxInt64), "9223372036854775807"},
		{api.Int, cell.Int(math.MinInt64), "-9223372036854775808"},
		{api.Uint, num(0), "0"},
		{api.Uint, num(math.MaxUint64), "18446744073709551615"},
		{api.Bool, num(0), "false"},
		{api.Bool, num(1), "true"},
		{api.Bytes, text(""), "-"},
		{api.Bytes, text("\x00"), "00"},
		{api.Bytes, text("-"), "2d"},
		{api.Bytes, text("\x00\xff\xa5"), "00ffa5"},
		{api.Text, text(""), "-"},
		{api.Text, text("ä"), "c3a4"},
		{api.Text, text(strings.Repeat("x", 256)), strings.Repeat("78", 256)},
		{api.Float, num(0), "0000000000000000"},
		{api.Float, num(0x8000000000000000), "8000000000000000"},
		{api.Float, num(0x7ff8000000000001), "7ff8000000000001"},
		{api.Float, num(0xabcdef), "0000000000abcdef"},
		{api.Float, num(math.MaxUint64), "ffffffffffffffff"},
	} {
		if s, e := cell.Text(c.kind, c.c); s != c.want || e != api.OK {
			t.Errorf("Text(%d, %v) = %q, %v; want %q", c.kind, c.c, s, e, c.want)
		}
	}
	for _, kind := range everyKind {
		for _, c := range cells() {
			wantE, want := checkOf(kind, c), ""
			if wantE == api.OK {
				want = textOf(kind, c)
			}
			if s, e := cell.Text(kind, c); s != want || e != wantE {
				t.Fatalf("Text(%d, %v) = %q, %v; want %q, %v", kind, c, s, e, want, wantE)
			}
		}
	}
}

// wrongTexts are such as no kind has, and such as others may have, but not this one.
func wrongTexts(kind int) []string {
	l := []string{"", " ", "--", "+1", "-0", "00 ", " 00", "0x00", "00_00", "0A", "AB", "fg", "g0", "0:", "/0", "`0", "@0", "\x00", "0\x00", "ä", "ää", "\xff", "\xff\xff", "True", "FALSE", "TRUE", "t", "f", "true ", " true", "tru", "nil", "1.0", "1,0", "61,", "10\n", "false\n", "٣", "-a", "6-", "0\u0660"}
	switch kind {
	case api.Int:
		l = append(l, "-", "01", "00", "-01", "-00", "1_0", "1e1", "a", "ff", "0b1", "9223372036854775808", "-9223372036854775809", "18446744073709551615", "18446744073709551616", "99999999999999999999", "-99999999999999999999", "true")
	case api.Uint:
		l = append(l, "-", "-1", "-61", "01", "00", "a", "ff", "18446744073709551616", "18446744073709551625", "99999999999999999999", "184467440737095516150", "true")
	case api.Bool:
		l = append(l, "-", "0", "1", "T", "F", "no", "yes", "falsetrue")
	case api.Bytes, api.Text:
		l = append(l, "0", "f", "123", "6162f", "-61", "-00", "00-", strings.Repeat("61", 256)+"6", strings.Repeat("61", 257)+"6", strings.Repeat("61", 257)+"6g", "6g"+strings.Repeat("61", 257), strings.Repeat("61", 200)+"6G"+strings.Repeat("61", 200))
	case api.Float:
		l = append(l, "-", "0", "1", "1.5", "3ff", "nan", "inf", "3ff000000000000", "3ff00000000000000", "00000000000000000", "3FF0000000000000", "3ff000000000000A", "3ff000000000000g", "-ff0000000000000", "-3ff0000000000000", "+ff0000000000000", "0x3ff00000000000", "3ff_000000000000", " 3ff000000000000", "03ff0000000000000")
	}
	return l
}

func TestReadOfNoText(t *testing.T) {
	for _, kind := range everyKind {
		for _, s := range wrongTexts(kind) {
			if c, e := cell.Read(kind, s); c != (api.Cell{}) || e != api.ErrForm {
				t.Errorf("Read(%d, %q) = %v, %v", kind, s, c, e)
			}
		}
	}
}

func TestReadOfTextsThatAreLongOrNoUTF8(t *testing.T) {
	for _, c := range []struct {
		kind int
		s    string
		want api.Errno
	}{
		{api.Bytes, strings.Repeat("61", 257), api.ErrLong},
		{api.Bytes, strings.Repeat("ff", 257), api.ErrLong},
		{api.Bytes, strings.Repeat("00", 70000), api.ErrLong},
		{api.Text, strings.Repeat("61", 257), api.ErrLong},
		{api.Text, strings.Repeat("ff", 257), api.ErrLong}, // what is long goes ahead of the type
		{api.Text, "ff", api.ErrType},
		{api.Text, "61c3", api.ErrType},
		{api.Text, "eda080", api.ErrType},
		{api.Text, "c080", api.ErrType},
		{api.Text, "f4908080", api.ErrType},
		{api.Text, strings.Repeat("ff", 256), api.ErrType},
	} {
		if got, e := cell.Read(c.kind, c.s); got != (api.Cell{}) || e != c.want {
			t.Errorf("Read(%d, %q) = %v, %v; want none, %v", c.kind, c.s, got, e, c.want)
		}
	}
	for _, s := range []string{strings.Repeat("61", 256), strings.Repeat("c3a4", 128)} {
		want, _ := hex.DecodeString(s)
		for _, kind := range []int{api.Bytes, api.Text} {
			if c, e := cell.Read(kind, s); c != text(string(want)) || e != api.OK {
				t.Errorf("Read(%d, %q) = %v, %v", kind, s, c, e)
			}
		}
	}
}

func checkRead(t *testing.T, kind int, s string) {
	t.Helper()
	want, wantE := readOf(kind, s)
	if c, e := cell.Read(kind, s); c != want || e != wantE {
		t.Fatalf("Read(%d, %q) = %v, %v; want %v, %v", kind, s, c, e, want, wantE)
	}
}

func TestRead(t *testing.T) {
	texts := []string{"true", "false", "0000000000000000", "ffffffffffffffff", "7ff8000000000001"}
	for i := range 256 {
		texts = append(texts, string([]byte{byte(i)}))
		for j := range 256 {
			texts = append(texts, string([]byte{byte(i), byte(j)}))
		}
	}
	texts = append(texts, mixed(3000, 5, "-+0169af_")...)
	texts = append(texts, mixed(3000, 22, "0123456789")...)
	texts = append(texts, mixed(3000, 20, "0123456789abcdef")...)
	for _, x := range numbers() {
		u, s := strconv.FormatUint(x, 10), strconv.FormatInt(int64(x), 10)
		texts = append(texts, u, s, "0"+u, "-"+u, "+"+u, u+"0", s+"0", s+" ", strconv.FormatUint(x, 16), textOf(api.Float, num(x)))
	}
	for _, kind := range everyKind {
		for _, s := range texts {
			checkRead(t, kind, s)
		}
		for _, s := range wrongTexts(kind) {
			checkRead(t, kind, s)
		}
	}
	for _, s := range encodings() {
		checkRead(t, api.Text, hex.EncodeToString([]byte(s)))
		checkRead(t, api.Bytes, hex.EncodeToString([]byte(s)))
	}
}

func TestNames(t *testing.T) {
	want := []string{api.Int: "int", api.Uint: "uint", api.Bool: "bool", api.Bytes: "bytes", api.Text: "text", api.Float: "float"}
	l := cell.Names()
	if !slices.Equal(l, want) {
		t.Fatalf("Names() = %q; want %q", l, want)
	}
	for i := range l {
		l[i] = "x"
	}
	if l = cell.Names(); !slices.Equal(l, want) {
		t.Errorf("one answer follows another: %q", l)
	}
}

// P4.4

func TestATextIsReadAsItsCell(t *testing.T) {
	for _, kind := range everyKind {
		for _, c := range cells() {
			s, e := cell.Text(kind, c)
			if e != api.OK {
				continue
			}
			if got, e := cell.Read(kind, s); got != c || e != api.OK {
				t.Fatalf("Read(%d, Text of %v) = %v, %v", kind, c, got, e)
			}
		}
	}
}

func TestOfTwoUnlikeCellsOneIsAhead(t *testing.T) {
	for _, kind := range everyKind {
		var l []api.Cell
		for _, c := range cells() {
			if cell.Check(kind, c) == api.OK {
				l = append(l, c)
			}
		}
		for _, a := range l {
			for _, b := range l {
				n := cell.Compare(kind, a, b)
				if (n == 0) != (a == b) || n < -1 || n > 1 || n != -cell.Compare(kind, b, a) {
					t.Fatalf("Compare(%d, %v, %v) = %d", kind, a, b, n)
				}
			}
		}
		slices.SortFunc(l, func(a, b api.Cell) int { return cell.Compare(kind, a, b) })
		checkOrder(t, kind, slices.Compact(l))
	}
}
