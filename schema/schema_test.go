package schema_test

import (
	"bytes"
	"hash/crc32"
	"math"
	"regexp"
	"slices"
	"strconv"
	"strings"
	"testing"

	"deckle/api"
	"deckle/schema"
)

var (
	everyKind = []int{api.Int, api.Uint, api.Bool, api.Bytes, api.Text, api.Float}
	kindNames = []string{"int", "uint", "bool", "bytes", "text", "float"}
	noKinds   = []int{math.MinInt, math.MinInt32, -256, -2, -1, 6, 7, 255, 256, 257, 1 << 32, 1<<32 + 1, math.MaxInt}
)

func col(name string, kind int) api.Column { return api.Column{Name: name, Kind: kind} }

// many are n columns, no two of one name.
func many(n int) []api.Column {
	var s []api.Column
	for i := range n {
		s = append(s, col("c"+strconv.Itoa(i), i%len(everyKind)))
	}
	return s
}

// with are many(n), the i-th one another.
func with(n, i int, c api.Column) []api.Column {
	s := many(n)
	s[i] = c
	return s
}

// isLetter tells whether a name may have that byte.
func isLetter(c byte) bool {
	return c >= 'a' && c <= 'z' || c >= '0' && c <= '9' || c == '_'
}

func isName(s string) bool {
	for _, c := range []byte(s) {
		if !isLetter(c) {
			return false
		}
	}
	return s != ""
}

// checkOf is Check as the document tells it.
func checkOf(s []api.Column) api.Errno {
	if len(s) == 0 {
		return api.ErrNone
	}
	if len(s) > 8 {
		return api.ErrLimit
	}
	for i, c := range s {
		if len(c.Name) > 32 {
			return api.ErrLong
		}
		if !isName(c.Name) {
			return api.ErrArg
		}
		for _, a := range s[:i] {
			if a.Name == c.Name {
				return api.ErrArg
			}
		}
		if c.Kind < 0 || c.Kind > 5 {
			return api.ErrKind
		}
	}
	return api.OK
}

// bytesOf and textOf are those of a schema that Check lets be.
func bytesOf(s []api.Column) []byte {
	b := []byte{byte(len(s))}
	for _, c := range s {
		b = append(b, byte(len(c.Name)))
		b = append(b, c.Name...)
		b = append(b, byte(c.Kind))
	}
	return b
}

func textOf(s []api.Column) string {
	text := ""
	for i, c := range s {
		if i > 0 {
			text += ","
		}
		text += c.Name + ":" + kindNames[c.Kind]
	}
	return text
}

// numberOf is the number that b begins with, as layer 1's document tells it, as far as it is below 2^63.
func numberOf(b []byte) (int, int, api.Errno) {
	x := 0
	for i, c := range b {
		if i == 9 {
			break
		}
		x += int(c%128) << (7 * i)
		if c < 128 && i > 0 && c == 0 {
			return 0, 0, api.ErrForm
		}
		if c < 128 {
			return x, i + 1, api.OK
		}
	}
	if len(b) < 10 {
		return 0, 0, api.ErrShort
	}
	switch {
	case b[9] == 0:
		return 0, 0, api.ErrForm
	case b[9] == 1:
		return math.MaxInt, 10, api.OK
	}
	return 0, 0, api.ErrLong
}

// readOf is Read as the document tells it.
func readOf(b []byte) ([]api.Column, int, api.Errno) {
	count, at, e := numberOf(b)
	if e == api.OK && count > 8 {
		e = api.ErrRange
	}
	if e != api.OK {
		return nil, 0, e
	}
	if count == 0 {
		return nil, at, api.ErrNone
	}
	var s []api.Column
	for range count {
		size, n, e := numberOf(b[at:])
		if e == api.OK && size > 32 {
			e = api.ErrLimit
		}
		if e == api.OK && size > len(b)-at-n {
			e = api.ErrShort
		}
		if e != api.OK {
			return nil, at, e
		}
		at += n + size
		name := string(b[at-size : at])
		if !isName(name) || slices.ContainsFunc(s, func(c api.Column) bool { return c.Name == name }) {
			return nil, at, api.ErrArg
		}
		if at == len(b) {
			return nil, at, api.ErrShort
		}
		at++
		if b[at-1] > 5 {
			return nil, at, api.ErrKind
		}
		s = append(s, col(name, int(b[at-1])))
	}
	if at < len(b) {
		return nil, at, api.ErrLong
	}
	return s, at, api.OK
}

var partForm = regexp.MustCompile(`(?s)\A([^:,]*):(int|uint|bool|bytes|text|float)\z`)

// parseOf is Parse as the document tells it.
func parseOf(t string) ([]api.Column, api.Errno) {
	var s []api.Column
	for _, part := range strings.Split(t, ",") {
		m := partForm.FindStringSubmatch(part)
		if m == nil {
			return nil, api.ErrForm
		}
		s = append(s, col(m[1], slices.Index(kindNames, m[2])))
	}
	if e := checkOf(s); e != api.OK {
		return nil, e
	}
	return s, api.OK
}

// names are such as may be, and such as may not.
func names() []string {
	l := []string{"", "a", "z", "0", "9", "_", "id", "name_2", "__", "007", "a b", " a", "a ", "A", "aA", "Aa", "a:b", "a,b", "a-b", "a.b", "ä", "aä", "\x00", "a\x00", "\xff", "a\xff", "a\n", "int", "\u0660", "ſ", "K"}
	for i := range 256 {
		c := string([]byte{byte(i)})
		l = append(l, c, c+"a", "a"+c, "a"+c+"a", strings.Repeat("a", 31)+c)
	}
	for _, n := range []int{2, 30, 31, 32, 33, 34, 64, 127, 128, 255, 256, 257, 288, 70000} {
		for _, part := range []string{"a", "_", "A", "ä", "\xff"} {
			l = append(l, strings.Repeat(part, n))
		}
	}
	return l
}

// schemas are such as may be, and such as may not.
func schemas() [][]api.Column {
	l := [][]api.Column{nil, {}}
	for n := 1; n <= 12; n++ {
		l = append(l, many(n), make([]api.Column, n))
	}
	l = append(l, many(70000))
	for _, name := range names() {
		l = append(l, []api.Column{col(name, api.Uint)}, with(3, 1, col(name, api.Text)), with(8, 7, col(name, -1)))
	}
	for _, kind := range slices.Concat(everyKind, noKinds) {
		for i := range 8 {
			l = append(l, with(8, i, col("k", kind)), with(i+1, i, col("k", kind)))
		}
	}
	for i := range 8 {
		for k := range 8 {
			l = append(l, with(8, i, col("c"+strconv.Itoa(k), api.Int)))
		}
	}
	return l
}

// good are the schemas of those.
func good() [][]api.Column {
	var l [][]api.Column
	for _, s := range schemas() {
		if checkOf(s) == api.OK {
			l = append(l, s)
		}
	}
	return l
}

// wrongSchemas tells what is said of each, where the order of what is wrong counts, too.
func wrongSchemas() []struct {
	s    []api.Column
	want api.Errno
} {
	long, longest := strings.Repeat("a", 33), strings.Repeat("a", 32)
	return []struct {
		s    []api.Column
		want api.Errno
	}{
		{nil, api.ErrNone},
		{[]api.Column{}, api.ErrNone},
		{many(9), api.ErrLimit},
		{make([]api.Column, 9), api.ErrLimit}, // how many there are goes ahead of each
		{with(9, 0, col(long, -1)), api.ErrLimit},
		{with(9, 8, col("", 6)), api.ErrLimit},
		{many(256 + 8), api.ErrLimit},
		{[]api.Column{col(long, 0)}, api.ErrLong},
		{[]api.Column{col(long, -1)}, api.ErrLong},
		{[]api.Column{col(strings.Repeat("A", 33), 6)}, api.ErrLong}, // the length goes ahead of the bytes
		{[]api.Column{col(strings.Repeat("ä", 17), 0)}, api.ErrLong}, // bytes count, not runes
		{[]api.Column{col(strings.Repeat("ä", 16), 0)}, api.ErrArg},
		{[]api.Column{col(longest, 0), col(longest, 0)}, api.ErrArg},
		{[]api.Column{col(longest, 0), col(longest+"a", 0)}, api.ErrLong},
		{[]api.Column{col("", 0)}, api.ErrArg},
		{[]api.Column{col("", 6)}, api.ErrArg}, // the name goes ahead of the kind
		{[]api.Column{col("A", -1)}, api.ErrArg},
		{[]api.Column{col("a", 0), col("a", 0)}, api.ErrArg},
		{[]api.Column{col("a", 0), col("a", 6)}, api.ErrArg},
		{[]api.Column{col("a", 0), col("b", 1), col("a", 2)}, api.ErrArg},
		{with(8, 7, col("c0", 0)), api.ErrArg},
		{[]api.Column{col("a", 6)}, api.ErrKind},
		{[]api.Column{col("a", -1)}, api.ErrKind},
		{[]api.Column{col("a", 256)}, api.ErrKind},
		{with(8, 7, col("k", 6)), api.ErrKind},
		// What a column ahead has goes ahead.
		{[]api.Column{col("a", 6), col(long, 0)}, api.ErrKind},
		{[]api.Column{col("a", 6), col("", 0)}, api.ErrKind},
		{[]api.Column{col("a", 6), col("a", 6)}, api.ErrKind},
		{[]api.Column{col("", 0), col(long, 0)}, api.ErrArg},
		{[]api.Column{col(long, 0), col("", 6)}, api.ErrLong},
		{[]api.Column{col("a", 0), col("A", 0), col("b", 6)}, api.ErrArg},
	}
}

// checkSchema holds what is answered of s against what is to be.
func checkSchema(t *testing.T, s []api.Column, want api.Errno) {
	t.Helper()
	var wantB []byte
	var wantP uint32
	var wantT string
	if want == api.OK {
		wantB, wantT = bytesOf(s), textOf(s)
		wantP = crc32.Checksum(wantB, crc32.MakeTable(crc32.Castagnoli))
	}
	if e := schema.Check(s); e != want {
		t.Fatalf("Check(%v) = %v; want %v", s, e, want)
	}
	if b, e := schema.Write(s); !bytes.Equal(b, wantB) || e != want {
		t.Fatalf("Write(%v) = %v, %v; want %v, %v", s, b, e, wantB, want)
	}
	if p, e := schema.Print(s); p != wantP || e != want {
		t.Fatalf("Print(%v) = %d, %v; want %d, %v", s, p, e, wantP, want)
	}
	if x, e := schema.Text(s); x != wantT || e != want {
		t.Fatalf("Text(%v) = %q, %v; want %q, %v", s, x, e, wantT, want)
	}
}

// P5.1

func TestTheDocumentsExample(t *testing.T) {
	s := []api.Column{col("id", api.Int), col("name", api.Text)}
	want := []byte{2, 2, 105, 100, 0, 4, 110, 97, 109, 101, 4}
	if b, e := schema.Write(s); !bytes.Equal(b, want) || e != api.OK {
		t.Errorf("Write: %v, %v", b, e)
	}
	if x, e := schema.Text(s); x != "id:int,name:text" || e != api.OK {
		t.Errorf("Text: %q, %v", x, e)
	}
	if got, n, e := schema.Read(want); !slices.Equal(got, s) || n != len(want) || e != api.OK {
		t.Errorf("Read: %v, %d, %v", got, n, e)
	}
	if got, e := schema.Parse("id:int,name:text"); !slices.Equal(got, s) || e != api.OK {
		t.Errorf("Parse: %v, %v", got, e)
	}
}

func TestSchemasThatMayBe(t *testing.T) {
	for _, s := range [][]api.Column{
		{col("a", api.Int)},
		{col("abcdefghijklmnopqrstuvwxyz", api.Uint)},
		{col("0123456789_", api.Bool)},
		{col("_", api.Bytes)},
		{col("7", api.Text)},
		{col(strings.Repeat("z", 32), api.Float)},
		{col("int", api.Uint), col("uint", api.Int)},
		{col("a", api.Int), col("aa", api.Int), col("b", api.Int)},
		{col("b", api.Int), col("a", api.Int)},
		{col(strings.Repeat("a", 32), api.Int), col(strings.Repeat("a", 31)+"b", api.Int), col(strings.Repeat("a", 31), api.Int)},
		many(1), many(2), many(7), many(8),
	} {
		checkSchema(t, s, api.OK)
	}
}

func TestSchemasThatMayNotBe(t *testing.T) {
	for _, c := range wrongSchemas() {
		checkSchema(t, c.s, c.want)
	}
	for _, kind := range noKinds {
		for i := range 8 {
			checkSchema(t, with(8, i, col("k", kind)), api.ErrKind)
		}
	}
}

func TestEachSchema(t *testing.T) {
	for _, s := range schemas() {
		checkSchema(t, s, checkOf(s))
	}
}

func TestSame(t *testing.T) {
	s := many(5)
	for _, c := range []struct {
		a, b []api.Column
		want bool
	}{
		{nil, nil, true},
		{nil, []api.Column{}, true},
		{[]api.Column{}, nil, true},
		{s, slices.Clone(s), true},
		{s, nil, false},
		{s, s[:4], false},
		{s, s[1:], false},
		{s, many(6), false},
		{s, with(5, 0, col("c0", api.Float)), false},
		{s, with(5, 4, col("c5", s[4].Kind)), false},
		{s, with(5, 4, col("c4", s[4].Kind+1)), false},
		{s, with(5, 2, col("C2", s[2].Kind)), false},
		{[]api.Column{s[0], s[1]}, []api.Column{s[1], s[0]}, false},
		{[]api.Column{col("a", 0)}, []api.Column{col("a", 256)}, false},
		{[]api.Column{col("a", 0)}, []api.Column{col("a", 1<<32)}, false},
		// Such as may not be are the same, too.
		{make([]api.Column, 9), make([]api.Column, 9), true},
		{make([]api.Column, 9), make([]api.Column, 10), false},
		{[]api.Column{col("\xff", -1)}, []api.Column{col("\xff", -1)}, true},
		{[]api.Column{col("\xff", -1)}, []api.Column{col("\xfe", -1)}, false},
		{[]api.Column{col("\xff", -1)}, []api.Column{col("\ufffd", -1)}, false},
		{many(70000), many(70000), true},
		{many(70000), with(70000, 69999, col("", 0)), false},
	} {
		if schema.Same(c.a, c.b) != c.want || schema.Same(c.b, c.a) != c.want {
			t.Errorf("Same of %d and %d columns isn't %v", len(c.a), len(c.b), c.want)
		}
	}
}

func TestUnlikeSchemasAreToldApart(t *testing.T) {
	seen := map[string][]api.Column{}
	for _, s := range good() {
		b, _ := schema.Write(s)
		x, _ := schema.Text(s)
		for _, key := range []string{"bytes " + string(b), "text " + x} {
			if other, ok := seen[key]; ok && !schema.Same(s, other) {
				t.Fatalf("%v and %v have %q", s, other, key)
			}
			seen[key] = s
		}
	}
}

func TestWhatIsHandedInAndAnsweredIsApart(t *testing.T) {
	room := many(3)
	s := room[:2]
	b, _ := schema.Write(s)
	again, _ := schema.Write(s)
	b[0] = 77
	_ = append(b, 77)
	if !bytes.Equal(again, bytesOf(many(2))) {
		t.Errorf("one answer follows another: %v", again)
	}
	_, _ = schema.Text(s)
	_, _ = schema.Print(s)
	if !slices.Equal(room, many(3)) {
		t.Errorf("what was handed in, or stands behind it, became %v", room)
	}
	s[0] = col("x", api.Bool)
	if !bytes.Equal(again, bytesOf(many(2))) {
		t.Errorf("an answer follows what was handed in: %v", again)
	}
}

// P5.2

func checkRead(t *testing.T, b []byte) {
	t.Helper()
	want, wantN, wantE := readOf(b)
	kept := bytes.Clone(b)
	s, n, e := schema.Read(b)
	if !slices.Equal(s, want) || n != wantN || e != wantE {
		t.Fatalf("Read(%q) = %v, %d, %v; want %v, %d, %v", b, s, n, e, want, wantN, wantE)
	}
	if !bytes.Equal(b, kept) {
		t.Fatalf("Read made %q of %q", b, kept)
	}
}

func TestReadOfWhatIsNoSchema(t *testing.T) {
	name32 := strings.Repeat("a", 32)
	for _, c := range []struct {
		b  string
		at int
		e  api.Errno
	}{
		{"", 0, api.ErrShort},
		{"\x80", 0, api.ErrShort},
		{"\x81\x00", 0, api.ErrForm},
		{strings.Repeat("\xff", 10), 0, api.ErrLong},
		{"\x09", 0, api.ErrRange},
		{"\x81\x01", 0, api.ErrRange},
		{"\x80\x02", 0, api.ErrRange}, // 256: of one byte it would be 0
		{strings.Repeat("\xff", 9) + "\x01", 0, api.ErrRange},
		{"\x00", 1, api.ErrNone},
		{"\x00\x00", 1, api.ErrNone},
		{"\x00\x01a\x00", 1, api.ErrNone},
		{"\x01", 1, api.ErrShort},
		{"\x01\x80", 1, api.ErrShort},
		{"\x01\x80\x00", 1, api.ErrForm},
		{"\x01\x81\x00a\x00", 1, api.ErrForm},
		{"\x01" + strings.Repeat("\xff", 10), 1, api.ErrLong},
		{"\x01\x21" + name32 + "a\x00", 1, api.ErrLimit},
		{"\x01\x21", 1, api.ErrLimit}, // the limit goes ahead of what is missing
		{"\x01\x81\x01", 1, api.ErrLimit},
		{"\x01\x01", 1, api.ErrShort},
		{"\x01\x02a", 1, api.ErrShort},
		{"\x01\x20" + name32[1:], 1, api.ErrShort},
		{"\x01\x00", 2, api.ErrArg},
		{"\x01\x00\x00", 2, api.ErrArg},
		{"\x01\x01A", 3, api.ErrArg}, // the name goes ahead of the kind that is missing
		{"\x01\x01A\x06", 3, api.ErrArg},
		{"\x01\x02a:\x00", 4, api.ErrArg},
		{"\x01\x02\xc3\xa4\x00", 4, api.ErrArg},
		{"\x01\x01\x00\x00", 3, api.ErrArg},
		{"\x01\x01a", 3, api.ErrShort},
		{"\x01\x20" + name32, 34, api.ErrShort},
		{"\x01\x01a\x06", 4, api.ErrKind},
		{"\x01\x01a\x80", 4, api.ErrKind},
		{"\x01\x01a\xff", 4, api.ErrKind},
		{"\x01\x01a\x06\x00", 4, api.ErrKind}, // the kind goes ahead of what is left
		{"\x01\x01a\x05\x00", 4, api.ErrLong},
		{"\x01\x01a\x00\x01b\x00", 4, api.ErrLong},
		{"\x02\x01a\x00", 4, api.ErrShort},
		{"\x02\x01a\x00\x01a\x00", 6, api.ErrArg},
		{"\x02\x01a\x00\x01a", 6, api.ErrArg},
		{"\x02\x01a\x06\x01a\x00", 4, api.ErrKind},
		{"\x02\x01a\x00\x01b", 6, api.ErrShort},
		{"\x02\x01a\x00\x01b\x06", 7, api.ErrKind},
		{"\x03\x01a\x00\x01b\x00\x01a\x00", 9, api.ErrArg},
	} {
		if s, n, e := schema.Read([]byte(c.b)); len(s) != 0 || n != c.at || e != c.e {
			t.Errorf("Read(%q) = %v, %d, %v; want none, %d, %v", c.b, s, n, e, c.at, c.e)
		}
		checkRead(t, []byte(c.b))
	}
	if s, n, e := schema.Read(nil); len(s) != 0 || n != 0 || e != api.ErrShort {
		t.Errorf("Read(nil) = %v, %d, %v", s, n, e)
	}
}

func TestReadOfEachName(t *testing.T) {
	for _, name := range names() {
		if len(name) > 127 {
			continue
		}
		one := append([]byte{1, byte(len(name))}, name...)
		checkRead(t, one)
		checkRead(t, append(one, 5))
		checkRead(t, append(one, 6))
		two := append([]byte{2, 1, 'a', 3, byte(len(name))}, name...)
		checkRead(t, append(two, 1))
	}
}

func TestReadOfShortBytes(t *testing.T) {
	checkRead(t, nil)
	for i := range 256 {
		checkRead(t, []byte{byte(i)})
		for k := range 256 {
			checkRead(t, []byte{byte(i), byte(k)})
			checkRead(t, []byte{1, 1, byte(i), byte(k)})
			checkRead(t, []byte{1, byte(i), 'a', byte(k)})
			checkRead(t, []byte{byte(i), 1, 'a', byte(k)})
		}
	}
	few := []byte{0, 1, 2, 3, 5, 6, 'a', 'b', 'A', 128}
	var fill func(b []byte, n int)
	fill = func(b []byte, n int) {
		checkRead(t, b)
		if n > 0 {
			for _, c := range few {
				fill(append(b, c), n-1)
			}
		}
	}
	fill([]byte{1}, 4)
	fill([]byte{2}, 4)
	fill([]byte{2, 1, 'a', 0}, 4)
}

// TestReadOfWhatIsAllButASchema cuts, lengthens and changes the bytes of schemas.
func TestReadOfWhatIsAllButASchema(t *testing.T) {
	for _, s := range [][]api.Column{many(1), many(2), many(8), {col(strings.Repeat("x", 32), 5), col(strings.Repeat("y", 31), 0)}} {
		b := bytesOf(s)
		for cut := range b {
			checkRead(t, b[:cut])
			for c := range 256 {
				other := bytes.Clone(b)
				other[cut] = byte(c)
				checkRead(t, other)
			}
		}
		for c := range 256 {
			checkRead(t, append(bytes.Clone(b), byte(c)))
		}
	}
}

func TestReadTellsNothingOfWhatStandsBehindTheLength(t *testing.T) {
	b := bytesOf(many(8))
	for cut := range b {
		if s, n, e := schema.Read(b[:cut]); len(s) != 0 || n > cut || e != api.ErrShort {
			t.Errorf("of %d bytes: %v, %d, %v", cut, s, n, e)
		}
	}
}

func TestWhatIsReadIsNewMemory(t *testing.T) {
	b := bytesOf(many(2))
	s, _, _ := schema.Read(b)
	again, _, _ := schema.Read(b)
	for i := range b {
		b[i] = 'x'
	}
	if !slices.Equal(s, many(2)) {
		t.Errorf("the answer follows what was handed in: %v", s)
	}
	s[0] = col("y", api.Bool)
	_ = append(s, col("z", api.Bool))
	if !slices.Equal(again, many(2)) {
		t.Errorf("one answer follows another: %v", again)
	}
}

// P5.3

func checkParse(t *testing.T, x string) {
	t.Helper()
	want, wantE := parseOf(x)
	if s, e := schema.Parse(x); !slices.Equal(s, want) || e != wantE {
		t.Fatalf("Parse(%q) = %v, %v; want %v, %v", x, s, e, want, wantE)
	}
}

func TestParseOfWhatIsNoSchema(t *testing.T) {
	long := strings.Repeat("a", 33)
	nine := "a:int,b:int,c:int,d:int,e:int,f:int,g:int,h:int,i:int"
	for x, want := range map[string]api.Errno{
		"":                       api.ErrForm,
		",":                      api.ErrForm,
		":":                      api.ErrForm,
		"a":                      api.ErrForm,
		"int":                    api.ErrForm,
		"a:":                     api.ErrForm,
		"a:no":                   api.ErrForm,
		"a:Int":                  api.ErrForm,
		"a:INT":                  api.ErrForm,
		"a:in":                   api.ErrForm,
		"a:intt":                 api.ErrForm,
		"a:0":                    api.ErrForm,
		"a: int":                 api.ErrForm,
		"a:int ":                 api.ErrForm,
		"a:int\n":                api.ErrForm,
		"a;int":                  api.ErrForm,
		"a:int:":                 api.ErrForm,
		"a:int:int":              api.ErrForm,
		"a::int":                 api.ErrForm,
		":a:int":                 api.ErrForm,
		"a:int,":                 api.ErrForm,
		",a:int":                 api.ErrForm,
		"a:int,,b:int":           api.ErrForm,
		"a:int;b:int":            api.ErrForm,
		"a:int,b":                api.ErrForm,
		"a,b:int":                api.ErrForm,
		"A:int,b:x":              api.ErrForm, // the form goes ahead of each column
		"a:int,a:int,b":          api.ErrForm,
		long + ":int,b:":         api.ErrForm,
		nine + ",j":              api.ErrForm,
		":int":                   api.ErrArg,
		" a:int":                 api.ErrArg,
		"a :int":                 api.ErrArg,
		"a:int, b:int":           api.ErrArg,
		"A:int":                  api.ErrArg,
		"ä:int":                  api.ErrArg,
		"\xff:int":               api.ErrArg,
		"a:int,a:bool":           api.ErrArg,
		"a:int,b:int,a:int":      api.ErrArg,
		"A:int," + long + ":int": api.ErrArg,
		long + ":int,A:int":      api.ErrLong,
		long + ":int":            api.ErrLong,
		strings.ToUpper(long + ":")[:33] + ":int": api.ErrLong,
		nine:                                   api.ErrLimit,
		"A:int," + nine:                        api.ErrLimit,
		strings.Repeat(":int,", 9) + ":int":    api.ErrLimit,
		strings.Repeat("a:int,", 99) + "a:int": api.ErrLimit,
	} {
		if s, e := schema.Parse(x); len(s) != 0 || e != want {
			t.Errorf("Parse(%q) = %v, %v; want none, %v", x, s, e, want)
		}
		checkParse(t, x)
	}
}

func TestParseOfEachNameAndKind(t *testing.T) {
	for _, name := range names() {
		for _, kind := range kindNames {
			checkParse(t, name+":"+kind)
			checkParse(t, "a:int,"+name+":"+kind)
		}
		checkParse(t, "a:"+name)
		checkParse(t, name)
	}
	for _, kind := range kindNames {
		for i := range kind {
			checkParse(t, "a:"+kind[:i])
			checkParse(t, "a:"+kind[i+1:])
			checkParse(t, "a:"+kind[:i]+kind[i+1:])
		}
	}
}

// TestParseOfWhatIsAllButASchema cuts and changes the texts of schemas.
func TestParseOfWhatIsAllButASchema(t *testing.T) {
	for _, s := range [][]api.Column{many(1), many(3), many(8), {col(strings.Repeat("x", 32), 5), col("x", 4)}} {
		text := textOf(s)
		for i := range text {
			checkParse(t, text[:i])
			checkParse(t, text[i:])
			checkParse(t, text[:i]+text[i+1:])
			for _, c := range []string{":", ",", "a", "c", "0", "1", "_", "i", "A", " ", "\x00", "\xff"} {
				checkParse(t, text[:i]+c+text[i+1:])
				checkParse(t, text[:i]+c+text[i:])
			}
		}
	}
}

func TestWhatIsParsedIsNewMemory(t *testing.T) {
	s, _ := schema.Parse("a:int,b:text")
	again, _ := schema.Parse("a:int,b:text")
	s[0] = col("y", api.Bool)
	if !slices.Equal(again, []api.Column{col("a", api.Int), col("b", api.Text)}) {
		t.Errorf("one answer follows another: %v", again)
	}
}

// P5.4

func TestASchemaIsReadOfItsBytesAndParsedOfItsText(t *testing.T) {
	for _, s := range good() {
		b, e := schema.Write(s)
		if e != api.OK {
			t.Fatalf("Write(%v): %v", s, e)
		}
		if got, n, e := schema.Read(b); !schema.Same(got, s) || n != len(b) || e != api.OK {
			t.Fatalf("Read of Write(%v): %v, %d, %v", s, got, n, e)
		}
		x, e := schema.Text(s)
		if e != api.OK {
			t.Fatalf("Text(%v): %v", s, e)
		}
		if got, e := schema.Parse(x); !schema.Same(got, s) || e != api.OK {
			t.Fatalf("Parse of Text(%v): %v, %v", s, got, e)
		}
	}
}

func TestWhatIsReadHasJustThoseBytes(t *testing.T) {
	read := 0
	check := func(b []byte) {
		s, n, e := schema.Read(b)
		if n < 0 || n > len(b) {
			t.Fatalf("Read(%q) ended at %d", b, n)
		}
		if e != api.OK {
			return
		}
		read++
		if again, e := schema.Write(s); !bytes.Equal(again, b) || n != len(b) || e != api.OK {
			t.Fatalf("Read(%q) = %v, written as %q", b, s, again)
		}
	}
	b := bytesOf([]api.Column{col("ab", 1), col("a", 5), col("_0", 3)})
	for i := range b {
		for c := range 256 {
			other := bytes.Clone(b)
			other[i] = byte(c)
			check(other)
			for k := range i {
				other[k] ^= 1
				check(other)
				other[k] ^= 1
			}
		}
	}
	if read < 100 {
		t.Errorf("only %d were read", read)
	}
}

func TestWhatIsParsedHasJustThatText(t *testing.T) {
	text := "ab:uint,a:float,_0:bytes"
	for i := range text {
		for c := range 256 {
			x := text[:i] + string([]byte{byte(c)}) + text[i+1:]
			s, e := schema.Parse(x)
			if e != api.OK {
				continue
			}
			if again, e := schema.Text(s); again != x || e != api.OK {
				t.Fatalf("Parse(%q) = %v, whose text is %q", x, s, again)
			}
		}
	}
}
