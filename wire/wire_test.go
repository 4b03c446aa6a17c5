package wire_test

import (
	"bytes"
	"math"
	"math/big"
	"testing"

	"deckle/api"
	"deckle/wire"
)

// numbers are those around which the bytes of a number change: small ones, and each power of two with what stands beside it.
func numbers() []uint64 {
	var l []uint64
	for x := range uint64(700) {
		l = append(l, x)
	}
	for i := range 64 {
		p := uint64(1) << i
		l = append(l, p-1, p, p+1, ^p, -p, p*0x9e3779b97f4a7c15)
	}
	return append(l, math.MaxUint64, math.MaxUint64-1)
}

// bytesOf are a number's bytes as the document tells them, by division alone.
func bytesOf(x uint64) []byte {
	b := []byte{byte(x % 128)}
	for x /= 128; x > 0; x /= 128 {
		b[len(b)-1] += 128
		b = append(b, byte(x%128))
	}
	return b
}

// zigOf is the Zig as the document tells it, in numbers without bounds.
func zigOf(x int64) uint64 {
	z := new(big.Int).Abs(big.NewInt(x))
	z.Lsh(z, 1)
	if x < 0 {
		z.Sub(z, big.NewInt(1))
	}
	return z.Uint64()
}

// readOf is GetUint as the document tells it, in numbers without bounds.
func readOf(b []byte) (uint64, int, api.Errno) {
	n := 0
	for n < len(b) && n < 10 && b[n] >= 128 {
		n++
	}
	if n == 10 {
		return 0, 0, api.ErrLong
	}
	if n == len(b) {
		return 0, 0, api.ErrShort
	}
	x := new(big.Int)
	for i := n; i >= 0; i-- {
		x.Lsh(x, 7)
		x.Add(x, big.NewInt(int64(b[i]%128)))
	}
	if x.BitLen() > 64 {
		return 0, 0, api.ErrLong
	}
	if n > 0 && b[n] == 0 {
		return 0, 0, api.ErrForm
	}
	return x.Uint64(), n + 1, api.OK
}

func checkGetUint(t *testing.T, b []byte) {
	t.Helper()
	wantX, wantN, wantE := readOf(b)
	x, n, e := wire.GetUint(b)
	if x != wantX || n != wantN || e != wantE {
		t.Fatalf("GetUint(%v) = %d, %d, %v; want %d, %d, %v", b, x, n, e, wantX, wantN, wantE)
	}
}

// eachInput hands f what a reading may meet: all of up to two bytes, and longer ones, up to beyond ten, that end in every way.
func eachInput(f func(b []byte)) {
	f(nil)
	for i := range 256 {
		f([]byte{byte(i)})
		for j := range 256 {
			f([]byte{byte(i), byte(j)})
		}
	}
	for _, fill := range []byte{128, 129, 170, 255} {
		for ahead := 2; ahead <= 12; ahead++ {
			b := bytes.Repeat([]byte{fill}, ahead)
			f(b)
			for last := range 256 {
				f(append(bytes.Clone(b), byte(last)))
				f(append(bytes.Clone(b), byte(last), 0))
				f(append(bytes.Clone(b), byte(last), 255, 1))
			}
		}
	}
}

// P1.1

func TestUintAndSize(t *testing.T) {
	for _, c := range []struct {
		x    uint64
		want []byte
	}{
		{0, []byte{0}},
		{1, []byte{1}},
		{127, []byte{127}},
		{128, []byte{128, 1}},
		{129, []byte{129, 1}},
		{255, []byte{255, 1}},
		{300, []byte{172, 2}},
		{16383, []byte{255, 127}},
		{16384, []byte{128, 128, 1}},
		{1<<63 - 1, []byte{255, 255, 255, 255, 255, 255, 255, 255, 127}},
		{1 << 63, []byte{128, 128, 128, 128, 128, 128, 128, 128, 128, 1}},
		{math.MaxUint64, []byte{255, 255, 255, 255, 255, 255, 255, 255, 255, 1}},
	} {
		if got := wire.Uint(c.x); !bytes.Equal(got, c.want) {
			t.Errorf("Uint(%d) = %v; want %v", c.x, got, c.want)
		}
		if got := wire.Size(c.x); got != len(c.want) {
			t.Errorf("Size(%d) = %d; want %d", c.x, got, len(c.want))
		}
	}
	for _, x := range numbers() {
		want := bytesOf(x)
		if got := wire.Uint(x); !bytes.Equal(got, want) {
			t.Fatalf("Uint(%d) = %v; want %v", x, got, want)
		}
		if got := wire.Size(x); got != len(want) {
			t.Fatalf("Size(%d) = %d; want %d", x, got, len(want))
		}
	}
}

func TestZigZagAndInt(t *testing.T) {
	for _, c := range []struct {
		x    int64
		zig  uint64
		want []byte
	}{
		{0, 0, []byte{0}},
		{-1, 1, []byte{1}},
		{1, 2, []byte{2}},
		{-2, 3, []byte{3}},
		{63, 126, []byte{126}},
		{-64, 127, []byte{127}},
		{64, 128, []byte{128, 1}},
		{-65, 129, []byte{129, 1}},
		{150, 300, []byte{172, 2}},
		{math.MaxInt64, math.MaxUint64 - 1, []byte{254, 255, 255, 255, 255, 255, 255, 255, 255, 1}},
		{math.MinInt64, math.MaxUint64, []byte{255, 255, 255, 255, 255, 255, 255, 255, 255, 1}},
		{math.MinInt64 + 1, math.MaxUint64 - 2, []byte{253, 255, 255, 255, 255, 255, 255, 255, 255, 1}},
	} {
		if got := wire.Zig(c.x); got != c.zig {
			t.Errorf("Zig(%d) = %d; want %d", c.x, got, c.zig)
		}
		if got := wire.Zag(c.zig); got != c.x {
			t.Errorf("Zag(%d) = %d; want %d", c.zig, got, c.x)
		}
		if got := wire.Int(c.x); !bytes.Equal(got, c.want) {
			t.Errorf("Int(%d) = %v; want %v", c.x, got, c.want)
		}
	}
	for _, x := range numbers() {
		checkInt(t, int64(x))
		if z := wire.Zig(wire.Zag(x)); z != x {
			t.Fatalf("Zig(Zag(%d)) = %d", x, z)
		}
	}
}

func checkInt(t *testing.T, x int64) {
	t.Helper()
	zig := zigOf(x)
	if got := wire.Zig(x); got != zig {
		t.Fatalf("Zig(%d) = %d; want %d", x, got, zig)
	}
	if got := wire.Zag(zig); got != x {
		t.Fatalf("Zag(%d) = %d; want %d", zig, got, x)
	}
	if got := wire.Int(x); !bytes.Equal(got, bytesOf(zig)) {
		t.Fatalf("Int(%d) = %v; want %v", x, got, bytesOf(zig))
	}
}

func TestBytes(t *testing.T) {
	for _, c := range []struct{ b, want []byte }{
		{nil, []byte{0}},
		{[]byte{}, []byte{0}},
		{[]byte{0}, []byte{1, 0}},
		{[]byte("ab"), []byte{2, 97, 98}},
		{[]byte{255, 128, 0}, []byte{3, 255, 128, 0}},
	} {
		if got := wire.Bytes(c.b); !bytes.Equal(got, c.want) {
			t.Errorf("Bytes(%v) = %v; want %v", c.b, got, c.want)
		}
	}
	for _, n := range []int{126, 127, 128, 129, 300, 16383, 16384, 70000} {
		b := bytes.Repeat([]byte{7, 200, 0}, n)[:n]
		want := append(bytesOf(uint64(n)), b...)
		if got := wire.Bytes(b); !bytes.Equal(got, want) {
			t.Errorf("Bytes of %d bytes has %d of them, or wrong ones", n, len(got))
		}
	}
}

func TestWhatIsPutIsNewMemory(t *testing.T) {
	room := []byte("abcd")
	b := room[:2]
	got := wire.Bytes(b)
	if string(room) != "abcd" {
		t.Errorf("what was handed in, or stands behind it, became %q", room)
	}
	b[0] = 'x'
	if string(got) != "\x02ab" {
		t.Errorf("the answer follows what was handed in: %q", got)
	}
	one, other := wire.Uint(300), wire.Uint(300)
	one[0] = 0
	if !bytes.Equal(other, []byte{172, 2}) {
		t.Errorf("one answer follows another: %v", other)
	}
}

// P1.2

// wrongNumbers are bytes that no number begins with, and the error of each.
func wrongNumbers() map[string]api.Errno {
	eight, nine := string(bytes.Repeat([]byte{128}, 8)), string(bytes.Repeat([]byte{128}, 9))
	full := string(bytes.Repeat([]byte{255}, 9))
	return map[string]api.Errno{
		"":                api.ErrShort,
		"\x80":            api.ErrShort,
		"\xff":            api.ErrShort,
		"\x80\x80":        api.ErrShort,
		eight:             api.ErrShort,
		nine:              api.ErrShort,
		full:              api.ErrShort,
		nine + "\x80":     api.ErrLong,
		nine + "\x81":     api.ErrLong,
		full + "\xff":     api.ErrLong,
		nine + "\x80\x00": api.ErrLong,
		nine + "\x80\x01": api.ErrLong,
		nine + "\x02":     api.ErrLong,
		nine + "\x03":     api.ErrLong,
		full + "\x02":     api.ErrLong,
		nine + "\x40":     api.ErrLong,
		nine + "\x7f":     api.ErrLong,
		nine + "\x02\x01": api.ErrLong,
		"\x80\x00":        api.ErrForm,
		"\xff\x00":        api.ErrForm,
		"\x80\x80\x00":    api.ErrForm,
		"\xac\x82\x00":    api.ErrForm,
		eight + "\x00":    api.ErrForm,
		nine + "\x00":     api.ErrForm,
		full + "\x00":     api.ErrForm,
		"\x80\x00\x01":    api.ErrForm,
		full + "\x00\x01": api.ErrForm,
	}
}

func TestGetUint(t *testing.T) {
	for _, c := range []struct {
		b []byte
		x uint64
		n int
	}{
		{[]byte{0}, 0, 1},
		{[]byte{0, 0}, 0, 1},
		{[]byte{1}, 1, 1},
		{[]byte{127}, 127, 1},
		{[]byte{127, 128, 0}, 127, 1},
		{[]byte{128, 1}, 128, 2},
		{[]byte{172, 2}, 300, 2},
		{[]byte{172, 2, 255}, 300, 2},
		{[]byte{128, 128, 128, 128, 128, 128, 128, 128, 1}, 1 << 56, 9},
		{[]byte{255, 255, 255, 255, 255, 255, 255, 255, 127}, 1<<63 - 1, 9},
		{[]byte{128, 128, 128, 128, 128, 128, 128, 128, 128, 1}, 1 << 63, 10},
		{[]byte{255, 255, 255, 255, 255, 255, 255, 255, 255, 1}, math.MaxUint64, 10},
		{[]byte{255, 255, 255, 255, 255, 255, 255, 255, 255, 1, 0}, math.MaxUint64, 10},
	} {
		if x, n, e := wire.GetUint(c.b); x != c.x || n != c.n || e != api.OK {
			t.Errorf("GetUint(%v) = %d, %d, %v; want %d, %d, OK", c.b, x, n, e, c.x, c.n)
		}
	}
	for s, want := range wrongNumbers() {
		if x, n, e := wire.GetUint([]byte(s)); x != 0 || n != 0 || e != want {
			t.Errorf("GetUint(%q) = %d, %d, %v; want 0, 0, %v", s, x, n, e, want)
		}
	}
	eachInput(func(b []byte) { checkGetUint(t, b) })
}

func TestGetInt(t *testing.T) {
	for _, c := range []struct {
		b []byte
		x int64
		n int
	}{
		{[]byte{0}, 0, 1},
		{[]byte{1}, -1, 1},
		{[]byte{2}, 1, 1},
		{[]byte{127, 1}, -64, 1},
		{[]byte{128, 1}, 64, 2},
		{[]byte{129, 1, 9}, -65, 2},
		{[]byte{254, 255, 255, 255, 255, 255, 255, 255, 255, 1}, math.MaxInt64, 10},
		{[]byte{255, 255, 255, 255, 255, 255, 255, 255, 255, 1}, math.MinInt64, 10},
	} {
		if x, n, e := wire.GetInt(c.b); x != c.x || n != c.n || e != api.OK {
			t.Errorf("GetInt(%v) = %d, %d, %v; want %d, %d, OK", c.b, x, n, e, c.x, c.n)
		}
	}
	for s, want := range wrongNumbers() {
		if x, n, e := wire.GetInt([]byte(s)); x != 0 || n != 0 || e != want {
			t.Errorf("GetInt(%q) = %d, %d, %v; want 0, 0, %v", s, x, n, e, want)
		}
	}
	eachInput(func(b []byte) {
		zig, wantN, wantE := readOf(b)
		x, n, e := wire.GetInt(b)
		if n != wantN || e != wantE || e == api.OK && zigOf(x) != zig || e != api.OK && x != 0 {
			t.Fatalf("GetInt(%v) = %d, %d, %v", b, x, n, e)
		}
	})
}

func TestNothingBehindTheLengthIsRead(t *testing.T) {
	room := []byte{172, 2, 97, 98}
	if x, n, e := wire.GetUint(room[:1]); x != 0 || n != 0 || e != api.ErrShort {
		t.Errorf("GetUint: %d, %d, %v", x, n, e)
	}
	if x, n, e := wire.GetInt(room[:1]); x != 0 || n != 0 || e != api.ErrShort {
		t.Errorf("GetInt: %d, %d, %v", x, n, e)
	}
	if b, n, e := wire.GetBytes(room[1:3], 9); len(b) != 0 || n != 0 || e != api.ErrShort {
		t.Errorf("GetBytes: %v, %d, %v", b, n, e)
	}
}

// P1.3

func TestGetBytes(t *testing.T) {
	const maxInt, minInt = math.MaxInt, math.MinInt
	great := "\xff\xff\xff\xff\xff\xff\xff\xff\xff\x01" // the greatest number
	half := "\x80\x80\x80\x80\x80\x80\x80\x80\x80\x01"  // 2^63: below 0, were it an int
	top := "\xff\xff\xff\xff\xff\xff\xff\xff\x7f"       // the greatest int
	for _, c := range []struct {
		b    string
		most int
		want string
		n    int
		e    api.Errno
	}{
		{"\x00", 0, "", 1, api.OK},
		{"\x00ab", 0, "", 1, api.OK},
		{"\x00", maxInt, "", 1, api.OK},
		{"\x01a", 1, "a", 2, api.OK},
		{"\x02ab", 2, "ab", 3, api.OK},
		{"\x02abc", 2, "ab", 3, api.OK},
		{"\x02abc", maxInt, "ab", 3, api.OK},
		{"\x02\x80\x00", 2, "\x80\x00", 3, api.OK},
		{"\x01a", 0, "", 0, api.ErrLimit},
		{"\x02abc", 1, "", 0, api.ErrLimit},
		{"\x02a", 1, "", 0, api.ErrLimit}, // the limit goes ahead of what is missing
		{"\x05", 4, "", 0, api.ErrLimit},
		{"\x00", -1, "", 0, api.ErrLimit},
		{"\x00", minInt, "", 0, api.ErrLimit},
		{"\x01a", -1, "", 0, api.ErrLimit},
		{"\x01", -2, "", 0, api.ErrLimit},
		{great, -1, "", 0, api.ErrLimit},
		{great + "a", maxInt, "", 0, api.ErrLimit},
		{half + "a", maxInt, "", 0, api.ErrLimit},
		{half, minInt, "", 0, api.ErrLimit},
		{top, maxInt - 1, "", 0, api.ErrLimit},
		{top + "a", maxInt, "", 0, api.ErrShort},
		{"\x01", 1, "", 0, api.ErrShort},
		{"\x02a", 2, "", 0, api.ErrShort},
		{"\x02a", maxInt, "", 0, api.ErrShort},
		{"\x80\x01" + "abc", 128, "", 0, api.ErrShort},
	} {
		b, n, e := wire.GetBytes([]byte(c.b), c.most)
		if string(b) != c.want || n != c.n || e != c.e {
			t.Errorf("GetBytes(%q, %d) = %q, %d, %v; want %q, %d, %v", c.b, c.most, b, n, e, c.want, c.n, c.e)
		}
	}
}

func TestGetBytesTellsTheNumbersErrorFirst(t *testing.T) {
	for s, want := range wrongNumbers() {
		for _, most := range []int{math.MinInt, -1, 0, 1000, math.MaxInt} {
			if b, n, e := wire.GetBytes([]byte(s), most); len(b) != 0 || n != 0 || e != want {
				t.Errorf("GetBytes(%q, %d) = %v, %d, %v; want none, 0, %v", s, most, b, n, e, want)
			}
		}
	}
}

func TestGetBytesAtEachLength(t *testing.T) {
	for _, size := range []int{0, 1, 2, 126, 127, 128, 129, 300, 16384} {
		text := bytes.Repeat([]byte{255, 0, 128}, size)[:size]
		head := bytesOf(uint64(size))
		all := append(head, text...)
		for there := len(head); there < len(all); there += 1 + size/9 {
			if b, n, e := wire.GetBytes(all[:there], size); len(b) != 0 || n != 0 || e != api.ErrShort {
				t.Errorf("%d bytes, %d there: %d, %d, %v", size, there, len(b), n, e)
			}
		}
		if b, n, e := wire.GetBytes(all, size); !bytes.Equal(b, text) || n != len(all) || e != api.OK {
			t.Errorf("%d bytes: %d, %d, %v", size, len(b), n, e)
		}
		if b, n, e := wire.GetBytes(all, size-1); len(b) != 0 || n != 0 || e != api.ErrLimit {
			t.Errorf("%d bytes, one less allowed: %d, %d, %v", size, len(b), n, e)
		}
	}
}

func TestWhatIsGotIsNewMemory(t *testing.T) {
	b := []byte("\x02abcd")
	got, _, _ := wire.GetBytes(b, 2)
	again, _, _ := wire.GetBytes(b, 2)
	b[1] = 'x'
	if string(got) != "ab" {
		t.Errorf("the answer follows what was handed in: %q", got)
	}
	got[0] = 'y'
	_ = append(got, 'z')
	if string(again) != "ab" || string(b) != "\x02xbcd" {
		t.Errorf("what is done to one answer is seen in %q, or in %q", again, b)
	}
}

// P1.4

// tails are what may stand behind.
func tails() [][]byte {
	return [][]byte{nil, {0}, {1}, {127}, {128}, {255}, {128, 0}, bytes.Repeat([]byte{255}, 12)}
}

func TestWhatIsPutIsGot(t *testing.T) {
	for _, x := range numbers() {
		for _, tail := range tails() {
			b := wire.Uint(x)
			if y, n, e := wire.GetUint(append(b[:len(b):len(b)], tail...)); y != x || n != len(b) || e != api.OK {
				t.Fatalf("GetUint of Uint(%d) and %v: %d, %d, %v", x, tail, y, n, e)
			}
			b = wire.Int(int64(x))
			if y, n, e := wire.GetInt(append(b[:len(b):len(b)], tail...)); y != int64(x) || n != len(b) || e != api.OK {
				t.Fatalf("GetInt of Int(%d) and %v: %d, %d, %v", int64(x), tail, y, n, e)
			}
		}
	}
	for size := range 400 {
		text := bytes.Repeat([]byte{128, 1, 0}, size)[:size]
		for _, tail := range tails() {
			b := wire.Bytes(text)
			got, n, e := wire.GetBytes(append(b[:len(b):len(b)], tail...), size)
			if !bytes.Equal(got, text) || n != len(b) || e != api.OK {
				t.Fatalf("GetBytes of Bytes(%v) and %v: %v, %d, %v", text, tail, got, n, e)
			}
		}
	}
}

func TestWhatIsGotIsPutAsThoseBytes(t *testing.T) {
	eachInput(func(b []byte) {
		if x, n, e := wire.GetUint(b); e == api.OK && !bytes.Equal(wire.Uint(x), b[:n]) {
			t.Fatalf("GetUint(%v) = %d, of %d bytes, put as %v", b, x, n, wire.Uint(x))
		}
		if x, n, e := wire.GetInt(b); e == api.OK && !bytes.Equal(wire.Int(x), b[:n]) {
			t.Fatalf("GetInt(%v) = %d, of %d bytes, put as %v", b, x, n, wire.Int(x))
		}
		if x, n, e := wire.GetBytes(b, len(b)); e == api.OK && !bytes.Equal(wire.Bytes(x), b[:n]) {
			t.Fatalf("GetBytes(%v) = %v, of %d bytes, put as %v", b, x, n, wire.Bytes(x))
		}
	})
}
