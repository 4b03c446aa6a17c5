package frame_test

import (
	"bytes"
	"fmt"
	"hash/crc32"
	"math"
	"math/big"
	"math/bits"
	"slices"
	"sync"
	"testing"

	"deckle/api"
	"deckle/frame"
)

const most = 1048576

// brief is a text of x that can be told whole, if x is small.
func brief(x any) string {
	s := fmt.Sprint(x)
	if len(s) > 300 {
		return s[:300] + ".."
	}
	return s
}

// mixer makes the same numbers at each run, that look like any.
type mixer uint32

func (m *mixer) below(n int) int {
	*m ^= *m << 13
	*m ^= *m >> 17
	*m ^= *m << 5
	return int(uint32(*m)>>3) % n
}

func (m *mixer) bytes(n int) []byte {
	b := make([]byte, n)
	for i := range b {
		b[i] = byte(m.below(256))
	}
	return b
}

// The document's words, told anew.

var known = crc32.MakeTable(crc32.Castagnoli)

// sumOf are the four bytes of the sum of b.
func sumOf(b []byte) []byte {
	x := int64(crc32.Checksum(b, known))
	var l []byte
	for range 4 {
		l = append(l, byte(x%256))
		x /= 256
	}
	return l
}

// numberOf are the bytes of a number that isn't below 0.
func numberOf(x int) []byte {
	var b []byte
	for x >= 128 {
		b = append(b, byte(x%128)+128)
		x /= 128
	}
	return append(b, byte(x))
}

// writeOf are the bytes of a frame, which may be one that there can't be.
func writeOf(kind byte, payload []byte) []byte {
	b := append([]byte{kind}, numberOf(len(payload))...)
	b = append(b, payload...)
	return append(b, sumOf(b)...)
}

// next is what Next answers.
type next struct {
	kind    int
	payload []byte
	n       int
	e       api.Errno
}

func (a next) same(b next) bool {
	return a.kind == b.kind && bytes.Equal(a.payload, b.payload) && a.n == b.n && a.e == b.e
}

// nextOf is the frame that b begins with.
func nextOf(b []byte) next {
	if len(b) == 0 {
		return next{e: api.ErrShort}
	}
	if b[0] != 0 && b[0] != 1 && b[0] != 2 {
		return next{e: api.ErrKind}
	}
	n, head, e := lengthOf(b[1:])
	if e != api.OK {
		return next{e: e}
	}
	behind := b[1+head:]
	if n.Cmp(big.NewInt(most)) > 0 {
		return next{e: api.ErrLimit}
	}
	if n.Cmp(big.NewInt(int64(len(behind)))) > 0 {
		return next{e: api.ErrShort}
	}
	size := int(n.Int64())
	if len(behind) < size+4 {
		return next{e: api.ErrShort}
	}
	if string(behind[size:size+4]) != string(sumOf(b[:1+head+size])) {
		return next{e: api.ErrSum}
	}
	return next{int(b[0]), behind[:size], 1 + head + size + 4, api.OK}
}

// lengthOf is the number that b begins with, without a bound on the way.
func lengthOf(b []byte) (*big.Int, int, api.Errno) {
	x, base := new(big.Int), big.NewInt(1)
	for i, c := range b {
		if i == 10 {
			break
		}
		x.Add(x, new(big.Int).Mul(base, big.NewInt(int64(c%128))))
		base.Mul(base, big.NewInt(128))
		if c >= 128 {
			continue
		}
		if x.BitLen() > 64 {
			return nil, 0, api.ErrLong
		}
		if i > 0 && c == 0 {
			return nil, 0, api.ErrForm
		}
		return x, i + 1, api.OK
	}
	if len(b) < 10 {
		return nil, 0, api.ErrShort
	}
	return nil, 0, api.ErrLong
}

// allOf are the frames of b.
func allOf(b []byte) ([]frame.Frame, int, api.Errno) {
	var l []frame.Frame
	at := 0
	for at != len(b) {
		x := nextOf(b[at:])
		if x.e != api.OK {
			return l, at, x.e
		}
		l = append(l, frame.Frame{Kind: x.kind, Payload: x.payload, At: at})
		at += x.n
	}
	return l, at, api.OK
}

func sameFrames(a, b []frame.Frame) bool {
	return slices.EqualFunc(a, b, func(x, y frame.Frame) bool {
		return x.Kind == y.Kind && bytes.Equal(x.Payload, y.Payload) && x.At == y.At
	})
}

// get is Next, whose answers are in one.
func get(b []byte) next {
	kind, payload, n, e := frame.Next(b)
	return next{kind, payload, n, e}
}

// checkNext holds Next against the document's words, and what is read against its bytes.
func checkNext(t *testing.T, b []byte) {
	t.Helper()
	got, want := get(b), nextOf(b)
	if !got.same(want) {
		t.Fatalf("Next(%s) = %s; want %s", brief(b), brief(got), brief(want))
	}
	if got.e != api.OK {
		return
	}
	if again, e := frame.Write(got.kind, got.payload); e != api.OK || !bytes.Equal(again, b[:got.n]) {
		t.Fatalf("Next(%s) = %s, whose bytes are %s, %v", brief(b), brief(got), brief(again), e)
	}
}

// checkAll holds All, and Next, against the document's words.
func checkAll(t *testing.T, b []byte) {
	t.Helper()
	checkNext(t, b)
	l, at, e := frame.All(b)
	want, wantAt, wantE := allOf(b)
	if !sameFrames(l, want) || at != wantAt || e != wantE {
		t.Fatalf("All(%s) = %s, %d, %v; want %s, %d, %v", brief(b), brief(l), at, e, brief(want), wantAt, wantE)
	}
}

// payloads are some of each length where something changes.
func payloads() [][]byte {
	m := mixer(2463534242)
	l := [][]byte{nil, {}, {0}, {7}, {255}, {0, 0}, {128, 0}, {2, 1, 7}, []byte("deckle")}
	for _, n := range []int{3, 4, 5, 126, 127, 128, 129, 255, 256, 257, 300, 16383, 16384, 65536} {
		l = append(l, m.bytes(n), make([]byte, n), bytes.Repeat([]byte{255}, n))
	}
	return append(l, writeOf(1, m.bytes(9)), writeOf(2, nil)) // frames may be payloads, too
}

// P11.1

func TestExamples(t *testing.T) {
	for _, c := range []struct {
		kind    int
		payload string
		want    string
	}{
		{2, "\x07", "\x02\x01\x07\xeb\x0d\x63\xe8"},
		{0, "", "\x00\x00\xd2\x77\x61\xf1"},
		{0, "\x01\x02id\x00", "\x00\x05\x01\x02id\x00\x82\xe9\xaa\x14"},
		{1, string(make([]byte, 128)), "\x01\x80\x01" + string(make([]byte, 128)) + string(sumOf(append([]byte{1, 128, 1}, make([]byte, 128)...)))},
	} {
		b, e := frame.Write(c.kind, []byte(c.payload))
		if e != api.OK || string(b) != c.want {
			t.Errorf("Write(%d, %v) = %v, %v; want %v", c.kind, []byte(c.payload), b, e, []byte(c.want))
		}
		want := next{c.kind, []byte(c.payload), len(c.want), api.OK}
		if got := get([]byte(c.want)); !got.same(want) {
			t.Errorf("Next(%v) = %v; want %v", []byte(c.want), got, want)
		}
	}
}

func TestWrite(t *testing.T) {
	for _, p := range payloads() {
		for kind := range 3 {
			b, e := frame.Write(kind, p)
			if want := writeOf(byte(kind), p); e != api.OK || !bytes.Equal(b, want) {
				t.Errorf("Write(%d, %s) = %s, %v; want %s", kind, brief(p), brief(b), e, brief(want))
			}
			if frame.Size(len(p)) != len(b) {
				t.Errorf("Size(%d) = %d; it has %d", len(p), frame.Size(len(p)), len(b))
			}
		}
	}
}

func TestWriteOfNoKind(t *testing.T) {
	over := make([]byte, most+1)
	for _, kind := range []int{math.MinInt, math.MinInt32, -256, -255, -254, -2, -1, 3, 4, 127, 128, 255, 256, 257, 258, 1 << 32, 1<<32 + 1, math.MaxInt - 1, math.MaxInt} {
		for _, p := range [][]byte{nil, {7}, over} {
			if b, e := frame.Write(kind, p); e != api.ErrKind || len(b) != 0 {
				t.Errorf("Write(%d) of %d bytes = %s, %v; want %v", kind, len(p), brief(b), e, api.ErrKind)
			}
		}
	}
}

func TestWriteOfTheMost(t *testing.T) {
	m := mixer(88172645)
	all := m.bytes(most + 2)
	for kind := range 3 {
		for _, n := range []int{most - 1, most} {
			b, e := frame.Write(kind, all[:n])
			if want := writeOf(byte(kind), all[:n]); e != api.OK || !bytes.Equal(b, want) || frame.Size(n) != len(want) {
				t.Errorf("Write(%d) of %d bytes: %d, %v, Size %d; want %d", kind, n, len(b), e, frame.Size(n), len(want))
			}
			checkAll(t, b)
			checkAll(t, b[:len(b)-1])
		}
		for _, n := range []int{most + 1, most + 2} {
			if b, e := frame.Write(kind, all[:n]); e != api.ErrLimit || len(b) != 0 {
				t.Errorf("Write(%d) of %d bytes: %d, %v; want %v", kind, n, len(b), e, api.ErrLimit)
			}
		}
	}
}

func TestSize(t *testing.T) {
	for n, want := range map[int]int{
		0: 6, 1: 7, 126: 132, 127: 133, 128: 135, 129: 136, 16383: 16390, 16384: 16392, 16385: 16393,
		most - 1: most + 7, most: most + 8, most + 1: 0, 2 * most: 0, 1 << 32: 0, 1<<32 + 1: 0, math.MaxInt - 1: 0, math.MaxInt: 0,
		-1: 0, -2: 0, -128: 0, -most: 0, math.MinInt32: 0, math.MinInt + 1: 0, math.MinInt: 0,
	} {
		if got := frame.Size(n); got != want {
			t.Errorf("Size(%d) = %d; want %d", n, got, want)
		}
	}
	for n := range most + 1 {
		if got, want := frame.Size(n), 1+len(numberOf(n))+n+4; got != want {
			t.Fatalf("Size(%d) = %d; want %d", n, got, want)
		}
	}
}

// P11.2

func TestNextOfWhatIsNoFrame(t *testing.T) {
	nine := "\xff\xff\xff\xff\xff\xff\xff\xff\xff"
	for _, c := range []struct {
		b    string
		want api.Errno
	}{
		{"", api.ErrShort},
		{"\x00", api.ErrShort}, {"\x01", api.ErrShort}, {"\x02", api.ErrShort},
		{"\x03", api.ErrKind}, {"\x80", api.ErrKind}, {"\xff", api.ErrKind},
		{"\x03\x80\x00", api.ErrKind},                // ahead of what is behind
		{string(writeOf(3, []byte{7})), api.ErrKind}, // ahead of a sum that is right
		{string(writeOf(255, nil)), api.ErrKind},
		{"\x02\x80", api.ErrShort}, {"\x02" + nine, api.ErrShort},
		{"\x02" + nine + "\x02", api.ErrLong}, {"\x02" + nine + "\x80", api.ErrLong}, {"\x02" + nine + "\x00", api.ErrForm},
		{"\x02" + nine + "\x01", api.ErrLimit}, // the greatest number
		{"\x02\xff\xff\xff\xff\xff\xff\xff\xff\x7f", api.ErrLimit},
		{"\x02\x80\x00", api.ErrForm}, {"\x02\x80\x00\x00\x00\x00\x00", api.ErrForm}, {"\x02\x81\x80\x00a1234", api.ErrForm},
		{"\x02\x81\x80\x40", api.ErrLimit}, // one beyond the most, ahead of the bytes that aren't there
		{"\x02\x80\x80\x40", api.ErrShort}, // the most
		{"\x02\x80\x80\x40" + string(make([]byte, 100)), api.ErrShort},
		{"\x02\x01", api.ErrShort}, {"\x02\x05abcd", api.ErrShort},
		{"\x02\x01a", api.ErrShort}, {"\x02\x01a1", api.ErrShort}, {"\x02\x01a12", api.ErrShort}, {"\x02\x01a123", api.ErrShort},
		{"\x02\x01a1234", api.ErrSum}, {"\x02\x00\x00\x00\x00\x00", api.ErrSum}, {"\x00\x00\x00\x00\x00\x00", api.ErrSum},
		{"\x02\x01\x07\xe8\x63\x0d\xeb", api.ErrSum}, // the highest byte first
		{"\x02\x01\x07\xeb\x0d\x63\xe9", api.ErrSum},
		{"\x02\x01\x07\xec\x0d\x63\xe8", api.ErrSum},
		{"\x02\x01\x08\xeb\x0d\x63\xe8", api.ErrSum},
		{"\x01\x01\x07\xeb\x0d\x63\xe8", api.ErrSum}, // the kind is another
		{"\x02\x00\x07\xeb\x0d\x63\xe8", api.ErrSum}, // the length is another
		{"\x02\x02\x07\xeb\x0d\x63\xe8", api.ErrShort},
		{"\x02\x01\x07" + string(sumOf([]byte{7})), api.ErrSum}, // the sum of the payload alone
		{"\x02\x01\x07" + string(sumOf([]byte{1, 7})), api.ErrSum},
		{"\x02\x01\x07" + string(sumOf([]byte{2, 7})), api.ErrSum},
		{"\x02\x01\x07\x00\xeb\x0d\x63\xe8", api.ErrSum},
	} {
		if got := get([]byte(c.b)); !got.same(next{e: c.want}) {
			t.Errorf("Next(%s) = %v; want %v", brief([]byte(c.b)), got, c.want)
		}
		checkAll(t, []byte(c.b))
	}
}

// TestNextOfWhatStandsBehind shows that it plays no part.
func TestNextOfWhatStandsBehind(t *testing.T) {
	m := mixer(5)
	for _, p := range payloads() {
		for kind := range 3 {
			b := writeOf(byte(kind), p)
			want := next{kind, p, len(b), api.OK}
			for _, behind := range [][]byte{nil, {0}, {3}, {255, 255}, b, b[:len(b)-1], m.bytes(40)} {
				if got := get(slices.Concat(b, behind)); !got.same(want) {
					t.Fatalf("Next(%s), and %s behind = %s; want %s", brief(b), brief(behind), brief(got), brief(want))
				}
			}
		}
	}
}

// TestNextOfWhatIsCut cuts frames at each place.
func TestNextOfWhatIsCut(t *testing.T) {
	for _, p := range payloads() {
		if len(p) > 300 {
			continue
		}
		b := writeOf(2, p)
		for i := range b {
			if got := get(b[:i]); !got.same(next{e: api.ErrShort}) {
				t.Fatalf("Next of %d bytes of %s = %s; want %v", i, brief(b), brief(got), api.ErrShort)
			}
		}
	}
}

// TestNextOfAllShortBytes reads all that are made of some bytes where something changes, with and without the sum.
func TestNextOfAllShortBytes(t *testing.T) {
	from := []byte{0, 1, 2, 3, 4, 127, 128, 255}
	var all func(b []byte)
	all = func(b []byte) {
		checkAll(t, b)
		checkAll(t, slices.Concat(b, sumOf(b)))
		if len(b) < 5 {
			for _, c := range from {
				all(append(slices.Clip(b), c))
			}
		}
	}
	all(nil)
	for i := range 256 {
		for k := range 256 {
			b := []byte{byte(i), byte(k)}
			checkAll(t, b)
			checkAll(t, slices.Concat(b, sumOf(b)))
		}
	}
}

// TestNextOfChangedBytes puts, takes away and changes bytes of frames.
func TestNextOfChangedBytes(t *testing.T) {
	m := mixer(123456789)
	for _, n := range []int{0, 1, 2, 5, 20, 128} {
		b := writeOf(byte(m.below(3)), m.bytes(n))
		b = append(b, writeOf(byte(m.below(3)), m.bytes(n))...)
		for at := range b {
			checkAll(t, b[:at])
			checkAll(t, b[at:])
			checkAll(t, slices.Delete(slices.Clone(b), at, at+1))
			for c := range 256 {
				changed := slices.Clone(b)
				changed[at] = byte(c)
				checkAll(t, changed)
				checkAll(t, slices.Insert(slices.Clone(b), at, byte(c)))
			}
		}
	}
}

// P11.3

// filed are frames one behind the other, and their bytes.
func filed(l ...[]byte) ([]frame.Frame, []byte) {
	var all []frame.Frame
	var b []byte
	for i, p := range l {
		all = append(all, frame.Frame{Kind: i % 3, Payload: p, At: len(b)})
		b = append(b, writeOf(byte(i%3), p)...)
	}
	return all, b
}

func TestAll(t *testing.T) {
	for n := range len(payloads()) + 1 {
		want, b := filed(payloads()[:n]...)
		l, at, e := frame.All(b)
		if e != api.OK || at != len(b) || !sameFrames(l, want) {
			t.Errorf("All of %d frames: %s, %d, %v", n, brief(l), at, e)
		}
	}
	for _, b := range [][]byte{nil, {}} {
		if l, at, e := frame.All(b); e != api.OK || at != 0 || len(l) != 0 {
			t.Errorf("All of no bytes: %v, %d, %v", l, at, e)
		}
	}
}

func TestAllOfMany(t *testing.T) {
	var l [][]byte
	for i := range 20000 {
		l = append(l, numberOf(i))
	}
	want, b := filed(l...)
	got, at, e := frame.All(b)
	if e != api.OK || at != len(b) || !sameFrames(got, want) {
		t.Errorf("%d frames, %d, %v", len(got), at, e)
	}
}

// TestAllUpToWhatIsWrong tells the frames ahead of it, its place, and why.
func TestAllUpToWhatIsWrong(t *testing.T) {
	l := [][]byte{[]byte("schema"), nil, []byte("a"), bytes.Repeat([]byte{3}, 200)}
	for n := range len(l) + 1 {
		want, b := filed(l[:n]...)
		_, behind := filed(l...)
		for wrong, wantE := range map[string]api.Errno{
			"\x03":                          api.ErrKind,
			"\x00":                          api.ErrShort,
			"\x02\x80\x00":                  api.ErrForm,
			"\x02\x81\x80\x40":              api.ErrLimit,
			"\x02\x01a1234":                 api.ErrSum,
			"\x02\x01a123":                  api.ErrShort,
			string(writeOf(4, []byte("a"))): api.ErrKind,
			"\x02\xff\xff\xff\xff\xff\xff\xff\xff\xff\x02": api.ErrLong,
		} {
			all := slices.Concat(b, []byte(wrong))
			if wantE == api.ErrKind || wantE == api.ErrSum {
				all = append(all, behind...) // what stands behind isn't looked for
			}
			got, at, e := frame.All(all)
			if e != wantE || at != len(b) || !sameFrames(got, want) {
				t.Errorf("All of %d frames, and %q: %s, %d, %v; want %d, %v", n, wrong, brief(got), at, e, len(b), wantE)
			}
			checkAll(t, all)
		}
	}
}

// TestAllOfCutFrames tells of each cut the frames that are whole, and the place of the one that isn't.
func TestAllOfCutFrames(t *testing.T) {
	all, b := filed([]byte("ab"), nil, bytes.Repeat([]byte{9}, 130), []byte("c"))
	for cut := range len(b) + 1 {
		n, end := 0, 0
		for n < len(all) && end+frame.Size(len(all[n].Payload)) <= cut {
			end += frame.Size(len(all[n].Payload))
			n++
		}
		want := api.ErrShort
		if end == cut {
			want = api.OK
		}
		l, at, e := frame.All(b[:cut])
		if e != want || at != end || !sameFrames(l, all[:n]) {
			t.Errorf("All of %d bytes = %s, %d, %v; want %d frames, %d, %v", cut, brief(l), at, e, n, end, want)
		}
		checkAll(t, b[:cut])
	}
}

// P11.4

// turn turns the bit i over, in each byte the lowest one first.
func turn(b []byte, i int) { b[i/8] ^= 1 << (i % 8) }

// open are the places of all bits of a frame but its length's.
func open(b []byte, payload int) []int {
	var l []int
	behind := len(b) - 4 - payload
	for i := range 8 * len(b) {
		if i < 8 || i >= 8*behind {
			l = append(l, i)
		}
	}
	return l
}

// checkRefused shows that b isn't read, by Next and by All, whatever stands behind.
func checkRefused(t *testing.T, b []byte, turned ...int) {
	t.Helper()
	got := get(b)
	if !got.same(next{e: got.e}) || got.e != api.ErrSum && got.e != api.ErrKind {
		t.Fatalf("Next(%s), turned %v: %s", brief(b), turned, brief(got))
	}
	if l, at, e := frame.All(b); len(l) != 0 || at != 0 || e != got.e {
		t.Fatalf("All(%s), turned %v: %s, %d, %v", brief(b), turned, brief(l), at, e)
	}
}

func TestUpToThreeBitsTurned(t *testing.T) {
	m := mixer(987654321)
	for _, n := range []int{0, 1, 6} {
		for kind := range 3 {
			b := writeOf(byte(kind), m.bytes(n))
			l := open(b, n)
			for x, i := range l {
				turn(b, i)
				checkRefused(t, b, i)
				for y, j := range l[:x] {
					turn(b, j)
					checkRefused(t, b, i, j)
					for _, k := range l[:y] {
						turn(b, k)
						checkRefused(t, b, i, j, k)
						turn(b, k)
					}
					turn(b, j)
				}
				turn(b, i)
			}
			checkNext(t, b)
		}
	}
}

// TestUpToThreeBitsTurnedOf65536Bytes turns some of each part of the greatest frame that is spoken of.
func TestUpToThreeBitsTurnedOf65536Bytes(t *testing.T) {
	const n = 65536 - 1 - 3 - 4
	m := mixer(192837465)
	b := writeOf(2, m.bytes(n))
	if len(b) != 65536 {
		t.Fatal(len(b))
	}
	l := open(b, n)
	some := []int{0, 1, 7, 8, 9, 15, len(l) / 2, len(l) - 40, len(l) - 33, len(l) - 32, len(l) - 1}
	for range 12 {
		some = append(some, m.below(len(l)))
	}
	slices.Sort(some)
	some = slices.Compact(some)
	for x := range some {
		i := l[some[x]]
		turn(b, i)
		checkRefused(t, b, i)
		for y := range x {
			j, k := l[some[y]], l[some[(x+y)/2]]
			turn(b, j)
			checkRefused(t, b, i, j)
			if k != i && k != j {
				turn(b, k)
				checkRefused(t, b, i, j, k)
				turn(b, k)
			}
			turn(b, j)
		}
		turn(b, i)
	}
	checkAll(t, b)
}

// rows are bits within 32, the first one among them: all within nine, and many of more.
func rows() []uint32 {
	var l []uint32
	for x := range uint32(256) {
		l = append(l, 2*x+1)
	}
	m := mixer(362436069)
	for range 1000 {
		x := uint32(m.below(1<<29))<<3 | uint32(m.below(8))
		l = append(l, x|1, x|1|1<<31)
	}
	l = append(l, 1<<31|1, 2197175160|1, bits.Reverse32(2197175160)|1)
	for i := range 32 {
		l = append(l, 1<<i|1, ^uint32(0)>>i)
	}
	return l
}

// turnRow turns the bits of which row tells, from the bit at on, and tells whether they all stand in b, and none in its length.
func turnRow(b []byte, payload, at int, row uint32) bool {
	behind := 8 * (len(b) - 4 - payload)
	for i := range 32 {
		bit := at + i
		if row>>i&1 == 1 && (bit >= 8*len(b) || bit >= 8 && bit < behind) {
			return false
		}
	}
	for i := range 32 {
		if row>>i&1 == 1 {
			turn(b, at+i)
		}
	}
	return true
}

func TestBitsTurnedWithin32(t *testing.T) {
	m := mixer(521288629)
	for _, n := range []int{0, 1, 5, 14} {
		b := writeOf(byte(m.below(3)), m.bytes(n))
		turned := 0
		for at := range 8 * len(b) {
			for _, row := range rows() {
				if turnRow(b, n, at, row) {
					checkRefused(t, b, at, int(row))
					turnRow(b, n, at, row)
					turned++
				}
			}
		}
		if turned == 0 {
			t.Error("nothing was turned")
		}
		checkNext(t, b)
	}
}

func TestBitsTurnedWithin32OfMore(t *testing.T) {
	m := mixer(77)
	for _, n := range []int{130, 20000, most} {
		b := writeOf(1, m.bytes(n))
		end := 8 * len(b)
		for _, at := range []int{0, 3, 32, 35, end / 2, end - 70, end - 64, end - 49, end - 32, end - 1} {
			for _, row := range []uint32{1, 1<<31 | 1, 4294967295} {
				if turnRow(b, n, at, row) {
					checkRefused(t, b, at, int(row))
					turnRow(b, n, at, row)
				}
			}
		}
		checkNext(t, b)
	}
}

// The rules of all layers.

// TestWhatIsHandedInStays calls all with bytes that have more behind their length.
func TestWhatIsHandedInStays(t *testing.T) {
	for _, p := range payloads() {
		room := append(slices.Clone(p), "behind"...)
		keep := slices.Clone(room)
		b, e := frame.Write(1, room[:len(p)])
		if want := writeOf(1, p); e != api.OK || !bytes.Equal(b, want) || !bytes.Equal(room, keep) {
			t.Errorf("Write(%s) = %s, %v; what was handed in became %s", brief(p), brief(b), e, brief(room))
		}
	}
	_, all := filed([]byte("ab"), nil, bytes.Repeat([]byte{9}, 130), []byte("c"))
	keep := slices.Clone(all)
	for n := range len(all) + 1 {
		l, at, e := frame.All(all[:n])
		want, wantAt, wantE := allOf(slices.Clone(all[:n]))
		if !sameFrames(l, want) || at != wantAt || e != wantE {
			t.Errorf("All of %d bytes: %s, %d, %v; want %s, %d, %v", n, brief(l), at, e, brief(want), wantAt, wantE)
		}
		got, wantNext := get(all[:n]), nextOf(slices.Clone(all[:n]))
		if !got.same(wantNext) {
			t.Errorf("Next of %d bytes: %v; want %v", n, got, wantNext)
		}
	}
	if !bytes.Equal(all, keep) {
		t.Errorf("what was handed in became %v", all)
	}
}

func spoil(b []byte) {
	for i := range b {
		b[i] = 99
	}
}

// TestWhatIsAnsweredIsApart changes all that is answered, what could lie behind it, and what was read.
func TestWhatIsAnsweredIsApart(t *testing.T) {
	want, b := filed([]byte("ab"), nil, bytes.Repeat([]byte{9}, 130), []byte("c"), []byte("c"))
	payload := []byte("ab")
	one, _ := frame.Write(0, payload)
	other, _ := frame.Write(0, payload)
	spoil(payload)
	spoil(one[:cap(one)])
	if !bytes.Equal(other, writeOf(0, []byte("ab"))) {
		t.Errorf("what was written is shared: %v", other)
	}
	room := slices.Clone(b)
	first, second := get(room), get(room)
	l, _, _ := frame.All(room)
	again, _, _ := frame.All(room)
	spoil(first.payload[:cap(first.payload)])
	if !bytes.Equal(room, b) {
		t.Errorf("a payload shares what was handed in, which became %v", room)
	}
	for i := range l {
		spoil(l[i].Payload[:cap(l[i].Payload)])
		if !sameFrames(l[i+1:], want[i+1:]) {
			t.Errorf("the payload %d is shared with one behind it: %s", i, brief(l))
		}
	}
	for i := range l {
		if len(l[i].Payload) != len(want[i].Payload) || bytes.Count(l[i].Payload, []byte{99}) != len(l[i].Payload) {
			t.Errorf("the payload %d became %v", i, l[i].Payload)
		}
		l[i] = frame.Frame{}
	}
	spoil(room)
	if !bytes.Equal(second.payload, []byte("ab")) || !sameFrames(again, want) {
		t.Errorf("what was answered is shared: %v, %s", second, brief(again))
	}
}

// TestAnAnswerHangsOnNothingAhead asks the same again, behind others.
func TestAnAnswerHangsOnNothingAhead(t *testing.T) {
	_, b := filed([]byte("ab"), nil, []byte("c"))
	for _, p := range payloads() {
		frame.Write(2, p)
		frame.Write(3, p)
		frame.All(p)
		frame.Next(p)
		checkAll(t, b)
		checkAll(t, b[:len(b)-1])
	}
}

// TestManyAtATime asks by many goroutines at a time, of the same bytes.
func TestManyAtATime(t *testing.T) {
	want, b := filed(payloads()...)
	var all sync.WaitGroup
	for range 8 {
		all.Go(func() {
			l, at, e := frame.All(b)
			if e != api.OK || at != len(b) || !sameFrames(l, want) {
				t.Error(len(l), at, e)
			}
			for i, p := range payloads() {
				if got, e := frame.Write(i%3, p); e != api.OK || !bytes.Equal(got, b[want[i].At:want[i].At+len(got)]) {
					t.Error(i, e)
				}
			}
		})
	}
	all.Wait()
}
