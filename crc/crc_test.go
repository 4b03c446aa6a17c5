package crc_test

import (
	"bytes"
	"hash/crc32"
	"math/bits"
	"testing"

	"deckle/crc"
)

// sumOf is the sum as the document tells it.
func sumOf(b []byte) uint32 {
	s := uint64(4294967295)
	for _, c := range b {
		s ^= uint64(c)
		for range 8 {
			if s%2 != 0 {
				s = s/2 ^ 2197175160
			} else {
				s = s / 2
			}
		}
	}
	return uint32(4294967295 ^ s)
}

// bytesOf are a sum's bytes as the document tells them, by division alone.
func bytesOf(sum uint32) []byte {
	var b []byte
	for range 4 {
		b = append(b, byte(sum%256))
		sum /= 256
	}
	return b
}

// mixed are n bytes, the same ones at each call, that look like any.
func mixed(n int) []byte {
	b := make([]byte, n)
	x := uint32(2463534242)
	for i := range b {
		x ^= x << 13
		x ^= x >> 17
		x ^= x << 5
		b[i] = byte(x >> 11)
	}
	return b
}

// eachInput hands f no bytes, all of one and two, and longer ones.
func eachInput(f func(b []byte)) {
	f(nil)
	f([]byte{})
	for i := range 256 {
		f([]byte{byte(i)})
		for j := range 256 {
			f([]byte{byte(i), byte(j)})
		}
	}
	for _, n := range []int{3, 4, 5, 7, 8, 9, 31, 32, 33, 255, 256, 257, 4096, 70000} {
		f(mixed(n))
		for _, c := range []byte{0, 1, 128, 255} {
			f(bytes.Repeat([]byte{c}, n))
		}
	}
}

// sums are numbers with bits in all places: each of them is the sum of some bytes.
func sums() []uint32 {
	l := []uint32{0, 1, 255, 256, 0x01020304, 0x80000000, 0xdeadbeef, 2197175160, 4294967294, 4294967295}
	for i := range 32 {
		l = append(l, 1<<i, ^uint32(0)<<i)
	}
	return l
}

// turn turns the bit i over, in each byte the lowest one first.
func turn(b []byte, i int) { b[i/8] ^= 1 << (i % 8) }

func checkRefused(t *testing.T, b []byte, what string, at ...int) {
	t.Helper()
	if x, ok := crc.Open(b); ok || len(x) != 0 {
		t.Fatalf("%d bytes, %s %v: opened, with %d bytes", len(b), what, at, len(x))
	}
}

// P2.1

func TestSum(t *testing.T) {
	for s, want := range map[string]uint32{
		"":                                   0,
		"a":                                  0xc1d04330,
		"123456789":                          3808858755,
		"\x00":                               0x527d5351,
		string(make([]byte, 32)):             0x8a9136aa,
		string(bytes.Repeat([]byte{255}, 4)): 4294967295,
	} {
		if got := crc.Sum([]byte(s)); got != want {
			t.Errorf("Sum(%q) = %d; want %d", s, got, want)
		}
	}
	known := crc32.MakeTable(crc32.Castagnoli)
	eachInput(func(b []byte) {
		if got := crc.Sum(b); got != sumOf(b) || got != crc32.Checksum(b, known) {
			t.Fatalf("Sum of %d bytes = %d; want %d", len(b), got, sumOf(b))
		}
	})
}

func TestMoreGoesOnAtEachPlace(t *testing.T) {
	b := mixed(600)
	for n := range len(b) {
		want := sumOf(b[:n])
		for _, k := range []int{0, 1, n / 3, n / 2, n - 1, n} {
			if k < 0 || k > n {
				continue
			}
			if got := crc.More(crc.Sum(b[:k]), b[k:n]...); got != want {
				t.Fatalf("%d bytes, and %d behind: %d; want %d", k, n-k, got, want)
			}
		}
	}
	var sum uint32
	for i, c := range b {
		sum = crc.More(sum, c)
		if sum != sumOf(b[:i+1]) {
			t.Fatalf("byte by byte, up to %d: %d; want %d", i, sum, sumOf(b[:i+1]))
		}
	}
}

func TestMoreOfNoneIsTheSum(t *testing.T) {
	for _, sum := range sums() {
		if a, b := crc.More(sum), crc.More(sum, []byte{}...); a != sum || b != sum {
			t.Errorf("More(%d) = %d, %d", sum, a, b)
		}
	}
}

// ofSum are four bytes whose sum that is: what each of the sum's bits asks is undone from the last one on.
func ofSum(sum uint32) []byte {
	s := ^sum
	for range 32 {
		if s >= 1<<31 {
			s = (s^2197175160)<<1 | 1
		} else {
			s <<= 1
		}
	}
	return bytesOf(^s)
}

func TestMoreOfAnySum(t *testing.T) {
	for _, sum := range sums() {
		head := ofSum(sum)
		if sumOf(head) != sum {
			t.Fatalf("the bytes %v have the sum %d; want %d", head, sumOf(head), sum)
		}
		for _, n := range []int{1, 2, 5, 40} {
			b := mixed(n)
			if got, want := crc.More(sum, b...), sumOf(append(head[:4:4], b...)); got != want {
				t.Errorf("More(%d) of %d bytes = %d; want %d", sum, n, got, want)
			}
		}
	}
}

func TestPut(t *testing.T) {
	for _, c := range []struct {
		sum  uint32
		want []byte
	}{
		{0, []byte{0, 0, 0, 0}},
		{1, []byte{1, 0, 0, 0}},
		{256, []byte{0, 1, 0, 0}},
		{0x01020304, []byte{4, 3, 2, 1}},
		{3808858755, []byte{131, 146, 6, 227}},
		{1 << 31, []byte{0, 0, 0, 128}},
		{4294967295, []byte{255, 255, 255, 255}},
	} {
		if got := crc.Put(c.sum); !bytes.Equal(got, c.want) {
			t.Errorf("Put(%d) = %v; want %v", c.sum, got, c.want)
		}
	}
	for _, sum := range sums() {
		if got := crc.Put(sum); !bytes.Equal(got, bytesOf(sum)) {
			t.Errorf("Put(%d) = %v; want %v", sum, got, bytesOf(sum))
		}
	}
	one, other := crc.Put(7), crc.Put(7)
	one[0] = 9
	if !bytes.Equal(other, []byte{7, 0, 0, 0}) {
		t.Errorf("one answer follows another: %v", other)
	}
}

func TestSeal(t *testing.T) {
	for s, want := range map[string]string{
		"":          "\x00\x00\x00\x00",
		"a":         "a\x30\x43\xd0\xc1",
		"123456789": "123456789\x83\x92\x06\xe3",
	} {
		if got := crc.Seal([]byte(s)); string(got) != want {
			t.Errorf("Seal(%q) = %q; want %q", s, got, want)
		}
	}
	eachInput(func(b []byte) {
		want := append(b[:len(b):len(b)], bytesOf(sumOf(b))...)
		if got := crc.Seal(b); !bytes.Equal(got, want) {
			t.Fatalf("Seal of %d bytes ends with %v; want %v", len(b), got[max(len(got)-4, 0):], want[len(b):])
		}
	})
}

func TestOpen(t *testing.T) {
	for s, want := range map[string]string{
		"\x00\x00\x00\x00":          "",
		"a\x30\x43\xd0\xc1":         "a",
		"123456789\x83\x92\x06\xe3": "123456789",
		"\x00\x51\x53\x7d\x52":      "\x00",
	} {
		if got, ok := crc.Open([]byte(s)); !ok || string(got) != want {
			t.Errorf("Open(%q) = %q, %v; want %q, true", s, got, ok, want)
		}
	}
	for _, s := range []string{
		"", "\x00", "\x00\x00", "\x00\x00\x00", "abc", "\xff\xff\xff", // fewer than four
		"\x00\x00\x00\x01", "\x01\x00\x00\x00", "\xff\xff\xff\xff", "abcd", // not the sum of none
		"a\xc1\xd0\x43\x30",           // the highest byte first
		"\x30\x43\xd0\xc1a",           // the sum ahead
		"a\xcf\xbc\x2f\x3e",           // not turned over at the end
		"b\x30\x43\xd0\xc1",           // another's sum
		"a\x30\x43\xd0",               // a byte is missing
		"a\x30\x43\xd0\xc1\x00",       // a byte too many
		"\x00a\x30\x43\xd0\xc1",       // a byte ahead
		"\x00\x00\x00\x00\x00",        // 0 isn't the sum of 0
		"123456789\x83\x92\x06\xe4",   // the last byte of the sum is another
		"12345678\x839\x92\x06\xe3",   // two bytes stand the other way about
		"123456789\x83\x92\x06\xe3\n", // a byte behind
	} {
		checkRefused(t, []byte(s), "of "+s)
	}
	if got, ok := crc.Open(nil); ok || len(got) != 0 {
		t.Errorf("Open(nil) = %v, %v", got, ok)
	}
}

func TestOpenTakesJustTheSum(t *testing.T) {
	head := mixed(20)
	sum := sumOf(head)
	for _, other := range append(sums(), sum-1, sum+1, ^sum, bits.ReverseBytes32(sum), bits.Reverse32(sum)) {
		b := append(head[:20:20], bytesOf(other)...)
		if got, ok := crc.Open(b); ok != (other == sum) || ok && !bytes.Equal(got, head) {
			t.Errorf("with %d for the sum %d: %v, %v", other, sum, got, ok)
		}
	}
	if got, ok := crc.Open(append(head[:20:20], bytesOf(sum)...)); !ok || !bytes.Equal(got, head) {
		t.Errorf("with the sum: %v, %v", got, ok)
	}
}

func TestMemory(t *testing.T) {
	room := []byte("a\x30\x43\xd0\xc1xyz")
	sealed := crc.Seal(room[:1])
	opened, ok := crc.Open(room[:5])
	crc.More(5, room[:2]...)
	if !ok || string(room) != "a\x30\x43\xd0\xc1xyz" {
		t.Errorf("what was handed in, or stands behind it, became %q", room)
	}
	if got, ok := crc.Open(room[:4]); ok || len(got) != 0 {
		t.Errorf("behind the length is read: %q, %v", got, ok)
	}
	again, _ := crc.Open(room[:5])
	room[0] = 'b'
	opened = append(opened, '!')
	opened[0] = 'c'
	if string(sealed) != "a\x30\x43\xd0\xc1" || string(again) != "a" || string(room) != "b\x30\x43\xd0\xc1xyz" {
		t.Errorf("an answer shares memory: %q, %q, %q", sealed, again, room)
	}
}

// P2.2

func TestWhatIsSealedIsOpened(t *testing.T) {
	eachInput(func(b []byte) {
		if got, ok := crc.Open(crc.Seal(b)); !ok || !bytes.Equal(got, b) {
			t.Fatalf("%d bytes, sealed: %d, %v", len(b), len(got), ok)
		}
	})
	b := mixed(9)
	for range 4 {
		b = crc.Seal(b) // what is sealed is sealed again
	}
	for range 4 {
		got, ok := crc.Open(b)
		if !ok {
			t.Fatal("sealed more than once, it isn't opened")
		}
		b = got
	}
	if !bytes.Equal(b, mixed(9)) {
		t.Errorf("sealed and opened four times: %v", b)
	}
}

func TestUpToThreeBitsTurned(t *testing.T) {
	for _, n := range []int{0, 1, 5, 12} {
		b := crc.Seal(mixed(n))
		for i := range 8 * len(b) {
			turn(b, i)
			checkRefused(t, b, "turned", i)
			for j := range i {
				turn(b, j)
				checkRefused(t, b, "turned", i, j)
				for k := range j {
					turn(b, k)
					checkRefused(t, b, "turned", i, j, k)
					turn(b, k)
				}
				turn(b, j)
			}
			turn(b, i)
		}
		if _, ok := crc.Open(b); !ok {
			t.Fatal("turned back, it isn't opened")
		}
	}
}

// traces are, of each bit of n sealed bytes, which bits of the sum and of its bytes differ when it is turned: those of the sum's own bits first, then from the last byte on to the front.
func traces(n int) []uint32 {
	var l []uint32
	for i := range 32 {
		l = append(l, 1<<i)
	}
	for i := range 8 {
		l = append(l, crc.More(0, 1<<i)^crc.More(0, 0))
	}
	for len(l) < 32+8*n {
		l = append(l, crc.More(l[len(l)-8], 0)^crc.More(0, 0))
	}
	return l
}

// A sum of what is turned is the one of what was, turned by each bit's trace. So two bits are seen if no two traces are the same, and one or three if each trace is of an odd number of bits: then so is what is left of three.
func TestUpToThreeBitsTurnedOf65536Bytes(t *testing.T) {
	const n = 65536
	l := traces(n)
	where := make(map[uint32]int, len(l))
	for i, x := range l {
		if bits.OnesCount32(x)%2 == 0 {
			t.Fatalf("the trace %x of the bit %d is of an even number of bits", x, i)
		}
		if j, was := where[x]; was {
			t.Fatalf("the bits %d and %d have one trace, %x", j, i, x)
		}
		where[x] = i
	}
	b := crc.Seal(mixed(n))
	sum := sumOf(b[:n])
	for _, i := range []int{0, 7, 8, 12345, 8*n - 8, 8*n - 1} {
		turn(b, i)
		if got, want := crc.Sum(b[:n])^sum, l[32+8*(n-1-i/8)+i%8]; got != want {
			t.Errorf("the bit %d changes %x of the sum; its trace is %x", i, got, want)
		}
		checkRefused(t, b, "turned", i)
		turn(b, 8*n+31)
		checkRefused(t, b, "turned", i, 8*n+31)
		turn(b, 4*n)
		checkRefused(t, b, "turned", i, 8*n+31, 4*n)
		turn(b, 4*n)
		turn(b, 8*n+31)
		turn(b, i)
	}
}

// turnRow turns the bits of which row tells, from the bit at on, and tells whether they all stand in b.
func turnRow(b []byte, at int, row uint32) bool {
	if at+bits.Len32(row) > 8*len(b) {
		return false
	}
	for i := range 32 {
		if row>>i&1 == 1 {
			turn(b, at+i)
		}
	}
	return true
}

// rows are bits within 32, the first one among them: all within eleven, and many of more.
func rows() []uint32 {
	var l []uint32
	for x := range uint32(1024) {
		l = append(l, 2*x+1)
	}
	x := uint32(88172645)
	for range 3000 {
		x ^= x << 13
		x ^= x >> 17
		x ^= x << 5
		l = append(l, x|1, x|1|1<<31)
	}
	l = append(l, 1<<31|1, 2197175160|1, bits.Reverse32(2197175160)|1)
	for i := range 32 {
		l = append(l, 1<<i|1, ^uint32(0)>>i)
	}
	return l
}

func TestBitsTurnedWithin32(t *testing.T) {
	for _, n := range []int{0, 1, 3, 14} {
		b := crc.Seal(mixed(n))
		for at := range 8 * len(b) {
			for _, row := range rows() {
				if turnRow(b, at, row) {
					checkRefused(t, b, "turned within 32", at, int(row))
					turnRow(b, at, row)
				}
			}
		}
		if _, ok := crc.Open(b); !ok {
			t.Fatal("turned back, it isn't opened")
		}
	}
}

func TestBitsTurnedWithin32OfMore(t *testing.T) {
	const n = 70000
	b := crc.Seal(mixed(n))
	for _, at := range []int{0, 3, 8 * 31, 8*n - 40, 8*n - 32, 8*n - 17, 8*n - 1, 8 * n} {
		for _, row := range []uint32{1, 3, 4294967295, 1<<31 | 1, 0x8f3c01d5} {
			if turnRow(b, at, row) {
				checkRefused(t, b, "turned within 32", at, int(row))
				turnRow(b, at, row)
			}
		}
	}
}
