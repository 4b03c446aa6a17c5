package disk_test

import (
	"bytes"
	"math"
	"slices"
	"strings"
	"sync"
	"testing"

	"deckle/api"
	"deckle/disk"
)

// model is a disk by the document's words: what is safe, and what isn't.
type model struct {
	safe, loose string
	crashes     int
}

func (m *model) all() string { return m.safe + m.loose }

func (m *model) crash(keep int, junk string) api.Errno {
	if keep < 0 || keep > len(m.loose) {
		return api.ErrRange
	}
	if keep+len(junk) > len(m.loose) {
		return api.ErrLong
	}
	m.safe, m.loose = m.safe+m.loose[:keep]+junk, ""
	m.crashes++
	return api.OK
}

// both are a disk and its model, that are asked the same.
type both struct {
	t *testing.T
	d *disk.Disk
	m *model
}

func start(t *testing.T, safe string) *both {
	t.Helper()
	x := &both{t, disk.New([]byte(safe)...), &model{safe: safe}}
	x.check()
	return x
}

// torn is a disk with bytes that are safe, and such as aren't.
func torn(t *testing.T, safe, loose string) *both {
	t.Helper()
	x := start(t, safe)
	x.append(loose)
	return x
}

func (x *both) check() {
	x.t.Helper()
	if b := x.d.Bytes(); string(b) != x.m.all() {
		x.t.Fatalf("Bytes = %s; want %s", brief(string(b)), brief(x.m.all()))
	}
	if n := x.d.Safe(); n != len(x.m.safe) {
		x.t.Fatalf("Safe = %d; want %d", n, len(x.m.safe))
	}
	if n := x.d.Crashes(); n != x.m.crashes {
		x.t.Fatalf("Crashes = %d; want %d", n, x.m.crashes)
	}
}

func (x *both) append(b string) {
	x.t.Helper()
	if e := x.d.Append([]byte(b)...); e != api.OK {
		x.t.Fatalf("Append(%s) = %v", brief(b), e)
	}
	x.m.loose += b
	x.check()
}

func (x *both) sync() {
	x.t.Helper()
	if e := x.d.Sync(); e != api.OK {
		x.t.Fatalf("Sync = %v", e)
	}
	x.m.safe, x.m.loose = x.m.all(), ""
	x.check()
}

func (x *both) crash(keep int, junk string) api.Errno {
	x.t.Helper()
	e, want := x.d.Crash(keep, []byte(junk)), x.m.crash(keep, junk)
	if e != want {
		x.t.Fatalf("Crash(%d, %s) = %v; want %v", keep, brief(junk), e, want)
	}
	x.check()
	return e
}

// is holds what the model and the disk have against what a test tells.
func (x *both) is(all string, safe, crashes int) {
	x.t.Helper()
	x.check()
	if x.m.all() != all || len(x.m.safe) != safe || x.m.crashes != crashes {
		x.t.Fatalf("%s, %d, %d; want %s, %d, %d", brief(x.m.all()), len(x.m.safe), x.m.crashes, brief(all), safe, crashes)
	}
}

// brief is a text that can be told whole, if it is small.
func brief(s string) string {
	if len(s) > 100 {
		return s[:100] + ".."
	}
	return s
}

// letters are n bytes of which none is another's like, as far as there are such.
func letters(from, n int) string {
	b := make([]byte, n)
	for i := range b {
		b[i] = byte(from + i)
	}
	return string(b)
}

// mixer makes the same numbers at each run, that look like any.
type mixer uint32

func (m *mixer) below(n int) int {
	*m ^= *m << 13
	*m ^= *m >> 17
	*m ^= *m << 5
	return int(uint32(*m)>>3) % n
}

func (m *mixer) bytes(n int) string {
	b := make([]byte, n)
	for i := range b {
		b[i] = byte(m.below(256))
	}
	return string(b)
}

// P15.1

func TestNew(t *testing.T) {
	for _, n := range []int{0, 1, 2, 3, 255, 256, 257, 100000} {
		x := start(t, letters(0, n))
		x.is(letters(0, n), n, 0)
		x.d.Bytes()
		x.is(letters(0, n), n, 0)
	}
	for _, d := range []*disk.Disk{disk.New(), disk.New(nil...), disk.New([]byte{}...)} {
		(&both{t, d, &model{}}).check()
	}
	(&both{t, disk.New(0, 255, 0), &model{safe: "\x00\xff\x00"}}).check()
}

// TestANewDiskIsSafe finds nothing that a crash could take.
func TestANewDiskIsSafe(t *testing.T) {
	for _, n := range []int{0, 1, 3, 300} {
		x := start(t, letters(7, n))
		if e := x.crash(1, ""); e != api.ErrRange {
			t.Error(e)
		}
		if e := x.crash(0, "x"); e != api.ErrLong {
			t.Error(e)
		}
		if e := x.crash(0, ""); e != api.OK {
			t.Error(e)
		}
		x.is(letters(7, n), n, 1)
	}
}

func TestAppend(t *testing.T) {
	x := start(t, "abc")
	x.append("")
	x.is("abc", 3, 0)
	x.append("def")
	x.is("abcdef", 3, 0)
	x.append("")
	x.append("\x00\xff")
	x.is("abcdef\x00\xff", 3, 0)
	if e := x.d.Append(); e != api.OK {
		t.Error(e)
	}
	if e := x.d.Append(nil...); e != api.OK {
		t.Error(e)
	}
	x.check()
	x = start(t, "")
	x.append("a")
	x.is("a", 0, 0)
	x.append(letters(0, 70000))
	x.is("a"+letters(0, 70000), 0, 0)
}

// TestAppendByOnes grows a disk byte by byte, so that its memory has to be made anew on the way.
func TestAppendByOnes(t *testing.T) {
	d := disk.New('a')
	want := "a"
	for i := range 5000 {
		if e := d.Append(byte(i)); e != api.OK {
			t.Fatal(i, e)
		}
		want += string([]byte{byte(i)})
	}
	(&both{t, d, &model{"a", want[1:], 0}}).check()
}

func TestSync(t *testing.T) {
	x := start(t, "abc")
	x.sync()
	x.is("abc", 3, 0)
	x.append("def")
	x.sync()
	x.is("abcdef", 6, 0)
	x.sync()
	x.is("abcdef", 6, 0)
	x.append("g")
	x.is("abcdefg", 6, 0)
	x.sync()
	x.is("abcdefg", 7, 0)
	x = start(t, "")
	x.sync()
	x.is("", 0, 0)
}

// P15.2

func TestCrash(t *testing.T) {
	for _, c := range []struct {
		safe, loose string
		keep        int
		junk        string
		want        string
	}{
		{"abc", "def", 1, "xy", "abcdxy"}, // the document's own
		{"abc", "def", 0, "", "abc"},
		{"abc", "def", 1, "", "abcd"},
		{"abc", "def", 3, "", "abcdef"},
		{"abc", "def", 0, "xyz", "abcxyz"},
		{"abc", "def", 0, "x", "abcx"},
		{"abc", "def", 2, "x", "abcdex"},
		{"abc", "def", 1, "x", "abcdx"},
		{"abc", "def", 1, "ef", "abcdef"},
		{"", "def", 0, "", ""},
		{"", "def", 2, "x", "dex"},
		{"", "def", 0, "xyz", "xyz"},
		{"abc", "", 0, "", "abc"},
		{"", "", 0, "", ""},
	} {
		x := torn(t, c.safe, c.loose)
		if e := x.crash(c.keep, c.junk); e != api.OK {
			t.Errorf("%v: %v", c, e)
		}
		x.is(c.want, len(c.want), 1)
	}
}

func TestCrashRefused(t *testing.T) {
	for _, c := range []struct {
		keep int
		junk string
		want api.Errno
	}{
		{4, "", api.ErrRange}, {-1, "", api.ErrRange}, {6, "", api.ErrRange}, {7, "", api.ErrRange},
		{math.MaxInt, "", api.ErrRange}, {math.MinInt, "", api.ErrRange}, {math.MaxInt - 3, "", api.ErrRange}, {math.MaxInt - 6, "x", api.ErrRange},
		{-3, "xyz", api.ErrRange}, {-1, "x", api.ErrRange},
		{3, "x", api.ErrLong}, {2, "xy", api.ErrLong}, {1, "xyz", api.ErrLong}, {0, "wxyz", api.ErrLong}, {0, letters(0, 70000), api.ErrLong},
		{4, "wxyz", api.ErrRange}, {-1, "vwxyz", api.ErrRange}, {math.MaxInt, "wxyz", api.ErrRange}, {math.MinInt, "wxyz", api.ErrRange}, // the range goes ahead
	} {
		x := torn(t, "abc", "def")
		for range 2 {
			if e := x.crash(c.keep, c.junk); e != c.want {
				t.Errorf("Crash(%d, %s) = %v; want %v", c.keep, brief(c.junk), e, c.want)
			}
			x.is("abcdef", 3, 0)
		}
		// What wasn't safe isn't safe still.
		x.append("g")
		x.crash(4, "")
		x.is("abcdefg", 7, 1)
		x = torn(t, "abc", "def")
		x.crash(c.keep, c.junk)
		x.crash(1, "xy")
		x.is("abcdxy", 6, 1)
	}
}

// TestAllCrashesOfSmallDisks goes through them, with each call behind it.
func TestAllCrashesOfSmallDisks(t *testing.T) {
	told := map[api.Errno]int{}
	for safe := range 4 {
		for loose := range 5 {
			for keep := -2; keep < 8; keep++ {
				for junk := range 8 {
					for then := range 4 {
						x := torn(t, letters('a', safe), letters('f', loose))
						told[x.crash(keep, letters('p', junk))]++
						switch then {
						case 1:
							x.append("yz")
						case 2:
							x.sync()
						case 3:
							x.append("yz")
							x.crash(1, "!")
						}
						x.crash(0, "")
					}
				}
			}
		}
	}
	for _, e := range []api.Errno{api.OK, api.ErrRange, api.ErrLong} {
		if told[e] < 100 {
			t.Errorf("%v was told only %d times", e, told[e])
		}
	}
}

// TestWhatACrashTookStaysAway appends behind one, where the lost bytes had been.
func TestWhatACrashTookStaysAway(t *testing.T) {
	x := torn(t, "abc", "defghi")
	x.crash(1, "")
	x.append("")
	x.is("abcd", 4, 1)
	x.append("y")
	x.is("abcdy", 4, 1)
	x.append("z")
	x.is("abcdyz", 4, 1)
	x.crash(1, "!")
	x.is("abcdy!", 6, 2)
	if e := x.crash(1, ""); e != api.ErrRange {
		t.Error(e)
	}
	if e := x.crash(0, "x"); e != api.ErrLong {
		t.Error(e)
	}
	x.is("abcdy!", 6, 2)
}

func TestAGreatCrash(t *testing.T) {
	x := torn(t, letters(1, 70000), letters(9, 80000))
	x.crash(30000, letters(77, 50001))
	x.is(letters(1, 70000)+letters(9, 80000), 70000, 0)
	x.crash(30000, letters(77, 50000))
	x.is(letters(1, 70000)+letters(9, 30000)+letters(77, 50000), 150000, 1)
	x.append(letters(5, 70000))
	x.crash(0, "")
	x.is(letters(1, 70000)+letters(9, 30000)+letters(77, 50000), 150000, 2)
}

// P15.3

// TestCrashesAreThoseThatWere counts neither what was refused nor anything else.
func TestCrashesAreThoseThatWere(t *testing.T) {
	x := start(t, "abc")
	for i := range 50 {
		x.append("de")
		x.crash(3, "")
		x.crash(0, "xyz")
		x.crash(-1, "")
		x.sync()
		x.append("f")
		if n := x.d.Crashes(); n != 2*i {
			t.Fatalf("Crashes = %d; want %d", n, 2*i)
		}
		x.crash(i%2, "")
		x.crash(0, "")
	}
	if n := x.d.Crashes(); n != 100 {
		t.Errorf("Crashes = %d", n)
	}
}

func TestANilDisk(t *testing.T) {
	var d *disk.Disk
	for _, b := range [][]byte{nil, {}, []byte("abc")} {
		if e := d.Append(b...); e != api.ErrNil {
			t.Errorf("Append(%v) = %v", b, e)
		}
		for _, keep := range []int{0, 1, -1, math.MinInt, math.MaxInt} {
			if e := d.Crash(keep, b); e != api.ErrNil {
				t.Errorf("Crash(%d, %v) = %v", keep, b, e)
			}
		}
	}
	if e := d.Sync(); e != api.ErrNil {
		t.Errorf("Sync = %v", e)
	}
	if b := d.Bytes(); len(b) != 0 {
		t.Errorf("Bytes = %v", b)
	}
	if n := d.Safe(); n != 0 {
		t.Errorf("Safe = %d", n)
	}
	if n := d.Crashes(); n != 0 {
		t.Errorf("Crashes = %d", n)
	}
}

// P15.4

// TestWhatIsSafeStays goes on by calls that look like any, and asks ahead of each one and behind it.
func TestWhatIsSafeStays(t *testing.T) {
	m := mixer(2463534242)
	told := map[api.Errno]int{}
	for range 60 {
		x := start(t, m.bytes(m.below(20)))
		for range 120 {
			ahead := x.d.Bytes()
			safe := ahead[:x.d.Safe()]
			loose := len(ahead) - len(safe)
			switch m.below(6) {
			case 0:
				x.sync()
				if x.d.Safe() != len(ahead) {
					t.Fatalf("%d of %d are safe", x.d.Safe(), len(ahead))
				}
			case 1, 2:
				e := x.crash(m.below(loose+3)-1, m.bytes(m.below(loose+3)))
				told[e]++
				if n := len(x.d.Bytes()); n > len(ahead) || e == api.OK && n != x.d.Safe() {
					t.Fatalf("%d bytes, %d of them safe, behind a crash of %d", n, x.d.Safe(), len(ahead))
				}
			default:
				x.append(m.bytes(m.below(30)))
			}
			if !bytes.HasPrefix(x.d.Bytes(), safe) || x.d.Safe() < len(safe) {
				t.Fatalf("%x was safe; there are %x, %d of them safe", safe, x.d.Bytes(), x.d.Safe())
			}
		}
	}
	for _, e := range []api.Errno{api.OK, api.ErrRange, api.ErrLong} {
		if told[e] < 50 {
			t.Errorf("%v was told only %d times", e, told[e])
		}
	}
}

// The rules of all layers.

// spoil changes all of a list, and what lies behind it.
func spoil(b []byte) {
	b = b[:cap(b)]
	for i := range b {
		b[i] = '?'
	}
}

// room is a list of some bytes, with others behind its length.
func room(s string) []byte { return []byte(s + strings.Repeat("~", 50))[:len(s)] }

// TestWhatIsHandedInStays calls all with lists that have more behind their length.
func TestWhatIsHandedInStays(t *testing.T) {
	first, more, junk := room("abc"), room("def"), room("xy")
	keep := [][]byte{slices.Clone(first[:53]), slices.Clone(more[:53]), slices.Clone(junk[:52])}
	for range 3 {
		d := disk.New(first...)
		for range 5 {
			d.Append(more...)
			d.Crash(9, junk)
			d.Crash(2, junk)
			d.Crash(1, junk)
			d.Append(first...)
			d.Sync()
			d.Append(junk...)
			d.Append('z', 'z', 'z')
			d.Crash(0, first)
		}
	}
	d := disk.New()
	d.Append(first...)
	d.Append(more...)
	d.Crash(0, junk)
	for i, b := range [][]byte{first[:53], more[:53], junk[:52]} {
		if !bytes.Equal(b, keep[i]) {
			t.Errorf("what was handed in became %s; it was %s", b, keep[i])
		}
	}
}

// TestWhatLiesBehindALengthIsNotRead hands in such as have other bytes there.
func TestWhatLiesBehindALengthIsNotRead(t *testing.T) {
	d := disk.New(room("abc")...)
	x := &both{t, d, &model{safe: "abc"}}
	x.check()
	d.Append(room("def")...)
	x.m.loose = "def"
	x.check()
	if e := d.Crash(1, room("x")); e != api.OK {
		t.Error(e)
	}
	x.m.crash(1, "x")
	x.check()
	d.Append(room("")...)
	x.check()
}

// TestWhatWasHandedInMayBeChanged changes all of it when the call has answered.
func TestWhatWasHandedInMayBeChanged(t *testing.T) {
	for _, n := range []int{1, 3, 40, 5000} {
		for _, first := range []int{0, 1, n} { // what is appended to a disk without bytes has no bytes to stand behind
			b := room(letters(1, first))
			d := disk.New(b...)
			x := &both{t, d, &model{safe: string(b)}}
			spoil(b)
			x.check()
			for range 4 {
				b = room(letters(2, n))
				d.Append(b...)
				x.m.loose += string(b)
				spoil(b)
				x.check()
				b = room(letters(3, n))
				e, want := d.Crash(0, b), x.m.crash(0, string(b))
				spoil(b)
				if e != want {
					t.Fatal(e, want)
				}
				x.check()
			}
		}
	}
}

// TestWhatIsAnsweredIsApart changes all that is answered, and what could lie behind it.
func TestWhatIsAnsweredIsApart(t *testing.T) {
	x := start(t, "abc")
	for i := range 60 {
		one, two := x.d.Bytes(), x.d.Bytes()
		all := x.m.all()
		spoil(one)
		x.check()
		if string(two) != all {
			t.Fatalf("two answers share: %s", two)
		}
		x.append(letters(i, i%7))
		x.crash(i%3, letters(i, i%2))
		x.append(letters(i, i%5))
		if i%4 == 0 {
			x.sync()
		}
		if string(two) != all {
			t.Fatalf("what was answered ahead became %s", two)
		}
		spoil(two)
		x.check()
	}
	for _, s := range []string{"", "a", letters(0, 3000)} {
		x := torn(t, s, "def")
		_ = append(x.d.Bytes(), "xyz"...)
		x.append("ghi")
		b := x.d.Bytes()
		x.crash(1, "!")
		x.append("jkl")
		x.sync()
		if string(b) != s+"defghi" {
			t.Errorf("what was answered became %s", brief(string(b)))
		}
	}
}

// TestADiskOfItsOwnBytes hands in what it answered.
func TestADiskOfItsOwnBytes(t *testing.T) {
	x := torn(t, "abc", "defghi")
	b := x.d.Bytes()
	if e := x.d.Crash(2, b[1:4]); e != api.OK {
		t.Error(e)
	}
	x.m.crash(2, "bcd")
	x.is("abcdebcd", 8, 1)
	x.append(string(x.d.Bytes()))
	x.is("abcdebcdabcdebcd", 8, 1)
	other := disk.New(x.d.Bytes()...)
	x.crash(0, "")
	(&both{t, other, &model{safe: "abcdebcdabcdebcd"}}).check()
}

// TestDisksHaveNothingToDoWithOneAnother lets such as begin with the same list go on apart.
func TestDisksHaveNothingToDoWithOneAnother(t *testing.T) {
	m := mixer(3)
	b := room("abcdef")
	var l []*both
	for n := range 7 {
		l = append(l, &both{t, disk.New(b[:n]...), &model{safe: string(b[:n])}}, &both{t, disk.New(b...), &model{safe: string(b)}})
	}
	for range 600 {
		x := l[m.below(len(l))]
		switch m.below(5) {
		case 0:
			x.sync()
		case 1:
			x.crash(m.below(len(x.m.loose)+1), m.bytes(m.below(4)))
		default:
			x.append(m.bytes(m.below(6)))
		}
		for _, y := range l {
			y.check()
		}
	}
}

// TestManyAtATime asks by many goroutines at a time, each one its own disk, with the same lists.
func TestManyAtATime(t *testing.T) {
	first, more, junk := room("abc"), room("defghi"), room("xy")
	var group sync.WaitGroup
	for range 16 {
		group.Go(func() {
			d := disk.New(first...)
			want := "abc"
			for i := range 200 {
				d.Append(more...)
				if e := d.Crash(i%5, junk); e != api.OK {
					t.Error(e)
				}
				want += "defghi"[:i%5] + "xy"
			}
			if string(d.Bytes()) != want || d.Safe() != len(want) || d.Crashes() != 200 {
				t.Errorf("%s, %d, %d", brief(string(d.Bytes())), d.Safe(), d.Crashes())
			}
		})
	}
	group.Wait()
}
