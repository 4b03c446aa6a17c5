package reader_test

import (
	"bytes"
	"errors"
	"math"
	"runtime"
	"testing"

	"deckle/api"
	"deckle/reader"
	"deckle/wire"
)

// check runs f of b, and tells whether it went through, all its calls answered.
func check(t *testing.T, b []byte, n int, e api.Errno, through bool, f func(r *reader.Reader)) {
	t.Helper()
	went := false
	gotN, gotE := reader.Run(b, func(r *reader.Reader) {
		f(r)
		went = true
	})
	if gotN != n || gotE != e || went != through {
		t.Errorf("of %v: %d, %v, went through: %v; want %d, %v, %v", b, gotN, gotE, went, n, e, through)
	}
}

// checkPanic tells what f panics with.
func checkPanic(t *testing.T, is func(x any) bool, f func()) {
	t.Helper()
	defer func() {
		t.Helper()
		if x := recover(); !is(x) {
			t.Errorf("panics with %v", x)
		}
	}()
	f()
	t.Error("went on")
}

// checkOver holds a reader that has nothing to read against what such a one answers.
func checkOver(t *testing.T, of string, r *reader.Reader) {
	t.Helper()
	r.Must(false, api.ErrKind)
	r.Must(true, api.ErrKind)
	for range 2 {
		if c := r.Byte(); c != 0 {
			t.Errorf("%s: Byte %d", of, c)
		}
		for _, most := range []uint64{0, 300, math.MaxUint64} {
			if x := r.Uint(most); x != 0 {
				t.Errorf("%s: Uint %d", of, x)
			}
		}
		if x := r.Int(); x != 0 {
			t.Errorf("%s: Int %d", of, x)
		}
		for _, most := range []int{math.MinInt, -1, 0, 9, math.MaxInt} {
			if b := r.Bytes(most); len(b) != 0 {
				t.Errorf("%s: Bytes %v", of, b)
			}
		}
		if r.At() != 0 || r.Left() != 0 {
			t.Errorf("%s: At %d, Left %d", of, r.At(), r.Left())
		}
	}
}

func readNothing(*reader.Reader) {}

// P3.1

func TestRunOfNoFunction(t *testing.T) {
	for _, b := range [][]byte{nil, {}, {0}, {1, 2, 3}} {
		if n, e := reader.Run(b, nil); n != 0 || e != api.ErrNil {
			t.Errorf("Run(%v, nil) = %d, %v", b, n, e)
		}
	}
}

func TestRunCallsOnceFromPlaceZero(t *testing.T) {
	for _, b := range [][]byte{nil, {}, {0}, {1, 2, 3}} {
		calls := 0
		reader.Run(b, func(r *reader.Reader) {
			calls++
			if r == nil || r.At() != 0 || r.Left() != len(b) {
				t.Errorf("of %v: %d, %d", b, r.At(), r.Left())
			}
		})
		if calls != 1 {
			t.Errorf("of %v: %d calls", b, calls)
		}
	}
}

func TestRunTellsWhereItEnded(t *testing.T) {
	example := []byte{5, 172, 2}
	check(t, example, 3, api.OK, true, func(r *reader.Reader) { r.Byte(); r.Uint(300) })
	check(t, example, 1, api.ErrRange, false, func(r *reader.Reader) { r.Byte(); r.Uint(299) })
	check(t, example, 1, api.ErrLong, true, func(r *reader.Reader) { r.Byte() })
	check(t, example, 0, api.ErrLong, true, readNothing)
	check(t, example, 2, api.ErrLong, true, func(r *reader.Reader) { r.Byte(); r.Byte() })
	check(t, example, 3, api.ErrShort, false, func(r *reader.Reader) { r.Byte(); r.Uint(300); r.Byte() })
	check(t, example, 3, api.ErrSeq, false, func(r *reader.Reader) { r.Byte(); r.Uint(300); r.Must(false, api.ErrSeq) })
	check(t, example, 0, api.ErrLong, false, func(r *reader.Reader) { r.Must(false, api.ErrLong) })
	check(t, nil, 0, api.OK, true, readNothing)
	check(t, []byte{}, 0, api.OK, true, readNothing)
	check(t, nil, 0, api.ErrShort, false, func(r *reader.Reader) { r.Byte() })
	check(t, []byte{0}, 1, api.OK, true, func(r *reader.Reader) { r.Byte() })
}

func TestAnEndThatTheFunctionTakesIsStillAnEnd(t *testing.T) {
	check(t, []byte{1, 2, 3}, 1, api.ErrView, true, func(r *reader.Reader) {
		func() {
			defer func() { recover() }()
			r.Byte()
			r.Must(false, api.ErrView)
		}()
		r.Byte()
		r.Byte()
	})
}

func TestTheFirstEndIsTold(t *testing.T) {
	check(t, []byte{1, 2, 3}, 1, api.ErrView, false, func(r *reader.Reader) {
		defer func() {
			if r.At() != 1 || r.Left() != 2 || r.Byte() != 2 {
				t.Error("what ends has taken something")
			}
			r.Must(false, api.ErrKind)
		}()
		r.Byte()
		r.Must(false, api.ErrView)
	})
}

func TestAnEndThatIsPassedOnIsAnEnd(t *testing.T) {
	check(t, []byte{1, 2}, 1, api.ErrKind, false, func(r *reader.Reader) {
		defer func() {
			if x := recover(); x != nil {
				panic(x)
			}
		}()
		r.Byte()
		r.Must(false, api.ErrKind)
	})
}

func TestWhatTheFunctionPanicsWithGoesOn(t *testing.T) {
	own := errors.New("own")
	for _, with := range []any{"own", 7, api.ErrShort, own, &struct{ of int }{3}} {
		is := func(x any) bool { return x == with }
		checkPanic(t, is, func() { reader.Run(nil, func(*reader.Reader) { panic(with) }) })
		checkPanic(t, is, func() {
			reader.Run([]byte{1, 2}, func(r *reader.Reader) { r.Byte(); panic(with) })
		})
		// also out of a call that the reader's end itself brings about
		checkPanic(t, is, func() {
			reader.Run(nil, func(r *reader.Reader) {
				defer func() { panic(with) }()
				r.Byte()
			})
		})
		// and through a Run within another
		checkPanic(t, is, func() {
			reader.Run(nil, func(*reader.Reader) { reader.Run(nil, func(*reader.Reader) { panic(with) }) })
		})
	}
}

func TestWhatTheLanguagePanicsWithGoesOn(t *testing.T) {
	fault := func(x any) bool { _, ok := x.(runtime.Error); return ok }
	checkPanic(t, fault, func() {
		reader.Run([]byte{1}, func(r *reader.Reader) { var l []int; _ = l[r.Byte()] })
	})
	none := func(x any) bool { _, ok := x.(*runtime.PanicNilError); return ok }
	checkPanic(t, none, func() { reader.Run([]byte{1}, func(*reader.Reader) { panic(nil) }) })
}

func TestAnotherRunsEndGoesOn(t *testing.T) {
	var kept any
	reader.Run(nil, func(r *reader.Reader) {
		defer func() { kept = recover() }()
		r.Byte()
	})
	if kept == nil {
		t.Fatal("it ended by no panic")
	}
	checkPanic(t, func(x any) bool { return x == kept }, func() {
		reader.Run([]byte{1}, func(r *reader.Reader) { panic(kept) })
	})
}

func TestRunWithinAnother(t *testing.T) {
	// the inner one ends: the outer one goes on
	check(t, []byte{1, 2}, 2, api.OK, true, func(r *reader.Reader) {
		r.Byte()
		check(t, []byte{3}, 1, api.ErrShort, false, func(s *reader.Reader) { s.Byte(); s.Byte() })
		check(t, []byte{3}, 1, api.OK, true, func(s *reader.Reader) { s.Byte(); r.Byte() })
	})
	// the outer one ends, two Runs further in
	var inner, outer *reader.Reader
	check(t, []byte{1, 2}, 1, api.ErrSeq, false, func(r *reader.Reader) {
		outer = r
		r.Byte()
		reader.Run([]byte{3}, func(s *reader.Reader) {
			inner = s
			reader.Run([]byte{4}, func(*reader.Reader) { r.Must(false, api.ErrSeq) })
			t.Error("the innermost Run answered")
		})
		t.Error("the inner Run answered")
	})
	checkOver(t, "the inner one", inner)
	checkOver(t, "the outer one", outer)
}

func TestRunWhileAnotherEnds(t *testing.T) {
	check(t, []byte{1, 2}, 1, api.ErrSeq, false, func(r *reader.Reader) {
		defer func() {
			check(t, []byte{3}, 1, api.OK, true, func(s *reader.Reader) { s.Byte() })
			check(t, []byte{3}, 0, api.ErrKind, false, func(s *reader.Reader) { s.Must(false, api.ErrKind) })
		}()
		r.Byte()
		r.Must(false, api.ErrSeq)
	})
}

func TestReadersOfTheSameBytesAreApart(t *testing.T) {
	b := []byte{1, 2, 3}
	check(t, b, 2, api.ErrLong, true, func(r *reader.Reader) {
		r.Byte()
		check(t, b, 3, api.OK, true, func(s *reader.Reader) { s.Byte(); s.Byte(); s.Byte() })
		if r.At() != 1 || r.Byte() != 2 {
			t.Error("one reader moved another")
		}
	})
}

func TestReadersThatHaveNothing(t *testing.T) {
	checkOver(t, "nil", nil)
	var returned, ended, panicked, left *reader.Reader
	reader.Run([]byte{1, 2}, func(r *reader.Reader) { returned = r; r.Byte() })
	checkOver(t, "returned", returned)
	reader.Run([]byte{1, 2}, func(r *reader.Reader) { ended = r; r.Byte(); r.Must(false, api.ErrKind) })
	checkOver(t, "ended", ended)
	func() {
		defer func() { recover() }()
		reader.Run([]byte{1, 2}, func(r *reader.Reader) { panicked = r; r.Byte(); panic("own") })
	}()
	checkOver(t, "panicked", panicked)
	done := make(chan bool)
	go func() {
		defer close(done)
		reader.Run([]byte{1, 2}, func(r *reader.Reader) { left = r; r.Byte(); runtime.Goexit() })
		t.Error("Run answered though its goroutine was over")
	}()
	<-done
	checkOver(t, "left", left)
	// one that is over plays no part in a Run that goes on
	check(t, []byte{1}, 1, api.OK, true, func(r *reader.Reader) {
		checkOver(t, "another", ended)
		r.Byte()
	})
}

// P3.2

func TestByte(t *testing.T) {
	var all []byte
	for i := range 256 {
		all = append(all, byte(i))
	}
	check(t, all, 256, api.ErrShort, false, func(r *reader.Reader) {
		for i := range 256 {
			if c := r.Byte(); c != byte(i) || r.At() != i+1 || r.Left() != 255-i {
				t.Errorf("the byte %d: %d, %d, %d", i, c, r.At(), r.Left())
			}
		}
		r.Byte()
	})
}

// numbers begin with a number's bytes, or with such as no number has.
func numbers() [][]byte {
	nine, full := bytes.Repeat([]byte{128}, 9), bytes.Repeat([]byte{255}, 9)
	l := [][]byte{
		nil, {128}, {255}, {128, 128}, nine[:8], nine, full, // they end too early
		append(nine[:9:9], 128), append(full[:9:9], 2), append(full[:9:9], 255, 1), append(nine[:9:9], 127), // too long
		{128, 0}, {172, 130, 0}, {128, 0, 1}, append(nine[:9:9], 0), // not of the form
	}
	for _, x := range []uint64{0, 1, 2, 63, 64, 127, 128, 299, 300, 301, 16383, 16384, 1 << 32, 1<<63 - 1, 1 << 63, math.MaxUint64 - 1, math.MaxUint64} {
		l = append(l, wire.Uint(x), append(wire.Uint(x), 0), append(wire.Uint(x), 255, 128))
	}
	return l
}

func TestUint(t *testing.T) {
	for _, b := range numbers() {
		x, n, e := wire.GetUint(b)
		for _, most := range []uint64{0, 1, 127, 128, 299, 300, x, x - 1, x + 1, 1 << 63, math.MaxUint64 - 1, math.MaxUint64} {
			wantN, wantE := n, e
			if e == api.OK && x > most {
				wantN, wantE = 0, api.ErrRange
			}
			checkTaken(t, b, wantN, wantE, func(r *reader.Reader) bool { return r.Uint(most) == x })
		}
	}
}

func TestInt(t *testing.T) {
	for _, b := range numbers() {
		x, n, e := wire.GetInt(b)
		checkTaken(t, b, n, e, func(r *reader.Reader) bool { return r.Int() == x })
	}
	for _, x := range []int64{0, -1, 1, -64, 63, 64, math.MinInt64, math.MaxInt64, math.MinInt64 + 1} {
		b := wire.Int(x)
		checkTaken(t, b, len(b), api.OK, func(r *reader.Reader) bool { return r.Int() == x })
	}
}

func TestBytes(t *testing.T) {
	great, half, top := wire.Uint(math.MaxUint64), wire.Uint(1<<63), wire.Uint(math.MaxInt64)
	l := append(numbers(), great, append(great, 1, 2), append(half, 1, 2), append(top, 1, 2))
	for _, n := range []int{0, 1, 2, 127, 128, 300} {
		all := wire.Bytes(bytes.Repeat([]byte{7, 200, 0}, n)[:n])
		l = append(l, all, append(bytes.Clone(all), 9), all[:len(all)-1], all[:1])
	}
	for _, b := range l {
		for _, most := range []int{math.MinInt, -1, 0, 1, 2, 126, 127, 128, 299, 300, math.MaxInt - 1, math.MaxInt} {
			want, n, e := wire.GetBytes(b, most)
			checkTaken(t, b, n, e, func(r *reader.Reader) bool { return bytes.Equal(r.Bytes(most), want) })
		}
	}
	checkTaken(t, []byte{2, 97, 98}, 3, api.OK, func(r *reader.Reader) bool { return string(r.Bytes(2)) == "ab" })
	checkTaken(t, []byte{2, 97, 98}, 0, api.ErrLimit, func(r *reader.Reader) bool { return r.Bytes(1) != nil })
	checkTaken(t, []byte{0}, 0, api.ErrLimit, func(r *reader.Reader) bool { return r.Bytes(-1) != nil })
	checkTaken(t, []byte{2, 97}, 0, api.ErrShort, func(r *reader.Reader) bool { return r.Bytes(2) != nil })
}

// checkTaken lets a call take something of b, alone and with other bytes ahead: n bytes of it, or none if it ends with e.
func checkTaken(t *testing.T, b []byte, n int, e api.Errno, take func(r *reader.Reader) bool) {
	t.Helper()
	for _, ahead := range []int{0, 1, 12} {
		all := append(bytes.Repeat([]byte{129}, ahead), b...)
		wantE := e
		if e == api.OK && n < len(b) {
			wantE = api.ErrLong
		}
		check(t, all, ahead+n, wantE, e == api.OK, func(r *reader.Reader) {
			for range ahead {
				r.Byte()
			}
			defer func() {
				if r.At() != ahead+n || r.Left() != len(b)-n {
					t.Errorf("of %v, %d ahead: At %d, Left %d; want %d, %d", b, ahead, r.At(), r.Left(), ahead+n, len(b)-n)
				}
			}()
			if !take(r) {
				t.Errorf("of %v, %d ahead: not what it is", b, ahead)
			}
		})
	}
}

func TestMust(t *testing.T) {
	for e := api.Errno(-2); e <= 20; e++ {
		check(t, []byte{1, 2}, 1, api.ErrLong, true, func(r *reader.Reader) { r.Byte(); r.Must(true, e) })
		if e == api.OK {
			check(t, []byte{1, 2}, 1, api.ErrLong, true, func(r *reader.Reader) { r.Byte(); r.Must(false, e) })
			continue
		}
		check(t, []byte{1, 2}, 1, e, false, func(r *reader.Reader) { r.Byte(); r.Must(false, e) })
		check(t, []byte{1}, 1, e, false, func(r *reader.Reader) { r.Byte(); r.Must(false, e) })
		check(t, nil, 0, e, false, func(r *reader.Reader) { r.Must(false, e) })
	}
	for _, e := range []api.Errno{math.MinInt, math.MaxInt} {
		check(t, []byte{1}, 0, e, false, func(r *reader.Reader) { r.Must(false, e) })
	}
}

func TestWhatIsTakenIsNewMemory(t *testing.T) {
	room := []byte{2, 97, 98, 2, 97, 98, 7, 7}
	var one, other []byte
	check(t, room[:6], 6, api.OK, true, func(r *reader.Reader) {
		one, other = r.Bytes(2), r.Bytes(2)
		one = append(one, 'x')
		one[0] = 'y'
	})
	if !bytes.Equal(room, []byte{2, 97, 98, 2, 97, 98, 7, 7}) {
		t.Errorf("what was handed in, or stands behind it, became %v", room)
	}
	clear(room)
	if string(one) != "ybx" || string(other) != "ab" {
		t.Errorf("what was taken became %q, %q", one, other)
	}
}

// P3.3 and P3.4

// mixer makes the same numbers at each run, that look like any.
type mixer uint32

func (m *mixer) below(n int) int {
	*m ^= *m << 13
	*m ^= *m >> 17
	*m ^= *m << 5
	return int(uint32(*m)>>3) % n
}

// mixed are up to 24 bytes, most of them small or such that another one follows.
func (m *mixer) mixed() []byte {
	b := make([]byte, m.below(25))
	for i := range b {
		b[i] = [...]byte{0, 1, 2, 3, 4, 127, 128, 129, 172, 255, byte(m.below(256)), byte(m.below(256))}[m.below(12)]
	}
	return b
}

// step is a call of a reader, and what of the document's words it should come to of what is left.
type step struct {
	kind, most int
}

func (s step) want(left []byte) (int, api.Errno) {
	switch s.kind {
	case 0:
		if len(left) == 0 {
			return 0, api.ErrShort
		}
		return 1, api.OK
	case 1:
		x, n, e := wire.GetUint(left)
		if e == api.OK && x > uint64(s.most) {
			return 0, api.ErrRange
		}
		return n, e
	case 2:
		_, n, e := wire.GetInt(left)
		return n, e
	case 3:
		_, n, e := wire.GetBytes(left, s.most)
		return n, e
	}
	if s.most == 0 {
		return 0, api.ErrState
	}
	return 0, api.OK
}

func (s step) take(r *reader.Reader) {
	switch s.kind {
	case 0:
		r.Byte()
	case 1:
		r.Uint(uint64(s.most))
	case 2:
		r.Int()
	case 3:
		r.Bytes(s.most)
	case 4:
		r.Must(s.most > 0, api.ErrState)
	}
}

// walk tells what steps come to of b: the places that they come to, and the error.
func walk(b []byte, steps []step) ([]int, api.Errno) {
	places := []int{0}
	at := 0
	for _, s := range steps {
		n, e := s.want(b[at:])
		if e != api.OK {
			return places, e
		}
		at += n
		places = append(places, at)
	}
	if at < len(b) {
		return places, api.ErrLong
	}
	return places, api.OK
}

func TestManySteps(t *testing.T) {
	m := mixer(2463534242)
	for range 60000 {
		b := m.mixed()
		steps := make([]step, m.below(9))
		for i := range steps {
			steps[i] = step{m.below(5), m.below(5) * m.below(70)}
		}
		want, wantE := walk(b, steps)
		var got []int
		room := append(bytes.Clone(b), bytes.Repeat([]byte{1}, 300)...) // what could be taken, were it not behind the end
		n, e := reader.Run(room[:len(b)], func(r *reader.Reader) {
			got = append(got, r.At())
			for _, s := range steps {
				s.take(r)
				got = append(got, r.At())
				if r.At()+r.Left() != len(b) {
					t.Fatalf("of %v, %v: At %d, Left %d", b, steps, r.At(), r.Left())
				}
			}
		})
		if n != want[len(want)-1] || e != wantE || len(got) != len(want) {
			t.Fatalf("of %v, %v: %d, %v, places %v; want %v, %v", b, steps, n, e, got, want, wantE)
		}
		for i := range got {
			if got[i] != want[i] {
				t.Fatalf("of %v, %v: places %v; want %v", b, steps, got, want)
			}
		}
		if n < 0 || n > len(b) {
			t.Fatalf("of %v, %v: ended at %d", b, steps, n)
		}
	}
}

func TestNothingBehindTheBytesIsRead(t *testing.T) {
	room := []byte{172, 2, 97, 98}
	check(t, room[:0], 0, api.ErrShort, false, func(r *reader.Reader) { r.Byte() })
	check(t, room[:1], 0, api.ErrShort, false, func(r *reader.Reader) { r.Uint(300) })
	check(t, room[:1], 0, api.ErrShort, false, func(r *reader.Reader) { r.Int() })
	check(t, room[1:3], 0, api.ErrShort, false, func(r *reader.Reader) { r.Bytes(2) })
	check(t, room[:2], 2, api.ErrShort, false, func(r *reader.Reader) { r.Uint(300); r.Byte() })
	if !bytes.Equal(room, []byte{172, 2, 97, 98}) {
		t.Errorf("what was handed in, or stands behind it, became %v", room)
	}
}

func TestReadersOfManyGoroutines(t *testing.T) {
	b := bytes.Repeat([]byte{5, 172, 2}, 100)
	done := make(chan api.Errno)
	for i := range 8 {
		go func() {
			n, e := reader.Run(b, func(r *reader.Reader) {
				for range 100 {
					r.Must(r.Byte() == 5 && r.Uint(300) == 300, api.ErrForm)
				}
				r.Must(i%2 == 0, api.ErrView)
			})
			if n != len(b) {
				e = api.ErrState
			}
			done <- e
		}()
	}
	ends := map[api.Errno]int{}
	for range 8 {
		ends[<-done]++
	}
	if ends[api.OK] != 4 || ends[api.ErrView] != 4 {
		t.Errorf("ended %v", ends)
	}
}
