package row_test

import (
	"cmp"
	"math"
	"slices"
	"strings"
	"testing"

	"deckle/api"
	"deckle/cell"
	"deckle/row"
	"deckle/schema"
)

var everyKind = []int{api.Int, api.Uint, api.Bool, api.Bytes, api.Text, api.Float}

// columns are such of those kinds, named a, b, c and so on.
func columns(kinds ...int) []api.Column {
	var s []api.Column
	for i, kind := range kinds {
		s = append(s, api.Column{Name: string(rune('a' + i)), Kind: kind})
	}
	return s
}

func num(x uint64) api.Cell { return api.Cell{Num: x} }

func signed(x int64) api.Cell { return api.Cell{Num: uint64(x)} }

func text(s string) api.Cell { return api.Cell{Text: s} }

func cells(l ...api.Cell) []api.Cell { return l }

// wrongSchemas are such as may not be, and what layer 5 says of them.
func wrongSchemas() map[api.Errno][]api.Column {
	return map[api.Errno][]api.Column{
		api.ErrNone:  {},
		api.ErrLimit: make([]api.Column, 9),
		api.ErrLong:  {{Name: strings.Repeat("a", 33)}},
		api.ErrArg:   {{Name: "A"}},
		api.ErrKind:  {{Name: "a", Kind: 6}},
	}
}

// schemas are some with each kind in each place.
func schemas() [][]api.Column {
	var l [][]api.Column
	for i := range everyKind {
		turned := append(slices.Clone(everyKind[i:]), everyKind[:i]...)
		l = append(l, columns(turned[0]), columns(turned[:2]...), columns(turned[:3]...), columns(turned...))
		l = append(l, columns(append(turned, turned[:2]...)...))
	}
	return l
}

// cellsOf are such of a kind as may be, in order.
func cellsOf(kind int) []api.Cell {
	switch kind {
	case api.Int:
		return cells(signed(math.MinInt64), signed(-10), signed(-1), num(0), num(1), num(9), num(10), signed(math.MaxInt64))
	case api.Uint:
		return cells(num(0), num(1), num(2), num(10), num(1<<63-1), num(1<<63), num(math.MaxUint64))
	case api.Bool:
		return cells(num(0), num(1))
	case api.Bytes:
		return cells(text(""), text("\x00"), text(","), text("-"), text("a"), text("a\x00"), text("ab"), text("b"), text("\xff"), text(strings.Repeat("\xff", 256)))
	case api.Text:
		return cells(text(""), text("\x00"), text(","), text("-"), text("a"), text("aa"), text(strings.Repeat("a", 256)), text("b"), text("ä"), text(strings.Repeat("ä", 128)))
	}
	return cells(num(math.MaxUint64), num(0xfff0000000000000), num(0xbff0000000000000), num(1<<63), num(0), num(1), num(0x3ff0000000000000), num(0x7ff0000000000000), num(1<<63-1))
}

// wrongCellsOf are such as may not be of a kind.
func wrongCellsOf(kind int) []api.Cell {
	long := strings.Repeat("x", 257)
	switch kind {
	case api.Bool:
		return cells(num(2), num(256), num(math.MaxUint64), text("a"), text(long))
	case api.Bytes:
		return cells(num(1), text(long), api.Cell{Num: 1, Text: long})
	case api.Text:
		return cells(num(1), text("\xff"), text(long), text(long+"\xff"))
	}
	return cells(text("a"), text("\x00"), text(long), api.Cell{Num: 1, Text: "a"})
}

// wrongTextsOf are such as are none of a cell of a kind.
func wrongTextsOf(kind int) []string {
	l := []string{"", " ", "?", "\x00", "\xff", "1 ", " 1", "--", "-1-", "+1", "01", "00", "1.5", "truefalse", "TRUE", "ä", "6", "6G", "6A"}
	switch kind {
	case api.Bytes:
		return append(l, strings.Repeat("61", 257))
	case api.Text:
		return append(l, strings.Repeat("61", 257), "ff", "61c3", "c3a4a4", strings.Repeat("ff", 257))
	}
	return append(l, "-0", "9223372036854775808-", "18446744073709551616", "-9223372036854775809", "-", "0000000000000000 ")
}

// rows are some of a schema that may be: the i-th has at each place some cell of its kind, and of each place there is one for each cell.
func rows(s []api.Column) [][]api.Cell {
	var l [][]api.Cell
	for first := range 3 {
		for place := range s {
			for _, c := range cellsOf(s[place].Kind) {
				var r []api.Cell
				for k, column := range s {
					some := cellsOf(column.Kind)
					r = append(r, some[(first*(k+1)+first/2)%len(some)])
				}
				r[place] = c
				l = append(l, r)
			}
		}
	}
	return l
}

// wrongRows are some that may not be.
func wrongRows(s []api.Column) [][]api.Cell {
	r := make([]api.Cell, len(s))
	l := [][]api.Cell{nil, {}, r[:len(r)-1], append(slices.Clone(r), api.Cell{}), make([]api.Cell, 256+len(s)), make([]api.Cell, 70000)}
	for i, column := range s {
		for _, c := range wrongCellsOf(column.Kind) {
			other := slices.Clone(r)
			other[i] = c
			l = append(l, other, append(slices.Clone(other), api.Cell{}), other[:i])
			for k := range i {
				wrong := wrongCellsOf(s[k].Kind)
				both := slices.Clone(other)
				both[k] = wrong[i%len(wrong)]
				l = append(l, both)
			}
		}
	}
	return l
}

// checkOf is Check as the document tells it.
func checkOf(s []api.Column, r []api.Cell) api.Errno {
	if e := schema.Check(s); e != api.OK {
		return e
	}
	if len(r) != len(s) {
		return api.ErrArg
	}
	for i := range s {
		if e := cell.Check(s[i].Kind, r[i]); e != api.OK {
			return e
		}
	}
	return api.OK
}

// textOf is the text of a row that Check lets be.
func textOf(s []api.Column, r []api.Cell) string {
	all := ""
	for i := range s {
		x, _ := cell.Text(s[i].Kind, r[i])
		if i > 0 {
			all += ","
		}
		all += x
	}
	return all
}

// partsOf are what stands between the commas of a text.
func partsOf(t string) []string {
	var l []string
	from := 0
	for i := range len(t) {
		if t[i] == ',' {
			l = append(l, t[from:i])
			from = i + 1
		}
	}
	return append(l, t[from:])
}

// readOf is Read as the document tells it.
func readOf(s []api.Column, t string) ([]api.Cell, api.Errno) {
	if e := schema.Check(s); e != api.OK {
		return nil, e
	}
	parts := partsOf(t)
	if len(parts) != len(s) {
		return nil, api.ErrForm
	}
	var r []api.Cell
	for i := range parts {
		c, e := cell.Read(s[i].Kind, parts[i])
		if e != api.OK {
			return nil, e
		}
		r = append(r, c)
	}
	return r, api.OK
}

// checkRow holds what is told of a row against what is to be.
func checkRow(t *testing.T, s []api.Column, r []api.Cell, want api.Errno) {
	t.Helper()
	wantText := ""
	if want == api.OK {
		wantText = textOf(s, r)
	}
	if e := row.Check(s, r); e != want {
		t.Fatalf("Check(%v, %v) = %v; want %v", s, r, e, want)
	}
	if x, e := row.Text(s, r); x != wantText || e != want {
		t.Fatalf("Text(%v, %v) = %q, %v; want %q, %v", s, r, x, e, wantText, want)
	}
}

// checkRead holds what is read of a text against what is to be.
func checkRead(t *testing.T, s []api.Column, x string) {
	t.Helper()
	want, wantE := readOf(s, x)
	if r, e := row.Read(s, x); !slices.Equal(r, want) || e != wantE {
		t.Fatalf("Read(%v, %q) = %v, %v; want %v, %v", s, x, r, e, want, wantE)
	}
}

// checkOrder holds each two of l, which stand in order, against each other.
func checkOrder(t *testing.T, s []api.Column, l [][]api.Cell) {
	t.Helper()
	for i, a := range l {
		for k, b := range l {
			if n := row.Compare(s, a, b); n != cmp.Compare(i, k) {
				t.Fatalf("Compare(%v, %v, %v) = %d; want %d", s, a, b, n, cmp.Compare(i, k))
			}
		}
	}
}

// P6.1

func TestTheDocumentsExample(t *testing.T) {
	s := []api.Column{{Name: "id", Kind: api.Int}, {Name: "name", Kind: api.Text}}
	l := [][]api.Cell{cells(num(1), text("a")), cells(num(1), text("b")), cells(num(2), text(""))}
	for i, want := range []string{"1,61", "1,62", "2,-"} {
		if x, e := row.Text(s, l[i]); x != want || e != api.OK {
			t.Errorf("Text: %q, %v; want %q", x, e, want)
		}
		if r, e := row.Read(s, want); !slices.Equal(r, l[i]) || e != api.OK {
			t.Errorf("Read(%q): %v, %v", want, r, e)
		}
	}
	checkOrder(t, s, l)
}

func TestCheck(t *testing.T) {
	s := columns(api.Int, api.Text, api.Bool)
	long := strings.Repeat("a", 257)
	for _, c := range []struct {
		r    []api.Cell
		want api.Errno
	}{
		{make([]api.Cell, 3), api.OK},
		{cells(signed(-1), text("ä"), num(1)), api.OK},
		{cells(num(0), text(strings.Repeat("a", 256)), num(0)), api.OK},
		{nil, api.ErrArg},
		{[]api.Cell{}, api.ErrArg},
		{make([]api.Cell, 2), api.ErrArg},
		{make([]api.Cell, 4), api.ErrArg},
		{make([]api.Cell, 259), api.ErrArg},
		// How many there are goes ahead of each.
		{cells(text("a")), api.ErrArg},
		{cells(num(0), text(long)), api.ErrArg},
		{cells(text("a"), text(long), num(2), num(3)), api.ErrArg},
		{cells(text("a"), text(""), num(0)), api.ErrType},
		{cells(num(0), num(1), num(0)), api.ErrType},
		{cells(num(0), text("\xff"), num(0)), api.ErrType},
		{cells(num(0), text(""), num(2)), api.ErrType},
		{cells(num(0), text(long), num(0)), api.ErrLong},
		// What a cell ahead has goes ahead.
		{cells(num(0), text(long), num(2)), api.ErrLong},
		{cells(text(long), text(long), num(0)), api.ErrType},
		{cells(num(0), text(long+"\xff"), num(0)), api.ErrType},
		// Cells are of their own column's kind, not of another's.
		{cells(text(""), num(1), text("")), api.ErrType},
		{cells(num(1), num(1), text("a")), api.ErrType},
	} {
		checkRow(t, s, c.r, c.want)
	}
}

func TestEachRow(t *testing.T) {
	for _, s := range schemas() {
		for _, r := range rows(s) {
			checkRow(t, s, r, api.OK)
		}
		for _, r := range wrongRows(s) {
			if checkOf(s, r) == api.OK {
				t.Fatalf("%v of %v may be", r, s)
			}
			checkRow(t, s, r, checkOf(s, r))
		}
	}
}

func TestTheSchemasErrorGoesAheadOfAll(t *testing.T) {
	for want, s := range wrongSchemas() {
		for n := range 12 {
			r := make([]api.Cell, n)
			checkRow(t, s, r, want)
			for i := range r {
				r[i] = api.Cell{Num: 2, Text: strings.Repeat("\xff", 257)}
			}
			checkRow(t, s, r, want)
			if c := row.Compare(s, make([]api.Cell, n), r); c != 0 {
				t.Errorf("Compare of %v = %d", s, c)
			}
			for _, x := range []string{"", "-", "1", "?", strings.Repeat("1,", n) + "1", strings.Repeat(",", n), strings.Repeat("ff,", n) + "ff"} {
				if r, e := row.Read(s, x); len(r) != 0 || e != want {
					t.Errorf("Read(%v, %q) = %v, %v; want none, %v", s, x, r, e, want)
				}
			}
		}
		if c := row.Compare(s, cells(num(0)), cells(num(1))); c != 0 {
			t.Errorf("Compare of %v = %d", s, c)
		}
	}
}

func TestCompareGoesByTheFirstCellsThatAreUnlike(t *testing.T) {
	checkOrder(t, columns(api.Int, api.Text, api.Float), [][]api.Cell{
		cells(signed(math.MinInt64), text("b"), num(1)),
		cells(signed(-5), text("b"), num(0)),
		cells(num(0), text("z"), num(0)),
		cells(num(1), text(""), num(1)),
		cells(num(1), text("a"), num(math.MaxUint64)),
		cells(num(1), text("a"), num(1<<63)),
		cells(num(1), text("a"), num(0)),
		cells(num(1), text("aa"), num(math.MaxUint64)),
		cells(num(1), text("b"), num(math.MaxUint64)),
		cells(num(2), text(""), num(math.MaxUint64)),
		cells(signed(math.MaxInt64), text(""), num(0)),
	})
	checkOrder(t, columns(api.Bool, api.Bool, api.Bool), [][]api.Cell{
		cells(num(0), num(0), num(0)), cells(num(0), num(0), num(1)), cells(num(0), num(1), num(0)), cells(num(0), num(1), num(1)),
		cells(num(1), num(0), num(0)), cells(num(1), num(0), num(1)), cells(num(1), num(1), num(0)), cells(num(1), num(1), num(1)),
	})
	// Each column's own kind tells its order: the same numbers are ahead in one and behind in another.
	for kind, want := range map[int]int{api.Int: -1, api.Uint: 1, api.Float: -1} {
		s := columns(api.Bool, kind)
		if n := row.Compare(s, cells(num(0), num(1<<63)), cells(num(0), num(1))); n != want {
			t.Errorf("of the kind %d: %d", kind, n)
		}
	}
}

func TestCompareInEachPlace(t *testing.T) {
	for _, s := range schemas() {
		for i, column := range s {
			some := cellsOf(column.Kind)
			for a, x := range some {
				for b, y := range some {
					left, right := make([]api.Cell, len(s)), make([]api.Cell, len(s))
					left[i], right[i] = x, y
					if n := row.Compare(s, left, right); n != cmp.Compare(a, b) {
						t.Fatalf("Compare(%v, %v, %v) = %d; want %d", s, left, right, n, cmp.Compare(a, b))
					}
					for k := i + 1; k < len(s) && a != b; k++ {
						last := cellsOf(s[k].Kind)
						left[k], right[k] = last[0], last[len(last)-1]
						if n := row.Compare(s, left, right); n != cmp.Compare(a, b) {
							t.Fatalf("Compare(%v, %v, %v) = %d; want %d", s, left, right, n, cmp.Compare(a, b))
						}
					}
				}
			}
		}
	}
}

func TestCompareOfWhatMayNotBe(t *testing.T) {
	for _, s := range schemas() {
		low, high := make([]api.Cell, len(s)), make([]api.Cell, len(s))
		for i, column := range s {
			some := cellsOf(column.Kind)
			low[i], high[i] = some[0], some[len(some)-1]
		}
		for _, wrong := range wrongRows(s) {
			for _, good := range [][]api.Cell{low, high, make([]api.Cell, len(s))} {
				if row.Compare(s, wrong, good) != 0 || row.Compare(s, good, wrong) != 0 || row.Compare(s, wrong, wrong) != 0 {
					t.Fatalf("Compare(%v) of %v and %v isn't 0", s, wrong, good)
				}
			}
		}
		if row.Compare(s, low, high[:len(s)-1]) != 0 || row.Compare(s, low, append(high, api.Cell{})) != 0 {
			t.Fatalf("Compare(%v) of rows that aren't as long isn't 0", s)
		}
	}
	// What comes ahead of what is wrong doesn't tell the order either.
	s := columns(api.Int, api.Text)
	if row.Compare(s, cells(num(1), text("\xff")), cells(num(2), text(""))) != 0 || row.Compare(s, cells(num(2), text("")), cells(num(1), num(1))) != 0 {
		t.Error("unlike first cells tell an order of what may not be")
	}
}

// P6.2

func TestText(t *testing.T) {
	for _, c := range []struct {
		s    []api.Column
		r    []api.Cell
		want string
	}{
		{columns(api.Int), cells(signed(-7)), "-7"},
		{columns(api.Bytes), cells(text("")), "-"},
		{columns(api.Bytes, api.Bytes), cells(text(""), text("")), "-,-"},
		{columns(api.Bytes, api.Text), cells(text(","), text(",")), "2c,2c"},
		{columns(everyKind...), cells(signed(-1), signed(-1), num(1), text("\xff"), text("ä"), signed(-1)), "-1,18446744073709551615,true,ff,c3a4,ffffffffffffffff"},
		{columns(everyKind...), make([]api.Cell, 6), "0,0,false,-,-,0000000000000000"},
		{columns(1, 1, 1, 1, 1, 1, 1, 1), cells(num(1), num(2), num(3), num(4), num(5), num(6), num(7), num(8)), "1,2,3,4,5,6,7,8"},
	} {
		if x, e := row.Text(c.s, c.r); x != c.want || e != api.OK {
			t.Errorf("Text(%v, %v) = %q, %v; want %q", c.s, c.r, x, e, c.want)
		}
		if r, e := row.Read(c.s, c.want); !slices.Equal(r, c.r) || e != api.OK {
			t.Errorf("Read(%v, %q) = %v, %v", c.s, c.want, r, e)
		}
	}
}

func TestReadOfWhatIsNoRow(t *testing.T) {
	s := columns(api.Int, api.Text, api.Bool)
	long := strings.Repeat("61", 257)
	for x, want := range map[string]api.Errno{
		"":                          api.ErrForm,
		",":                         api.ErrForm,
		",,":                        api.ErrForm,
		",,,":                       api.ErrForm,
		"1":                         api.ErrForm,
		"1,61":                      api.ErrForm,
		"1,61,true,":                api.ErrForm,
		"1,61,true,true":            api.ErrForm,
		",1,61,true":                api.ErrForm,
		"1,,true":                   api.ErrForm,
		"1;61;true":                 api.ErrForm,
		"1, 61, true":               api.ErrForm,
		"1,61,true ":                api.ErrForm,
		"1,61,1":                    api.ErrForm,
		"01,61,true":                api.ErrForm,
		"61,1,true":                 api.ErrForm,
		"true,61,1":                 api.ErrForm,
		"1,ff,true":                 api.ErrType,
		"1," + long + ",true":       api.ErrLong,
		"1,ff":                      api.ErrForm, // how many there are goes ahead of each
		"1," + long:                 api.ErrForm,
		"1,ff,true,true":            api.ErrForm,
		"1,ff," + long:              api.ErrType, // what a part ahead has goes ahead
		"1," + long + ",1":          api.ErrLong,
		"?,ff,true":                 api.ErrForm,
		"?," + long + ",true":       api.ErrForm,
		strings.Repeat("1,", 70000): api.ErrForm,
	} {
		if r, e := row.Read(s, x); len(r) != 0 || e != want {
			t.Errorf("Read(%q) = %v, %v; want none, %v", x, r, e, want)
		}
	}
	for n := range 300 {
		checkRead(t, columns(1, 1, 1, 1, 1, 1, 1, 1), strings.Repeat("1,", n)+"1")
		checkRead(t, columns(1), strings.Repeat("1,", n)+"1")
	}
}

func TestReadOfEachPart(t *testing.T) {
	for _, s := range schemas() {
		some := textOf(s, make([]api.Cell, len(s)))
		for i, column := range s {
			for _, wrong := range wrongTextsOf(column.Kind) {
				parts := partsOf(some)
				parts[i] = wrong
				checkRead(t, s, strings.Join(parts, ","))
				for k := range i {
					for _, other := range wrongTextsOf(s[k].Kind) {
						parts[k] = other
						checkRead(t, s, strings.Join(parts, ","))
					}
				}
			}
			checkRead(t, s, strings.Join(partsOf(some)[i:], ","))
			checkRead(t, s, strings.Join(partsOf(some)[:i], ","))
		}
	}
}

// TestReadOfWhatIsAllButARow cuts and changes the texts of rows.
func TestReadOfWhatIsAllButARow(t *testing.T) {
	for _, s := range schemas() {
		for i, r := range rows(s) {
			x := textOf(s, r)
			if i%7 != 0 || len(x) > 100 {
				continue
			}
			for at := range x {
				checkRead(t, s, x[:at])
				checkRead(t, s, x[at:])
				checkRead(t, s, x[:at]+x[at+1:])
				for _, c := range []string{",", "-", "0", "1", "a", "f", "t", " ", ";", "\x00", "\xff"} {
					checkRead(t, s, x[:at]+c+x[at+1:])
					checkRead(t, s, x[:at]+c+x[at:])
				}
			}
		}
	}
}

func TestWhatIsHandedInAndAnsweredIsApart(t *testing.T) {
	room := columns(api.Int, api.Text, api.Bool)
	s := room[:2]
	a, _ := row.Read(s, "1,61")
	b, _ := row.Read(s, "1,61")
	a[0] = num(7)
	_ = append(a, num(8))
	if !slices.Equal(b, cells(num(1), text("a"))) {
		t.Errorf("one answer follows another: %v", b)
	}
	more := cells(num(1), text("a"), num(9))
	r := more[:2]
	_, _ = row.Text(s, r)
	_, _, _, _ = row.Check(s, r), row.Compare(s, r, r), row.Size(r), row.Same(r, r)
	if !slices.Equal(more, cells(num(1), text("a"), num(9))) || !slices.Equal(room, columns(api.Int, api.Text, api.Bool)) {
		t.Errorf("what was handed in, or stands behind it, became %v and %v", more, room)
	}
}

// P6.3

func TestSize(t *testing.T) {
	for _, c := range []struct {
		r    []api.Cell
		want int
	}{
		{nil, 0},
		{[]api.Cell{}, 0},
		{cells(num(0)), 0},
		{cells(num(math.MaxUint64), num(1)), 0},
		{cells(text("a")), 1},
		{cells(text("ä")), 2}, // bytes count, not runes
		{cells(text("ab"), num(12), text(""), text("\xff\x00c")), 5},
		// What may be no row has a size, too.
		{cells(api.Cell{Num: 9, Text: "ab"}, text(strings.Repeat("x", 300))), 302},
		{slices.Repeat(cells(text("abc")), 70000), 210000},
		{slices.Repeat(cells(text("abc"), num(1)), 9)[:17], 27},
	} {
		if n := row.Size(c.r); n != c.want {
			t.Errorf("Size(%.40v) = %d; want %d", c.r, n, c.want)
		}
	}
	for _, s := range schemas() {
		for _, r := range append(rows(s), wrongRows(s)...) {
			all := ""
			for _, c := range r {
				all += c.Text
			}
			if n := row.Size(r); n != len(all) {
				t.Fatalf("Size(%v) = %d; want %d", r, n, len(all))
			}
		}
	}
}

func TestSame(t *testing.T) {
	r := cells(num(1), text("a"), num(0))
	for _, c := range []struct {
		a, b []api.Cell
		want bool
	}{
		{nil, nil, true},
		{nil, []api.Cell{}, true},
		{[]api.Cell{}, nil, true},
		{nil, cells(num(0)), false},
		{r, slices.Clone(r), true},
		{r, r[:2], false},
		{r, r[1:], false},
		{r, append(slices.Clone(r), api.Cell{}), false},
		{r, cells(num(2), text("a"), num(0)), false},
		{r, cells(num(1), text("b"), num(0)), false},
		{r, cells(num(1), text("a"), num(1)), false},
		{r, cells(num(1), text("a"), text("a")), false},
		{r, cells(text("a"), num(1), num(0)), false},
		{cells(num(1)), cells(num(1 + 1<<32)), false},
		{cells(num(1 << 63)), cells(num(0)), false},
		{cells(text("a")), cells(text("A")), false},
		{cells(text("\xff")), cells(text("\xfe")), false},
		{cells(text("\xff")), cells(text("\ufffd")), false},
		{cells(text("")), cells(text("\x00")), false},
		// Bits count, not floats: of those that are no number each is the same as itself.
		{cells(num(math.MaxUint64)), cells(num(math.MaxUint64)), true},
		// Such as may be no row are the same, too.
		{cells(api.Cell{Num: 9, Text: "ab"}), cells(api.Cell{Num: 9, Text: "ab"}), true},
		{cells(api.Cell{Num: 9, Text: "ab"}), cells(api.Cell{Num: 8, Text: "ab"}), false},
		{cells(api.Cell{Num: 9, Text: "ab"}), cells(api.Cell{Num: 9, Text: "ac"}), false},
		{make([]api.Cell, 70000), make([]api.Cell, 70000), true},
		{make([]api.Cell, 70000), append(make([]api.Cell, 69999), num(1)), false},
	} {
		if row.Same(c.a, c.b) != c.want || row.Same(c.b, c.a) != c.want {
			t.Errorf("Same(%.40v, %.40v) isn't %v", c.a, c.b, c.want)
		}
	}
}

// P6.4

func TestTheOrderIsOne(t *testing.T) {
	for _, s := range schemas() {
		l := rows(s)
		for _, a := range l {
			for _, b := range l {
				n := row.Compare(s, a, b)
				if n < -1 || n > 1 || n != -row.Compare(s, b, a) || (n == 0) != row.Same(a, b) {
					t.Fatalf("Compare(%v, %v, %v) = %d, and the other way about %d", s, a, b, n, row.Compare(s, b, a))
				}
			}
		}
		if len(s) > 3 {
			l = l[:min(len(l), 40)]
		}
		slices.SortStableFunc(l, func(a, b []api.Cell) int { return row.Compare(s, a, b) })
		l = slices.CompactFunc(l, row.Same)
		checkOrder(t, s, l)
	}
}

func TestATextIsReadAsItsRow(t *testing.T) {
	for _, s := range schemas() {
		seen := map[string][]api.Cell{}
		for _, r := range rows(s) {
			x, e := row.Text(s, r)
			if e != api.OK {
				t.Fatalf("Text(%v, %v): %v", s, r, e)
			}
			if got, e := row.Read(s, x); !row.Same(got, r) || e != api.OK {
				t.Fatalf("Read of Text(%v, %v) = %v, %v", s, r, got, e)
			}
			if other, ok := seen[x]; ok && !row.Same(other, r) {
				t.Fatalf("%v and %v have %q", other, r, x)
			}
			seen[x] = r
		}
	}
}

func TestWhatIsReadHasJustThatText(t *testing.T) {
	s := columns(api.Int, api.Text, api.Bool, api.Float, api.Bytes)
	x, read := "-17,c3a4,true,00000000000000ff,-", 0
	for i := range x {
		for c := range 256 {
			other := x[:i] + string([]byte{byte(c)}) + x[i+1:]
			r, e := row.Read(s, other)
			if e != api.OK {
				continue
			}
			read++
			if again, e := row.Text(s, r); again != other || e != api.OK || row.Check(s, r) != api.OK {
				t.Fatalf("Read(%q) = %v, whose text is %q", other, r, again)
			}
		}
	}
	if read < 100 {
		t.Errorf("only %d were read", read)
	}
}
