package row_test

import (
	"bytes"
	"math"
	"runtime"
	"slices"
	"strings"
	"testing"

	"homestead/api"
	"homestead/code"
	"homestead/row"
	"homestead/value"
)

func num(n int) api.Value { return api.Value{Kind: api.VInt, N: n} }

func str(s string) api.Value { return api.Value{Kind: api.VText, S: s} }

// rights are values that may be, in their order.
func rights() []api.Value {
	return []api.Value{
		{}, num(-api.MaxNum), num(-65), num(-1), num(0), num(1), num(64), num(api.MaxNum),
		str(""), str("\x00"), str("a"), str("a'"), str("ab"), str(strings.Repeat("b", api.MaxText)), str("\xff"),
	}
}

// wrongs are values that may not be.
func wrongs() []api.Value {
	return []api.Value{
		{N: 1}, {S: "a"}, num(api.MaxNum + 1), num(-api.MaxNum - 1), num(math.MinInt), {Kind: api.VInt, S: "a"},
		{Kind: api.VText, N: 1}, str(strings.Repeat("x", api.MaxText+1)),
		{Kind: 3}, {Kind: -1}, {Kind: 7, N: 1, S: "a"}, {Kind: 256}, {Kind: 257, N: 1}, {Kind: math.MinInt},
	}
}

// edges are numbers near those of kinds, and far from them.
func edges() []int { return []int{math.MinInt, -256, -1, 0, 1, 2, 3, 4, 5, 6, 256, 257, math.MaxInt} }

// columns are those of all kinds and types, such as may be and such as may not.
func columns() []api.Column {
	var l []api.Column
	for _, kind := range edges() {
		for _, typ := range edges() {
			l = append(l, api.Column{Name: "a", Kind: kind, Type: typ}, api.Column{Kind: kind, Type: typ, Null: true})
		}
	}
	return l
}

// kind is Kind by the words of P3.1.
func kind(c api.Column) int {
	kinds := map[int]int{api.CReg: c.Type, api.CMulti: c.Type, api.CCount: api.VInt, api.CSet: api.VInt, api.CText: api.VText}
	return kinds[c.Kind] // of any other one 0, VNull
}

// fault is the error of one value by the words of P3.1.
func fault(c api.Column, v api.Value) api.Errno {
	written := c.Kind == api.CReg || c.Kind == api.CMulti
	switch {
	case !value.Right(v):
		return api.ErrArg
	case v.Kind == api.VNull && written && !c.Null:
		return api.ErrNull
	case v.Kind != api.VNull && v.Kind != kind(c):
		return api.ErrType
	}
	return api.OK
}

func wantRight(t *testing.T, cols []api.Column, r api.Row, want api.Errno) {
	t.Helper()
	if err := row.Right(cols, r); err != want {
		t.Errorf("P3.1: Right(%v, %v) = %d, want %d", cols, r, err, want)
	}
}

func TestP3_1KindExamples(t *testing.T) {
	for _, x := range []struct {
		kind, typ, want int
	}{
		{api.CReg, api.VInt, api.VInt}, {api.CReg, api.VText, api.VText}, {api.CReg, api.VNull, api.VNull}, {api.CReg, 9, 9},
		{api.CMulti, api.VInt, api.VInt}, {api.CMulti, api.VText, api.VText}, {api.CMulti, -3, -3},
		{api.CCount, api.VInt, api.VInt}, {api.CCount, api.VText, api.VInt}, {api.CCount, api.VNull, api.VInt},
		{api.CSet, api.VInt, api.VInt}, {api.CSet, api.VText, api.VInt}, {api.CSet, 9, api.VInt},
		{api.CText, api.VText, api.VText}, {api.CText, api.VInt, api.VText}, {api.CText, api.VNull, api.VText},
		{5, api.VInt, api.VNull}, {-1, api.VText, api.VNull}, {256, api.VInt, api.VNull}, {math.MinInt, 9, api.VNull},
	} {
		if got := row.Kind(api.Column{Kind: x.kind, Type: x.typ}); got != x.want {
			t.Errorf("P3.1: Kind of the kind %d, of the type %d = %d, want %d", x.kind, x.typ, got, x.want)
		}
	}
}

func TestP3_1KindByItsWords(t *testing.T) {
	for _, c := range columns() {
		if got := row.Kind(c); got != kind(c) {
			t.Errorf("P3.1: Kind(%+v) = %d, want %d", c, got, kind(c))
		}
	}
}

func TestP3_1RightOfOneValue(t *testing.T) {
	for _, c := range columns() {
		for _, v := range slices.Concat(rights(), wrongs()) {
			wantRight(t, []api.Column{c}, api.Row{v}, fault(c, v))
		}
	}
}

func TestP3_1RightOfManyOrFewValues(t *testing.T) {
	wantRight(t, nil, nil, api.OK)
	wantRight(t, []api.Column{}, nil, api.OK)
	wantRight(t, nil, api.Row{}, api.OK)
	c := api.Column{Type: api.VInt}
	for many := range 5 {
		for values := range 5 {
			want := api.ErrArg
			if many == values {
				want = api.OK
			}
			wantRight(t, slices.Repeat([]api.Column{c}, many), slices.Repeat(api.Row{num(1)}, values), want)
		}
	}
	wantRight(t, slices.Repeat([]api.Column{c}, 40), slices.Repeat(api.Row{num(1)}, 40), api.OK) // MaxCols plays no part here
}

// How many values there are goes ahead of what is wrong with one.
func TestP3_1RightTellsHowManyFirst(t *testing.T) {
	c := api.Column{Type: api.VInt}
	for _, v := range []api.Value{{}, str("a"), num(api.MaxNum + 1)} {
		wantRight(t, []api.Column{c}, api.Row{v, num(1)}, api.ErrArg)
		wantRight(t, []api.Column{c, c}, api.Row{v}, api.ErrArg)
	}
}

// Of two values that have an error, the first one's is told.
func TestP3_1RightTellsTheFirstValue(t *testing.T) {
	cols := []api.Column{{Type: api.VInt}, {Kind: api.CMulti, Type: api.VText}, {Kind: api.CReg, Type: api.VText, Null: true}, {Kind: api.CSet}, {Kind: api.CText}}
	values := []api.Value{{}, num(1), str("a"), num(api.MaxNum + 1), {N: 1}}
	rows := []api.Row{nil}
	for i := 0; i < len(rows); i++ {
		r := rows[i]
		if len(r) < len(cols) {
			for _, v := range values {
				rows = append(rows, append(slices.Clip(r), v))
			}
			continue
		}
		want := api.OK
		for k := len(r) - 1; k >= 0; k-- {
			if err := fault(cols[k], r[k]); err != api.OK {
				want = err
			}
		}
		wantRight(t, cols, r, want)
	}
}

// rising are rows in their order: short ones ahead of what goes on, values of all kinds, such as may be and such as may not.
func rising() []api.Row {
	values := []api.Value{{Kind: -1}, {}, {N: 1}, num(math.MinInt), num(-1), num(0), {Kind: api.VInt, S: "a"}, num(1), str(""), str("a"), str("ab"), {Kind: api.VText, N: 1}, {Kind: 3}}
	l := []api.Row{nil}
	for _, a := range values {
		l = append(l, api.Row{a})
		for _, b := range values {
			l = append(l, api.Row{a, b})
			if b.N == 1 {
				l = append(l, api.Row{a, b, {}}, api.Row{a, b, {}, num(-5)}, api.Row{a, b, num(0)})
			}
		}
	}
	return l
}

func TestP3_2Examples(t *testing.T) {
	for _, x := range [][2]api.Row{
		{{num(1), num(2)}, {num(1), num(3)}},
		{{num(1)}, {num(1), num(2)}},
		{{{}}, {num(0)}},
		{nil, {{}}},
		{{num(9)}, {str("")}},
		{{num(1), num(9), num(9)}, {num(2)}},
		{{num(1), str("b")}, {num(2), str("a")}},
		{{str("a"), num(1)}, {str("ab")}},
	} {
		if !row.Less(x[0], x[1]) || row.Less(x[1], x[0]) || row.Same(x[0], x[1]) || row.Same(x[1], x[0]) {
			t.Errorf("P3.2: %v is not ahead of %v alone", x[0], x[1])
		}
	}
	if !row.Same(nil, api.Row{}) || row.Less(nil, api.Row{}) || row.Less(api.Row{}, nil) {
		t.Error("P3.2: rows without values are not the same")
	}
}

func TestP3_2RowsRise(t *testing.T) {
	l := rising()
	for i, a := range l {
		for k, b := range l {
			other := slices.Clone(b)
			if row.Less(a, other) != (i < k) || row.Same(a, other) != (i == k) {
				t.Fatalf("P3.2: Less(%v, %v) = %t, Same = %t", a, b, row.Less(a, b), row.Same(a, b))
			}
		}
	}
}

// The place at which two long rows are unlike tells, wherever it is, and what stands behind doesn't.
func TestP3_2EachPlaceTells(t *testing.T) {
	const many = 20
	for i := range many {
		a, b := slices.Repeat(api.Row{num(5)}, many), slices.Repeat(api.Row{num(5)}, many)
		b[i] = num(6)
		for k := i + 1; k < many; k++ {
			b[k] = num(k % 9)
		}
		if !row.Less(a, b) || row.Less(b, a) || row.Same(a, b) || row.Same(b, a) {
			t.Errorf("P3.2: the place %d doesn't tell", i)
		}
		if short := a[:i]; !row.Less(short, a) || row.Less(a, short) || row.Same(short, a) || row.Same(a, short) {
			t.Errorf("P3.2: a row of %d values is not ahead of what goes on", i)
		}
	}
}

func TestP3_3BytesExamples(t *testing.T) {
	for _, x := range []struct {
		r api.Row
		b []byte
	}{
		{nil, []byte{0}},
		{api.Row{}, []byte{0}},
		{api.Row{{}}, []byte{2, 0}},
		{api.Row{num(1)}, []byte{2, 1, 2}},
		{api.Row{num(-1), {}, str("ab")}, []byte{6, 1, 1, 0, 2, 4, 97, 98}},
		{api.Row{num(64), num(0)}, []byte{4, 1, 128, 1, 1, 0}},
		{api.Row{str(""), str("")}, []byte{4, 2, 0, 2, 0}},
		{slices.Repeat(api.Row{{}}, 64), append([]byte{128, 1}, make([]byte, 64)...)},
	} {
		if b := row.Bytes(x.r); !bytes.Equal(b, x.b) {
			t.Errorf("P3.3: Bytes(%v) = %v, want %v", x.r, b, x.b)
		}
		if r, size, err := row.Get(x.b); !slices.Equal(r, x.r) || size != len(x.b) || err != api.OK {
			t.Errorf("P3.3: Get(%v) = %v, %d, %d, want %v, %d, OK", x.b, r, size, err, x.r, len(x.b))
		}
	}
}

func TestP3_3BytesByTheirWords(t *testing.T) {
	for _, r := range append(rising(), rights(), wrongs(), slices.Repeat(api.Row{num(-64), str("ab")}, 100)) {
		want := code.Put(len(r))
		for _, v := range r {
			want = append(want, value.Bytes(v)...)
		}
		if b := row.Bytes(r); !bytes.Equal(b, want) {
			t.Errorf("P3.3: Bytes(%v) = %v, want %v", r, b, want)
		}
	}
}

func wantNoGet(t *testing.T, promise string, b []byte) {
	t.Helper()
	if r, size, err := row.Get(b); len(r) != 0 || size != 0 || err != api.ErrForm {
		t.Errorf("%s: Get(%v) = %v, %d, %d, want none, 0, ErrForm", promise, b, r, size, err)
	}
}

func TestP3_3GetRefusesHowMany(t *testing.T) {
	for _, b := range [][]byte{nil, {}, {128}, {128, 0}, {255, 255}, bytes.Repeat([]byte{255}, 12), {129, 0, 0, 0}} {
		wantNoGet(t, "P3.3", b)
	}
	for _, many := range []int{-1, -2, -64, -65, math.MinInt, 17, 64, 1 << 31, 1 << 62, math.MaxInt} {
		wantNoGet(t, "P3.3", code.Put(many))
		wantNoGet(t, "P3.3", append(code.Put(many), make([]byte, 16)...))
	}
}

// A value that may not be is refused, wherever it stands in a row.
func TestP3_3GetRefusesValues(t *testing.T) {
	l := [][]byte{{3}, {255}, {1, 128, 0}, {2, 1, 97}, {2, 132, 0, 97, 98}}
	for _, v := range []api.Value{num(api.MaxNum + 1), num(-api.MaxNum - 1), num(math.MinInt), str(strings.Repeat("x", api.MaxText+1)), {Kind: 3}} {
		l = append(l, value.Bytes(v))
	}
	for _, wrong := range l {
		wantNoGet(t, "P3.3", append([]byte{2}, wrong...))
		wantNoGet(t, "P3.3", append([]byte{4, 1, 2}, wrong...))
		wantNoGet(t, "P3.3", slices.Concat([]byte{6, 1, 2}, wrong, []byte{0, 0, 0}))
		if r, size, err := row.Get(append([]byte{2, 0}, wrong...)); !slices.Equal(r, api.Row{{}}) || size != 2 || err != api.OK {
			t.Errorf("P3.3: what stands behind a row plays a part: %v, %v, %d, %d", wrong, r, size, err)
		}
	}
}

// taken is how much memory a call takes.
func taken(call func()) uint64 {
	var was, is runtime.MemStats
	runtime.ReadMemStats(&was)
	call()
	runtime.ReadMemStats(&is)
	return is.TotalAlloc - was.TotalAlloc
}

func TestP3_3GetRefusesWithoutMemory(t *testing.T) {
	const there = 1 << 20
	for _, many := range []int{there + 1, 1 << 40, math.MaxInt} {
		b := append(code.Put(many), make([]byte, there)...)
		if m := taken(func() { wantNoGet(t, "P3.3", b) }); m > uint64(len(b)) {
			t.Errorf("P3.3: %d bytes of memory for %d bytes that tell %d", m, len(b), many)
		}
	}
	b := append(code.Put(there), make([]byte, there)...) // as many bytes as values, but the last one may not be
	b[len(b)-1] = 3
	if m := taken(func() { wantNoGet(t, "P3.3", b) }); m > uint64(len(b)) {
		t.Errorf("P3.3: %d bytes of memory for %d bytes, the last of which is no value", m, len(b))
	}
}

// rightRows are rows of values that may be, no two alike: of up to two of them all, and longer ones.
func rightRows() []api.Row {
	l := []api.Row{nil}
	for _, a := range rights() {
		l = append(l, api.Row{a})
		for _, b := range rights() {
			l = append(l, api.Row{a, b}, api.Row{a, {}, b}, api.Row{{}, {}, a, b})
		}
	}
	for _, many := range []int{16, 63, 64, 65, 8191, 8192} {
		l = append(l, slices.Repeat(api.Row{{}, num(-5)}, many)[:many])
	}
	return l
}

// tails are what may stand behind a row's bytes.
func tails() [][]byte {
	return [][]byte{nil, {0}, {1}, {2}, {3}, {7, 7}, {127}, {128}, {255}, {1, 2}, bytes.Repeat([]byte{255}, 12)}
}

func TestP3_4RowsAreGotAsPut(t *testing.T) {
	for _, r := range rightRows() {
		b := row.Bytes(r)
		for _, tail := range tails() {
			if got, size, err := row.Get(slices.Concat(b, tail)); !slices.Equal(got, r) || size != len(b) || err != api.OK {
				t.Fatalf("P3.4: Get(%v %v) = %v, %d, %d, want %v, %d, OK", b, tail, got, size, err, r, len(b))
			}
		}
		for i := range min(len(b), 500) {
			wantNoGet(t, "P3.4", b[:i])
		}
		wantNoGet(t, "P3.4", b[:len(b)-1])
	}
}

func TestP3_4UnlikeRowsHaveUnlikeBytes(t *testing.T) {
	known := map[string]api.Row{}
	for _, r := range rightRows() {
		b := string(row.Bytes(r))
		if other, ok := known[b]; ok {
			t.Errorf("P3.4: %v and %v have the bytes %q", r, other, b)
		}
		known[b] = r
	}
}

func TestP3_4OfTwoUnlikeOneIsLess(t *testing.T) {
	l := append(rising(), rightRows()...)
	for _, a := range l {
		for _, b := range l {
			less, more, same := row.Less(a, b), row.Less(b, a), row.Same(a, b)
			if same != slices.Equal(a, b) || same && (less || more) || !same && less == more {
				t.Fatalf("P3.4: of %v and %v: %t, %t, %t", a, b, less, more, same)
			}
		}
	}
}

func TestP3_4LessGoesOn(t *testing.T) {
	values := []api.Value{{}, num(-1), num(1), str(""), str("a")}
	l := []api.Row{nil}
	for i := 0; i < len(l); i++ {
		if len(l[i]) < 3 {
			for _, v := range values {
				l = append(l, append(slices.Clip(l[i]), v))
			}
		}
	}
	for _, a := range l {
		for _, b := range l {
			if !row.Less(a, b) {
				continue
			}
			for _, c := range l {
				if row.Less(b, c) && !row.Less(a, c) {
					t.Fatalf("P3.4: %v, %v, %v", a, b, c)
				}
			}
		}
	}
}

// Of all short lists of bytes at the edges of what those of a row may be: what is got has the bytes that it was got of, and others are refused. (None of them panics: R1.)
func TestP3_4WhatIsGotWasPut(t *testing.T) {
	lists := [][]byte{{}}
	for i := 0; i < len(lists); i++ {
		b := lists[i]
		r, size, err := row.Get(b)
		if err != api.OK {
			wantNoGet(t, "P3.4", b)
		} else if !bytes.Equal(row.Bytes(r), b[:size]) || slices.ContainsFunc(r, func(v api.Value) bool { return !value.Right(v) }) {
			t.Errorf("P3.4: Get(%v) = %v, %d", b, r, size)
		}
		if len(b) < 5 {
			for _, x := range []byte{0, 1, 2, 3, 4, 6, 97, 128, 255} {
				lists = append(lists, append(slices.Clip(b), x))
			}
		}
	}
}

// What is handed in stays as it is, and what comes out is turned by nobody (R3).
func TestR3NothingIsShared(t *testing.T) {
	cols := []api.Column{{Type: api.VInt}, {Kind: api.CText}, {Kind: api.CSet}}
	r := api.Row{num(64), str("ab"), {}}
	want := slices.Clone(r)
	row.Right(cols[:2:3], r[:2:3])
	row.Less(r[:2:3], r)
	row.Same(r[:1:3], r[:2:3])
	b := row.Bytes(r[:2:3])
	if !slices.Equal(r, want) || cols[2] != (api.Column{Kind: api.CSet}) {
		t.Error("R3: what was handed in was turned:", r, cols)
	}
	in := append(b, 9)
	first, _, _ := row.Get(in)
	first[0] = num(5)
	second, _, _ := row.Get(in)
	for i := range in {
		in[i]++
	}
	if !slices.Equal(second, want[:2]) {
		t.Error("R3: what was got was turned:", second)
	}
	if again := row.Bytes(want[:2]); !bytes.Equal(again, []byte{4, 1, 128, 1, 2, 4, 97, 98}) {
		t.Error("R3: Bytes were turned:", again)
	}
}
