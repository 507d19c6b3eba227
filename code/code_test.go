package code_test

import (
	"bytes"
	"math"
	"math/big"
	"runtime"
	"slices"
	"strings"
	"testing"

	"homestead/api"
	"homestead/code"
)

// told is Put by the words of P1.1, reckoned in whole numbers of any size.
func told(n int) []byte {
	turned := new(big.Int).Mul(big.NewInt(2), big.NewInt(int64(n)))
	if n < 0 {
		turned.Neg(turned)
		turned.Sub(turned, big.NewInt(1))
	}
	var b []byte
	for {
		group := byte(new(big.Int).And(turned, big.NewInt(127)).Int64())
		turned.Rsh(turned, 7)
		if turned.Sign() == 0 {
			return append(b, group)
		}
		b = append(b, group+128)
	}
}

// numbers are those near 0, near each power of two on both sides, and the least and the greatest.
func numbers() []int {
	l := []int{math.MinInt, math.MinInt + 1, math.MaxInt, math.MaxInt - 1}
	for n := -20000; n <= 20000; n++ {
		l = append(l, n)
	}
	for i := range 63 {
		for d := -2; d <= 2; d++ {
			l = append(l, 1<<i+d, -1<<i+d)
		}
	}
	return l
}

// tails are what may stand behind what was put.
func tails() [][]byte {
	return [][]byte{nil, {0}, {1}, {7}, {127}, {128}, {255}, {128, 1}, bytes.Repeat([]byte{255}, 12)}
}

// texts are empty, of signs of several bytes, of bytes that are no signs, and of lengths beside those that take one byte more.
func texts() []string {
	l := []string{"", "a", "ab", "it's", "h\u00e9\u4e16", "\x00", "\x80\xff\x80", "\n\x7f"}
	for _, n := range []int{63, 64, 65, api.MaxText, 8191, 8192} {
		l = append(l, strings.Repeat("x", n))
	}
	return l
}

// rows are lists of numbers, as texts are.
func rows() [][]int {
	l := [][]int{nil, {}, {0}, {1, -1}, {0, -1, 1, 63, -64, 64}, {math.MinInt, math.MaxInt}, {math.MaxInt, 0, math.MinInt}}
	for _, n := range []int{63, 64, 65, 8191, 8192} {
		row := make([]int, n)
		for i := range row {
			row[i] = (i - n/2) * i * i
		}
		l = append(l, row)
	}
	return l
}

// wrong are bytes with which no number begins.
func wrong() [][]byte {
	return [][]byte{
		nil,
		{},
		{128},
		{255, 255},
		bytes.Repeat([]byte{128}, 9),
		bytes.Repeat([]byte{255}, 10),
		bytes.Repeat([]byte{255}, 40),
		{128, 0},
		{129, 0},
		{254, 128, 0},
		append(bytes.Repeat([]byte{128}, 9), 0),
		append(bytes.Repeat([]byte{255}, 9), 0),
		append(bytes.Repeat([]byte{255}, 9), 2),
		append(bytes.Repeat([]byte{255}, 9), 3),
		append(bytes.Repeat([]byte{255}, 9), 127),
		append(bytes.Repeat([]byte{255}, 9), 129, 0),
		append(bytes.Repeat([]byte{128}, 10), 1),
		append(bytes.Repeat([]byte{128}, 63), 1),
	}
}

func wantNoNumber(t *testing.T, promise string, b []byte) {
	t.Helper()
	if n, size, err := code.Get(b); n != 0 || size != 0 || err != api.ErrForm {
		t.Errorf("%s: Get(%v) = %d, %d, %d, want 0, 0, ErrForm", promise, b, n, size, err)
	}
}

func wantNoText(t *testing.T, promise string, b []byte) {
	t.Helper()
	if s, size, err := code.GetText(b); s != "" || size != 0 || err != api.ErrForm {
		t.Errorf("%s: GetText(%v) = %q, %d, %d, want none, 0, ErrForm", promise, b, s, size, err)
	}
}

func wantNoNums(t *testing.T, promise string, b []byte) {
	t.Helper()
	if l, size, err := code.GetNums(b); len(l) != 0 || size != 0 || err != api.ErrForm {
		t.Errorf("%s: GetNums(%v) = %v, %d, %d, want none, 0, ErrForm", promise, b, l, size, err)
	}
}

func TestP1_1PutExamples(t *testing.T) {
	for _, x := range []struct {
		n int
		b []byte
	}{
		{0, []byte{0}},
		{-1, []byte{1}},
		{1, []byte{2}},
		{63, []byte{126}},
		{-64, []byte{127}},
		{64, []byte{128, 1}},
		{-65, []byte{129, 1}},
		{8191, []byte{254, 127}},
		{-8192, []byte{255, 127}},
		{8192, []byte{128, 128, 1}},
		{math.MaxInt, []byte{254, 255, 255, 255, 255, 255, 255, 255, 255, 1}},
		{math.MinInt, []byte{255, 255, 255, 255, 255, 255, 255, 255, 255, 1}},
	} {
		if b := code.Put(x.n); !bytes.Equal(b, x.b) {
			t.Errorf("P1.1: Put(%d) = %v, want %v", x.n, b, x.b)
		}
		if n, size, err := code.Get(x.b); n != x.n || size != len(x.b) || err != api.OK {
			t.Errorf("P1.1: Get(%v) = %d, %d, %d, want %d, %d, OK", x.b, n, size, err, x.n, len(x.b))
		}
	}
}

func TestP1_1PutByItsWords(t *testing.T) {
	for _, n := range numbers() {
		if b := code.Put(n); !bytes.Equal(b, told(n)) {
			t.Fatalf("P1.1: Put(%d) = %v, want %v", n, b, told(n))
		}
	}
}

func TestP1_1GetRefuses(t *testing.T) {
	for _, b := range wrong() {
		wantNoNumber(t, "P1.1", b)
	}
}

// Each number may be written longer by groups of noughts, but Put doesn't tell it so.
func TestP1_1GetRefusesGroupsOfNoughts(t *testing.T) {
	for _, n := range numbers() {
		b := told(n)
		for range 3 {
			b[len(b)-1] |= 128
			b = append(b, 0)
			wantNoNumber(t, "P1.1", b)
		}
	}
}

// Of all bytes that are short: those that are got are just those that the words of P1.1 tell.
func TestP1_1GetOfAllShortBytes(t *testing.T) {
	known := map[string]int{}
	for n := -8192; n <= 8191; n++ { // all numbers of one byte or two
		known[string(told(n))] = n
	}
	for i := range 1 << 16 {
		b := []byte{byte(i), byte(i >> 8)}
		size := 1
		n, ok := known[string(b[:1])]
		if !ok {
			size = 2
			n, ok = known[string(b)]
		}
		if !ok {
			wantNoNumber(t, "P1.1", b)
			continue
		}
		if got, many, err := code.Get(b); got != n || many != size || err != api.OK {
			t.Fatalf("P1.1: Get(%v) = %d, %d, %d, want %d, %d, OK", b, got, many, err, n, size)
		}
	}
}

func TestP1_2TextExamples(t *testing.T) {
	for _, x := range []struct {
		s string
		b []byte
	}{
		{"", []byte{0}},
		{"ab", []byte{4, 97, 98}},
		{"\u00e9", []byte{4, 0xc3, 0xa9}},
		{"\xff\x00", []byte{4, 255, 0}},
		{strings.Repeat("x", 64), append([]byte{128, 1}, strings.Repeat("x", 64)...)},
	} {
		if b := code.Text(x.s); !bytes.Equal(b, x.b) {
			t.Errorf("P1.2: Text(%q) = %v, want %v", x.s, b, x.b)
		}
		if s, size, err := code.GetText(x.b); s != x.s || size != len(x.b) || err != api.OK {
			t.Errorf("P1.2: GetText(%v) = %q, %d, %d", x.b, s, size, err)
		}
	}
}

func TestP1_2TextByItsWords(t *testing.T) {
	for _, s := range texts() {
		if b := code.Text(s); !bytes.Equal(b, append(told(len(s)), s...)) {
			t.Errorf("P1.2: Text(%q) = %v", s, b)
		}
	}
}

func TestP1_2GetTextRefuses(t *testing.T) {
	for _, b := range wrong() {
		wantNoText(t, "P1.2", b)
	}
	for _, size := range []int{1, 2, 63, 64, 1 << 31, 1 << 62, math.MaxInt - 1, math.MaxInt} {
		wantNoText(t, "P1.2", told(size)) // nothing of it is there
	}
	wantNoText(t, "P1.2", []byte{4, 97})
	wantNoText(t, "P1.2", append(told(64), strings.Repeat("x", 63)...))
	for _, size := range []int{math.MaxInt, math.MaxInt - 8, -1, -2, -64, -65, math.MinInt} {
		wantNoText(t, "P1.2", append(told(size), "abcdefghijklmnop"...))
	}
}

func TestP1_3NumsExamples(t *testing.T) {
	for _, x := range []struct {
		l []int
		b []byte
	}{
		{nil, []byte{0}},
		{[]int{1, -1}, []byte{4, 2, 1}},
		{[]int{1, -1, 64}, []byte{6, 2, 1, 128, 1}},
		{[]int{64, 0, -65}, []byte{6, 128, 1, 0, 129, 1}},
	} {
		if b := code.Nums(x.l); !bytes.Equal(b, x.b) {
			t.Errorf("P1.3: Nums(%v) = %v, want %v", x.l, b, x.b)
		}
		if l, size, err := code.GetNums(x.b); !slices.Equal(l, x.l) || size != len(x.b) || err != api.OK {
			t.Errorf("P1.3: GetNums(%v) = %v, %d, %d", x.b, l, size, err)
		}
	}
}

func TestP1_3NumsByItsWords(t *testing.T) {
	for _, l := range rows() {
		want := told(len(l))
		for _, n := range l {
			want = append(want, told(n)...)
		}
		if b := code.Nums(l); !bytes.Equal(b, want) {
			t.Errorf("P1.3: Nums(%v) = %v, want %v", l, b, want)
		}
	}
}

func TestP1_3GetNumsRefuses(t *testing.T) {
	for _, b := range wrong() {
		wantNoNums(t, "P1.3", b)
		wantNoNums(t, "P1.3", append([]byte{2}, b...))    // the one number of a row
		wantNoNums(t, "P1.3", append([]byte{4, 0}, b...)) // its second number
		if len(b) > 0 && b[len(b)-1] < 128 {              // its first number, with another one behind
			wantNoNums(t, "P1.3", append(append([]byte{4}, b...), 0))
		}
	}
	for _, many := range []int{1, 2, 63, 64, 1 << 31, 1 << 62, math.MaxInt} {
		wantNoNums(t, "P1.3", told(many))
	}
	wantNoNums(t, "P1.3", []byte{4, 2})
	wantNoNums(t, "P1.3", append(told(64), make([]byte, 63)...))
	for _, many := range []int{math.MaxInt, -1, -2, -64, -65, math.MinInt} {
		wantNoNums(t, "P1.3", append(told(many), make([]byte, 80)...))
	}
}

// taken is how much memory a call takes.
func taken(call func()) uint64 {
	var was, is runtime.MemStats
	runtime.ReadMemStats(&was)
	call()
	runtime.ReadMemStats(&is)
	return is.TotalAlloc - was.TotalAlloc
}

func TestP1_2GetTextRefusesWithoutMemory(t *testing.T) {
	const there = 1 << 20
	for _, size := range []int{there + 1, 1 << 40, math.MaxInt} {
		b := append(told(size), make([]byte, there)...)
		if m := taken(func() { wantNoText(t, "P1.2", b) }); m > uint64(len(b)) {
			t.Errorf("P1.2: %d bytes of memory for %d bytes that tell %d", m, len(b), size)
		}
	}
}

func TestP1_3GetNumsRefusesWithoutMemory(t *testing.T) {
	const there = 1 << 20
	for _, many := range []int{there + 1, 1 << 40, math.MaxInt} {
		b := append(told(many), make([]byte, there)...)
		if m := taken(func() { wantNoNums(t, "P1.3", b) }); m > uint64(len(b)) {
			t.Errorf("P1.3: %d bytes of memory for %d bytes that tell %d", m, len(b), many)
		}
	}
	b := append(told(there), make([]byte, there)...) // as many bytes as numbers, but the last one breaks off
	b[len(b)-1] = 128
	if m := taken(func() { wantNoNums(t, "P1.3", b) }); m > uint64(len(b)) {
		t.Errorf("P1.3: %d bytes of memory for %d bytes, the last of which breaks off", m, len(b))
	}
}

func TestP1_4NumbersAreGotAsPut(t *testing.T) {
	for _, n := range numbers() {
		b := code.Put(n)
		for _, tail := range tails() {
			if got, size, err := code.Get(slices.Concat(b, tail)); got != n || size != len(b) || err != api.OK {
				t.Fatalf("P1.4: Get(%v %v) = %d, %d, %d, want %d, %d, OK", b, tail, got, size, err, n, len(b))
			}
		}
		for i := range b {
			wantNoNumber(t, "P1.4", b[:i])
		}
	}
}

func TestP1_4TextsAreGotAsPut(t *testing.T) {
	for _, s := range texts() {
		b := code.Text(s)
		for _, tail := range tails() {
			if got, size, err := code.GetText(slices.Concat(b, tail)); got != s || size != len(b) || err != api.OK {
				t.Errorf("P1.4: GetText(%v %v) = %q, %d, %d", b, tail, got, size, err)
			}
		}
		for i := range b {
			wantNoText(t, "P1.4", b[:i])
		}
	}
}

func TestP1_4NumsAreGotAsPut(t *testing.T) {
	for _, l := range rows() {
		b := code.Nums(l)
		for _, tail := range tails() {
			if got, size, err := code.GetNums(slices.Concat(b, tail)); !slices.Equal(got, l) || size != len(b) || err != api.OK {
				t.Errorf("P1.4: GetNums(%v %v) = %v, %d, %d", b, tail, got, size, err)
			}
		}
		for i := 0; i < len(b); i += 1 + len(b)/300 { // of long ones not each, for time's sake
			wantNoNums(t, "P1.4", b[:i])
		}
		wantNoNums(t, "P1.4", b[:len(b)-1])
	}
}

// steps are bytes at the edges of what a number's byte may be.
func steps() []byte {
	return []byte{0, 1, 2, 3, 4, 126, 127, 128, 129, 254, 255}
}

// Of all short lists of such bytes: what is got is put as the bytes that it was got of. (None of them panics: R1.)
func TestP1_4WhatIsGotWasPut(t *testing.T) {
	lists := [][]byte{{}}
	for i := 0; i < len(lists); i++ {
		b := lists[i]
		if n, size, err := code.Get(b); err == api.OK && !bytes.Equal(code.Put(n), b[:size]) {
			t.Errorf("P1.4: Get(%v) = %d, %d", b, n, size)
		} else if err != api.OK {
			wantNoNumber(t, "P1.4", b)
		}
		if s, size, err := code.GetText(b); err == api.OK && !bytes.Equal(code.Text(s), b[:size]) {
			t.Errorf("P1.4: GetText(%v) = %q, %d", b, s, size)
		} else if err != api.OK {
			wantNoText(t, "P1.4", b)
		}
		if l, size, err := code.GetNums(b); err == api.OK && !bytes.Equal(code.Nums(l), b[:size]) {
			t.Errorf("P1.4: GetNums(%v) = %v, %d", b, l, size)
		} else if err != api.OK {
			wantNoNums(t, "P1.4", b)
		}
		if len(b) < 4 {
			for _, x := range steps() {
				lists = append(lists, append(slices.Clip(b), x))
			}
		}
	}
}

// What is handed in stays as it is, and what comes out is turned by nobody (R3).
func TestR3NothingIsShared(t *testing.T) {
	l := []int{1, 2, 3, 4}
	b := code.Nums(l[:2:4])
	if !slices.Equal(l, []int{1, 2, 3, 4}) || !bytes.Equal(b, []byte{4, 2, 4}) {
		t.Error("R3: Nums:", l, b)
	}
	in := append(code.Text("ab"), 9)
	s, _, _ := code.GetText(in)
	in[1] = 'x'
	if s != "ab" || in[3] != 9 {
		t.Error("R3: GetText:", s, in)
	}
	in = append(code.Nums([]int{5, 6}), 9)
	first, _, _ := code.GetNums(in)
	first[0] = 7
	second, _, _ := code.GetNums(in)
	if !slices.Equal(second, []int{5, 6}) || !bytes.Equal(in, []byte{4, 10, 12, 9}) {
		t.Error("R3: GetNums:", second, in)
	}
	one := code.Put(64)
	one[0] = 0
	if two := code.Put(64); !bytes.Equal(two, []byte{128, 1}) {
		t.Error("R3: Put:", two)
	}
}
