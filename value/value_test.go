package value_test

import (
	"bytes"
	"math"
	"math/big"
	"slices"
	"strings"
	"testing"

	"homestead/api"
	"homestead/code"
	"homestead/value"
)

func num(n int) api.Value { return api.Value{Kind: api.VInt, N: n} }

func str(s string) api.Value { return api.Value{Kind: api.VText, S: s} }

// rights are values that may be, in their order.
func rights() []api.Value {
	l := []api.Value{{}}
	for _, n := range []int{-api.MaxNum, -api.MaxNum + 1, -1 << 20, -8193, -65, -64, -5, -1, 0, 1, 9, 10, 63, 64, 8192, 1 << 20, api.MaxNum - 1, api.MaxNum} {
		l = append(l, num(n))
	}
	for _, s := range []string{"", "\x00", "\x00\x00", "\n", "'", "''", "'''", "'a'", "-1", "0", "?", "A", "a", "a'", "a'b", "ab", "b", "it's", "null"} {
		l = append(l, str(s))
	}
	for n := 62; n <= api.MaxText; n++ {
		l = append(l, str(strings.Repeat("x", n)))
	}
	return append(l, str("\x7f"), str("\x80"), str("h\u00e9"[1:]), str("\u4e16"), str("\xff"), str("\xff"+strings.Repeat("'", api.MaxText-1)))
}

// wrongs are values that may not be.
func wrongs() []api.Value {
	l := []api.Value{
		{N: 1}, {N: -1}, {S: "a"}, {S: "\x00"}, {N: 1, S: "a"}, {N: math.MinInt},
		num(api.MaxNum + 1), num(-api.MaxNum - 1), num(math.MaxInt), num(math.MinInt),
		{Kind: api.VInt, S: "a"}, {Kind: api.VInt, N: 1, S: "1"}, {Kind: api.VInt, N: 1, S: " "},
		str(strings.Repeat("x", api.MaxText+1)), str(strings.Repeat("'", api.MaxText+1)), str(strings.Repeat("x", 1<<16)),
		{Kind: api.VText, N: 1}, {Kind: api.VText, N: -1, S: "a"}, {Kind: api.VText, N: math.MinInt, S: "a"},
	}
	for _, kind := range []int{3, 4, -1, -2, 255, 256, 257, 258, -255, -254, -256, math.MinInt, math.MaxInt} {
		l = append(l, api.Value{Kind: kind}, api.Value{Kind: kind, N: 1}, api.Value{Kind: kind, S: "a"})
	}
	return l
}

// all are those that may be, and those that may not.
func all() []api.Value { return append(rights(), wrongs()...) }

func TestP2_1Right(t *testing.T) {
	for _, v := range rights() {
		if !value.Right(v) {
			t.Errorf("P2.1: %#v may not be", v)
		}
	}
	for _, v := range wrongs() {
		if value.Right(v) {
			t.Errorf("P2.1: %#v may be", v)
		}
	}
}

func TestP2_2RightOnesRise(t *testing.T) {
	l := rights()
	for i, a := range l {
		for k, b := range l {
			if value.Less(a, b) != (i < k) {
				t.Errorf("P2.2: Less(%#v, %#v) = %t", a, b, i >= k)
			}
			if value.Same(a, b) != (i == k) {
				t.Errorf("P2.2: Same(%#v, %#v) = %t", a, b, i != k)
			}
		}
	}
}

// Of values that may not be, too, the kind goes ahead of the number, and this ahead of the text.
func TestP2_2AllValuesRise(t *testing.T) {
	var l []api.Value
	for _, kind := range []int{math.MinInt, -257, -1, 0, 1, 2, 3, 256, math.MaxInt} {
		for _, n := range []int{math.MinInt, -1, 0, 1, math.MaxInt} {
			for _, s := range []string{"", "\x00", "a", "a\x00", "aa", "ab", "b", "\xc3\xa9", "\xff"} {
				l = append(l, api.Value{Kind: kind, N: n, S: s})
			}
		}
	}
	for i, a := range l {
		for k, b := range l {
			if value.Less(a, b) != (i < k) || value.Same(a, b) != (i == k) {
				t.Fatalf("P2.2: Less(%#v, %#v) = %t, Same = %t", a, b, value.Less(a, b), value.Same(a, b))
			}
		}
	}
}

func TestP2_3ShowExamples(t *testing.T) {
	for _, x := range []struct {
		v api.Value
		s string
	}{
		{api.Value{}, "null"},
		{num(0), "0"},
		{num(7), "7"},
		{num(-5), "-5"},
		{num(-10), "-10"},
		{num(api.MaxNum), "1099511627776"},
		{num(-api.MaxNum), "-1099511627776"},
		{num(math.MaxInt), "9223372036854775807"},
		{num(math.MinInt), "-9223372036854775808"},
		{str(""), "''"},
		{str("it's"), "'it''s'"},
		{str("'"), "''''"},
		{str("''"), "''''''"},
		{str("null"), "'null'"},
		{str("\x00\xff\n"), "'\x00\xff\n'"},
		{api.Value{N: 3, S: "a"}, "null"},
		{api.Value{Kind: api.VInt, N: 3, S: "a"}, "3"},
		{api.Value{Kind: api.VText, N: 3, S: "a"}, "'a'"},
		{str(strings.Repeat("'", api.MaxText+1)), "'" + strings.Repeat("'", 2*api.MaxText+2) + "'"},
	} {
		if s := value.Show(x.v); s != x.s {
			t.Errorf("P2.3: Show(%#v) = %q, want %q", x.v, s, x.s)
		}
	}
	for _, kind := range []int{3, -1, 256, 257, 258, -255, math.MinInt, math.MaxInt} {
		if s := value.Show(api.Value{Kind: kind, N: 1, S: "a"}); s != "?" {
			t.Errorf("P2.3: Show of the kind %d = %q, want ?", kind, s)
		}
	}
}

func wantNoRead(t *testing.T, promise, s string) {
	t.Helper()
	if v, err := value.Read(s); v != (api.Value{}) || err != api.ErrForm {
		t.Errorf("%s: Read(%q) = %#v, %d, want nothing, ErrForm", promise, s, v, err)
	}
}

func TestP2_3ReadIsWhatWasShown(t *testing.T) {
	for _, v := range rights() {
		s := value.Show(v)
		if got, err := value.Read(s); got != v || err != api.OK {
			t.Errorf("P2.3: Read(%q) = %#v, %d, want %#v, OK", s, got, err, v)
		}
	}
}

func TestP2_3ReadRefuses(t *testing.T) {
	for _, s := range []string{
		"", " ", "null ", " null", "nul", "nulll", "Null", "NULL", "nil", "?", "??",
		"-", "+", "-0", "+0", "00", "01", "-01", "+1", "--1", "1 ", " 1", "1.", "1.0", "1e3", "0x1", "1_000", "0b1", "1a", "\u0661", "1\x00",
		"1099511627777", "-1099511627777", "9223372036854775807", "-9223372036854775808", "9223372036854775808", "18446744073709551616", "18446744073709551617", "99999999999999999999", "-99999999999999999999",
		"'", "'''", "'''''", "'a", "a'", "a", "'a''", "''a'", "'a'b'", "'''a''", "'a'''b'c'", "''''a''", "'a' ", " 'a'", "'a'\n", "\"a\"", "`a`", "''''' ",
		"'" + strings.Repeat("x", api.MaxText+1) + "'", "'" + strings.Repeat("'", 2*api.MaxText+2) + "'", "'" + strings.Repeat("'", 2*api.MaxText-1) + "'",
		strings.Repeat("1", 1<<16), strings.Repeat("'", 1<<16), strings.Repeat("0", 40),
	} {
		wantNoRead(t, "P2.3", s)
	}
	for _, v := range wrongs() {
		if v.Kind == api.VInt && v.S == "" || v.Kind == api.VText && v.N == 0 {
			wantNoRead(t, "P2.3", value.Show(v)) // it is told by no other value
		}
	}
}

// Of all texts of up to five such signs just those are read that are shown of a value.
func TestP2_3ReadOfAllShortTexts(t *testing.T) {
	texts := []string{""}
	for i := 0; i < len(texts); i++ {
		if len(texts[i]) < 5 {
			for _, x := range "'a01-" {
				texts = append(texts, texts[i]+string(x))
			}
		}
	}
	known := map[string]api.Value{}
	for n := -9999; n <= 99999; n++ {
		known[value.Show(num(n))] = num(n)
	}
	for _, s := range texts {
		if len(s) <= 3 {
			known[value.Show(str(s))] = str(s)
		}
	}
	for _, s := range texts {
		v, ok := known[s]
		if !ok {
			wantNoRead(t, "P2.3", s)
			continue
		}
		if got, err := value.Read(s); got != v || err != api.OK {
			t.Errorf("P2.3: Read(%q) = %#v, %d, want %#v, OK", s, got, err, v)
		}
	}
}

func TestP2_4BytesExamples(t *testing.T) {
	for _, x := range []struct {
		v api.Value
		b []byte
	}{
		{api.Value{}, []byte{0}},
		{api.Value{N: 5, S: "a"}, []byte{0}},
		{num(1), []byte{1, 2}},
		{num(-1), []byte{1, 1}},
		{num(0), []byte{1, 0}},
		{num(64), []byte{1, 128, 1}},
		{api.Value{Kind: api.VInt, N: 1, S: "a"}, []byte{1, 2}},
		{num(math.MinInt), []byte{1, 255, 255, 255, 255, 255, 255, 255, 255, 255, 1}},
		{str(""), []byte{2, 0}},
		{str("ab"), []byte{2, 4, 97, 98}},
		{str("'"), []byte{2, 2, 39}},
		{api.Value{Kind: api.VText, N: 9, S: "a"}, []byte{2, 2, 97}},
		{api.Value{Kind: 3, N: 1, S: "a"}, []byte{3}},
		{api.Value{Kind: 255, N: 1, S: "a"}, []byte{255}},
		{api.Value{Kind: 256, N: 1, S: "a"}, []byte{0}},
		{api.Value{Kind: 257, N: 1, S: "a"}, []byte{1}},
		{api.Value{Kind: 258, N: 1, S: "a"}, []byte{2}},
		{api.Value{Kind: -1, N: 1, S: "a"}, []byte{255}},
		{api.Value{Kind: -254, N: 1, S: "a"}, []byte{2}},
		{api.Value{Kind: math.MinInt, N: 1, S: "a"}, []byte{0}},
	} {
		if b := value.Bytes(x.v); !bytes.Equal(b, x.b) {
			t.Errorf("P2.4: Bytes(%#v) = %v, want %v", x.v, b, x.b)
		}
	}
}

func TestP2_4BytesByTheirWords(t *testing.T) {
	for _, v := range all() {
		kind := new(big.Int).Mod(big.NewInt(int64(v.Kind)), big.NewInt(256))
		want := []byte{byte(kind.Int64())}
		if v.Kind == api.VInt {
			want = append(want, code.Put(v.N)...)
		}
		if v.Kind == api.VText {
			want = append(want, code.Text(v.S)...)
		}
		if b := value.Bytes(v); !bytes.Equal(b, want) {
			t.Errorf("P2.4: Bytes(%#v) = %v, want %v", v, b, want)
		}
	}
}

func wantNoGet(t *testing.T, promise string, b []byte) {
	t.Helper()
	if v, size, err := value.Get(b); v != (api.Value{}) || size != 0 || err != api.ErrForm {
		t.Errorf("%s: Get(%v) = %#v, %d, %d, want nothing, 0, ErrForm", promise, b, v, size, err)
	}
}

func TestP2_4GetRefuses(t *testing.T) {
	for _, b := range [][]byte{
		nil, {}, {1}, {2}, {1, 128}, {1, 128, 0}, {1, 255, 255}, {2, 128}, {2, 2}, {2, 4, 97}, {2, 1}, {2, 1, 97}, {2, 130, 0, 97},
	} {
		wantNoGet(t, "P2.4", b)
	}
	for kind := 3; kind < 256; kind++ {
		wantNoGet(t, "P2.4", []byte{byte(kind)})
		wantNoGet(t, "P2.4", []byte{byte(kind), 2, 97, 98})
	}
	for _, v := range wrongs() {
		b := value.Bytes(v)
		if v.Kind == api.VInt && v.S == "" || v.Kind == api.VText && v.N == 0 {
			wantNoGet(t, "P2.4", b)
			wantNoGet(t, "P2.4", append(b, 0, 0))
		}
	}
}

// tails are what may stand behind a value's bytes.
func tails() [][]byte {
	return [][]byte{nil, {0}, {1}, {2}, {7}, {39}, {127}, {128}, {255}, {1, 2}, bytes.Repeat([]byte{255}, 12)}
}

func TestP2_4GetIsWhatWasPut(t *testing.T) {
	for _, v := range rights() {
		b := value.Bytes(v)
		for _, tail := range tails() {
			if got, size, err := value.Get(slices.Concat(b, tail)); got != v || size != len(b) || err != api.OK {
				t.Errorf("P2.4: Get(%v %v) = %#v, %d, %d, want %#v, %d, OK", b, tail, got, size, err, v, len(b))
			}
		}
		for i := range b {
			wantNoGet(t, "P2.4", b[:i])
		}
	}
}

func TestP2_5OfTwoUnlikeOneIsLess(t *testing.T) {
	l := all()
	for _, a := range l {
		for _, b := range l {
			less, more, same := value.Less(a, b), value.Less(b, a), value.Same(a, b)
			if same != (a == b) || same && (less || more) || !same && less == more {
				t.Fatalf("P2.5: of %#v and %#v: %t, %t, %t", a, b, less, more, same)
			}
		}
	}
}

func TestP2_5ShownAndBytesAreOfOneAlone(t *testing.T) {
	shown, put := map[string]api.Value{}, map[string]api.Value{}
	for _, v := range rights() {
		s, b := value.Show(v), string(value.Bytes(v))
		if w, ok := shown[s]; ok {
			t.Errorf("P2.5: %q is shown of %#v and %#v", s, v, w)
		}
		if w, ok := put[b]; ok {
			t.Errorf("P2.5: %q are the bytes of %#v and %#v", b, v, w)
		}
		shown[s], put[b] = v, v
	}
}

// steps are bytes at the edges of what those of a value may be.
func steps() []byte {
	return []byte{0, 1, 2, 3, 4, 39, 127, 128, 129, 255}
}

// Of all short lists of such bytes: what is got has the bytes that it was got of, whatever is behind. (None of them panics: R1.)
func TestP2_5WhatIsGotWasPut(t *testing.T) {
	lists := [][]byte{{}}
	for i := 0; i < len(lists); i++ {
		b := lists[i]
		v, size, err := value.Get(b)
		if err != api.OK {
			wantNoGet(t, "P2.5", b)
		} else if !value.Right(v) || !bytes.Equal(value.Bytes(v), b[:size]) {
			t.Errorf("P2.5: Get(%v) = %#v, %d", b, v, size)
		}
		if len(b) < 4 {
			for _, x := range steps() {
				lists = append(lists, append(slices.Clip(b), x))
			}
		}
	}
}

// What is handed in stays as it is, and what comes out is turned by nobody (R3).
func TestR3NothingIsShared(t *testing.T) {
	b := append(value.Bytes(str("ab")), 9)
	v, _, _ := value.Get(b)
	if !bytes.Equal(b, []byte{2, 4, 97, 98, 9}) {
		t.Error("R3: Get turned what was handed in:", b)
	}
	b[2] = 'x'
	if v != str("ab") {
		t.Error("R3: what was got was turned:", v)
	}
	for _, v := range []api.Value{{}, num(64), str("ab")} {
		first := value.Bytes(v)
		want := slices.Clone(first)
		for i := range first {
			first[i]++
		}
		if second := value.Bytes(v); !bytes.Equal(second, want) {
			t.Error("R3: Bytes of", v, "were turned:", second)
		}
	}
}
