package expr_test

import (
	"math"
	"math/big"
	"reflect"
	"slices"
	"strings"
	"testing"

	"homestead/api"
	"homestead/expr"
)

const (
	farAbove = math.MaxInt
	farBelow = math.MinInt
	most     = api.MaxNum
	// What no kind is: such are asked for like kinds of their own.
	oddKind  = 7
	farKind  = farAbove
	lowKind  = -1
	noKind   = api.ENull + 1
	operator = api.EAdd // the first kind that is of others
)

var nothing = api.Value{}

func num(n int) api.Value { return api.Value{Kind: api.VInt, N: n} }

func str(s string) api.Value { return api.Value{Kind: api.VText, S: s} }

func lit(v api.Value) api.Expr { return api.Expr{Kind: api.ELit, Val: v} }

func col(n int) api.Expr { return api.Expr{Kind: api.ECol, N: n} }

func of(kind int, of ...api.Expr) api.Expr { return api.Expr{Kind: kind, Of: of} }

// long is the longest text that may be, but for so many bytes.
func long(less int) string { return strings.Repeat("é", api.MaxText/2)[less:] }

// nots is an expression behind so many ENots.
func nots(many int, e api.Expr) api.Expr {
	for range many {
		e = of(api.ENot, e)
	}
	return e
}

// operators are all kinds of two, then those of one.
func operators() (two, one []int) {
	return []int{api.EAdd, api.ESub, api.EMul, api.EEq, api.ELess, api.EAnd, api.EOr}, []int{api.ENot, api.ENull}
}

// values are some that may be.
func values() []api.Value {
	l := []api.Value{nothing}
	for _, n := range []int{0, 1, -1, 2, -2, 3, 7, 1 << 20, -(1 << 20), 1<<20 + 1, -(1<<20 + 1), 1 << 39, -(1 << 39), 1<<39 + 1, most / 3, most/3 + 1, most - 1, 1 - most, most, -most} {
		l = append(l, num(n))
	}
	for _, s := range []string{"", "a", "b", "ab", "aa", "é", "z", "\x00", "\xff", "0", "1", long(0), long(2)} {
		l = append(l, str(s))
	}
	return l
}

// badValues are some that may not be.
func badValues() []api.Value {
	return []api.Value{
		num(most + 1), num(-most - 1), num(farAbove), num(farBelow), {Kind: api.VInt, S: "a"}, {Kind: api.VInt, N: 1, S: "1"},
		{N: 1}, {N: -1}, {S: "a"}, {N: farBelow}, str(long(0) + "a"), str(strings.Repeat("x", api.MaxText+1)), str(strings.Repeat("x", 1<<16)), {Kind: api.VText, N: 1}, {Kind: api.VText, N: -1, S: "a"},
		{Kind: 3}, {Kind: -1}, {Kind: oddKind, N: 1}, {Kind: farAbove}, {Kind: farBelow, S: "a"},
	}
}

// may tells whether a value may be, by the words of 'formed' and P12.1.
func may(v api.Value) bool {
	isNothing := v.Kind == 0 && v.N == 0 && len(v.S) == 0
	isNumber := v.Kind == 1 && v.N >= -1<<40 && v.N <= 1<<40 && len(v.S) == 0
	isText := v.Kind == 2 && len(v.S) < 201 && v.N == 0
	return isNothing || isNumber || isText
}

// depth is an expression's by its word.
func depth(e api.Expr) int {
	greatest := 0
	for _, o := range e.Of {
		greatest = max(greatest, depth(o))
	}
	return 1 + greatest
}

// formed is that word, but for the depth.
func formed(e api.Expr) bool {
	for _, o := range e.Of {
		if !formed(o) {
			return false
		}
	}
	plain := e.N == 0 && e.Val == nothing
	switch e.Kind {
	case api.ECol:
		return e.N > -1 && e.Val == nothing && len(e.Of) == 0
	case api.ELit:
		return e.N == 0 && may(e.Val) && len(e.Of) == 0
	case api.EAdd, api.ESub, api.EMul, api.EEq, api.ELess, api.EAnd, api.EOr:
		return plain && len(e.Of) == 2
	case api.ENot, api.ENull:
		return plain && len(e.Of) == 1
	}
	return false
}

// amiss is what Type and Eval tell first, by their words.
func amiss(e api.Expr) api.Errno {
	if depth(e) > 20 {
		return api.ErrBound
	}
	if !formed(e) {
		return api.ErrArg
	}
	return api.OK
}

// hasColumn tells whether an expression is of a column from so much on.
func hasColumn(e api.Expr, from int) bool {
	if e.Kind == api.ECol && e.N >= from {
		return true
	}
	return slices.ContainsFunc(e.Of, func(o api.Expr) bool { return hasColumn(o, from) })
}

// numeric tells whether EAdd and others ask for a kind.
func numeric(kind int) bool { return kind == api.VInt || kind == api.VNull }

// goTogether is 'go together' by its words.
func goTogether(a, b int) bool { return a == b || a == api.VNull || b == api.VNull }

// gets tells whether an operator gets the kinds that it asks for, by the words of P12.2.
func gets(kind int, of []int) bool {
	switch kind {
	case api.ENull:
		return true
	case api.EEq, api.ELess:
		return goTogether(of[0], of[1])
	}
	return !slices.ContainsFunc(of, func(k int) bool { return !numeric(k) })
}

// kindOf is a formed expression's kind (all its columns are there), and whether all in it get what they ask for.
func kindOf(e api.Expr, kinds []int) (int, bool) {
	switch e.Kind {
	case api.ECol:
		return kinds[e.N], true
	case api.ELit:
		return e.Val.Kind, true
	}
	var l []int
	for _, o := range e.Of {
		k, ok := kindOf(o, kinds)
		if !ok {
			return 0, false
		}
		l = append(l, k)
	}
	if !gets(e.Kind, l) {
		return 0, false
	}
	return api.VInt, true
}

// typ is Type by the words of P12.2.
func typ(e api.Expr, kinds []int) (int, api.Errno) {
	if no := amiss(e); no != api.OK {
		return 0, no
	}
	if hasColumn(e, len(kinds)) {
		return 0, api.ErrNone
	}
	k, ok := kindOf(e, kinds)
	if !ok {
		return 0, api.ErrType
	}
	return k, api.OK
}

// said is what a formed expression says by the words of P12.4.
func said(e api.Expr, row api.Row) (api.Value, api.Errno) {
	switch e.Kind {
	case api.ECol:
		if e.N < len(row) {
			return row[e.N], api.OK
		}
		return nothing, api.ErrNone
	case api.ELit:
		return e.Val, api.OK
	}
	var l []api.Value
	for _, o := range e.Of {
		v, no := said(o, row)
		if no != api.OK {
			return nothing, no
		}
		l = append(l, v)
	}
	return table(e.Kind, l)
}

// table is that of P12.4, and what it says ahead of it.
func table(kind int, l []api.Value) (api.Value, api.Errno) {
	texts, numbers, nothings, noughts := 0, 0, 0, 0
	for _, v := range l {
		switch {
		case v.Kind == api.VText:
			texts++
		case v.Kind == api.VNull:
			nothings++
		default:
			numbers++
			if v.N == 0 {
				noughts++
			}
		}
	}
	yes, no := num(1), num(0)
	switch kind {
	case api.EEq, api.ELess:
		if texts == 1 && numbers == 1 {
			return nothing, api.ErrType
		}
	case api.ENull:
	default:
		if texts > 0 {
			return nothing, api.ErrType
		}
	}
	switch kind {
	case api.EAnd:
		if noughts > 0 {
			return no, api.OK
		}
		if nothings == 0 {
			return yes, api.OK
		}
	case api.EOr:
		if numbers > noughts {
			return yes, api.OK
		}
		if nothings == 0 {
			return no, api.OK
		}
	case api.ENull:
		return num(nothings), api.OK
	case api.ENot:
		if nothings == 0 {
			return num(noughts), api.OK
		}
	default:
		if nothings == 0 {
			return tableOfTwo(kind, l[0], l[1])
		}
	}
	return nothing, api.OK
}

// tableOfTwo is what that table says of two values that are something.
func tableOfTwo(kind int, a, b api.Value) (api.Value, api.Errno) {
	x, y := big.NewInt(int64(a.N)), big.NewInt(int64(b.N))
	n := new(big.Int)
	switch kind {
	case api.EAdd:
		n.Add(x, y)
	case api.ESub:
		n.Sub(x, y)
	case api.EMul:
		n.Mul(x, y)
	case api.EEq:
		if a.Kind == b.Kind && a.N == b.N && a.S == b.S {
			n.SetInt64(1)
		}
	case api.ELess:
		if a.Kind == api.VInt && x.Cmp(y) < 0 || a.Kind == api.VText && slices.Compare([]byte(a.S), []byte(b.S)) < 0 {
			n.SetInt64(1)
		}
	}
	if n.CmpAbs(big.NewInt(1<<40)) > 0 {
		return nothing, api.ErrOver
	}
	return num(int(n.Int64())), api.OK
}

// eval is Eval by the words of P12.4.
func eval(e api.Expr, row api.Row) (api.Value, api.Errno) {
	if no := amiss(e); no != api.OK {
		return nothing, no
	}
	return said(e, row)
}

func wantType(t *testing.T, what string, e api.Expr, kinds []int, want int, no api.Errno) {
	t.Helper()
	if k, got := expr.Type(e, kinds); k != want || got != no {
		t.Errorf("P12.2: %s: %d, %d, want %d, %d of %v and %v", what, k, got, want, no, e, kinds)
	}
}

func wantEval(t *testing.T, what string, e api.Expr, row api.Row, want api.Value, no api.Errno) {
	t.Helper()
	if v, got := expr.Eval(e, row); v != want || got != no {
		t.Errorf("P12.4: %s: %v, %d, want %v, %d of %v and %v", what, v, got, want, no, e, row)
	}
}

func TestP12_1Shown(t *testing.T) {
	for _, typ := range []int{api.VNull, api.VInt, api.VText, 3, oddKind, -1, farAbove, farBelow} {
		for kind, want := range map[int]int{
			api.CReg: typ, api.CMulti: typ, api.CCount: api.VInt, api.CSet: api.VInt, api.CText: api.VText,
			5: api.VNull, -1: api.VNull, farAbove: api.VNull, farBelow: api.VNull,
		} {
			for _, null := range []bool{false, true} {
				if k := expr.Shown(api.Column{Name: "x", Kind: kind, Type: typ, Null: null}); k != want {
					t.Errorf("P12.1: Shown of Kind %d and Type %d: %d, want %d", kind, typ, k, want)
				}
			}
		}
	}
}

func TestP12_1FitsOneValue(t *testing.T) {
	for _, v := range append(values(), badValues()...) {
		for _, kind := range []int{api.VNull, api.VInt, api.VText, 3, oddKind, -1, farAbove, farBelow} {
			want := v == nothing || may(v) && v.Kind == kind
			if expr.Fits(api.Row{v}, []int{kind}) != want {
				t.Errorf("P12.1: Fits of %v and %d: %t", v, kind, !want)
			}
		}
	}
	for _, v := range badValues() {
		if may(v) {
			t.Errorf("P12.1: %v may be", v)
		}
	}
}

func TestP12_1FitsRows(t *testing.T) {
	two := []int{api.VInt, api.VText}
	for i, x := range []struct {
		row   api.Row
		kinds []int
		want  bool
	}{
		{nil, nil, true}, {api.Row{}, nil, true}, {nil, []int{}, true},
		{nil, []int{api.VNull}, false}, {api.Row{nothing}, nil, false},
		{api.Row{num(1), str("a")}, two, true}, {api.Row{nothing, str("a")}, two, true}, {api.Row{num(1), nothing}, two, true}, {api.Row{nothing, nothing}, two, true},
		{api.Row{str("a"), num(1)}, two, false}, {api.Row{num(1), num(1)}, two, false}, {api.Row{str("a"), str("a")}, two, false},
		{api.Row{num(1)}, two, false}, {api.Row{num(1), str("a"), nothing}, two, false}, {api.Row{num(1), str("a")}, two[:1], false},
		{api.Row{num(most), str(long(0))}, two, true}, {api.Row{num(-most), str("")}, two, true},
		{api.Row{num(most + 1), str("a")}, two, false}, {api.Row{num(1), str(long(0) + "a")}, two, false},
		{api.Row{nothing, nothing, nothing}, []int{oddKind, farKind, lowKind}, true}, {api.Row{nothing, {Kind: oddKind}}, []int{oddKind, oddKind}, false},
	} {
		if expr.Fits(x.row, x.kinds) != x.want {
			t.Errorf("P12.1: %d: Fits of %v and %v: %t", i, x.row, x.kinds, !x.want)
		}
	}
}

// badForms are some that aren't formed, each by one fault.
func badForms() []api.Expr {
	one, two := col(0), lit(num(2))
	l := []api.Expr{
		{Kind: noKind}, {Kind: -1}, {Kind: farAbove}, {Kind: farBelow}, {Kind: noKind, Of: []api.Expr{one}}, {Kind: -1, Of: []api.Expr{one, two}},
		col(-1), col(farBelow), {Kind: api.ECol, Val: num(0)}, {Kind: api.ECol, Val: str("")}, {Kind: api.ECol, Val: api.Value{N: 1}}, {Kind: api.ECol, Val: api.Value{S: "a"}}, {Kind: api.ECol, Of: []api.Expr{one}}, {Kind: api.ECol, N: 1, Of: []api.Expr{one, two}},
		{Kind: api.ELit, N: 1}, {Kind: api.ELit, N: -1, Val: num(1)}, {Kind: api.ELit, Of: []api.Expr{one}}, {Kind: api.ELit, Val: num(1), Of: []api.Expr{one, two}},
	}
	for _, v := range badValues() {
		l = append(l, lit(v))
	}
	both, alone := operators()
	for _, k := range both {
		l = append(l, of(k), of(k, one), of(k, one, two, one), of(k, one, two, one, two))
	}
	for _, k := range alone {
		l = append(l, of(k), of(k, one, two), of(k, one, two, one))
	}
	for i, k := range append(both, alone...) {
		l = append(l,
			api.Expr{Kind: k, N: 1, Of: []api.Expr{one, two}[:2-i/7]},
			api.Expr{Kind: k, N: -1, Of: []api.Expr{one, two}[:2-i/7]},
			api.Expr{Kind: k, Val: num(0), Of: []api.Expr{one, two}[:2-i/7]},
			api.Expr{Kind: k, Val: str(""), Of: []api.Expr{one, two}[:2-i/7]},
			api.Expr{Kind: k, Val: api.Value{N: 1}, Of: []api.Expr{one, two}[:2-i/7]},
			api.Expr{Kind: k, Val: api.Value{S: "a"}, Of: []api.Expr{one, two}[:2-i/7]})
	}
	return l
}

// within are expressions that have one in them, at each place, and deep.
func within(e api.Expr) []api.Expr {
	two, one := operators()
	l := []api.Expr{e, nots(api.MaxDepth-2, e)}
	for _, k := range two {
		l = append(l, of(k, e, col(0)), of(k, col(0), e), of(k, e, lit(str("a"))), of(k, lit(nothing), e), of(k, of(api.EEq, lit(num(1)), lit(str("a"))), e), of(k, e, col(99)), of(k, col(99), e))
	}
	for _, k := range one {
		l = append(l, of(k, e), of(k, of(k, e)))
	}
	return l
}

func TestP12_2NotFormed(t *testing.T) {
	for _, bad := range badForms() {
		for _, e := range within(bad) {
			wantType(t, "not formed", e, []int{api.VInt, api.VInt}, 0, api.ErrArg)
			wantType(t, "not formed", e, nil, 0, api.ErrArg)
		}
	}
}

func TestP12_4NotFormed(t *testing.T) {
	for _, bad := range badForms() {
		for _, e := range within(bad) {
			wantEval(t, "not formed", e, api.Row{num(1), num(1)}, nothing, api.ErrArg)
			wantEval(t, "not formed", e, nil, nothing, api.ErrArg)
		}
	}
}

// tooDeep are some whose depth is one above the bound, whether they are formed, or not, and whatever else is amiss.
func tooDeep() []api.Expr {
	deep := nots(api.MaxDepth-1, lit(num(1)))
	l := []api.Expr{
		nots(api.MaxDepth, col(0)), nots(api.MaxDepth, col(99)), nots(api.MaxDepth, lit(str("a"))), nots(api.MaxDepth, col(-1)), nots(api.MaxDepth, api.Expr{Kind: noKind}),
		of(api.EAdd, col(0), deep), of(api.EAdd, deep, col(0)), of(api.EAdd, deep, deep), of(api.EAnd, lit(str("a")), deep),
		// What isn't formed has a depth, too.
		of(noKind, deep), of(-1, col(-1), deep), of(api.ECol, deep), of(api.ELit, col(0), deep), of(api.ENot, col(0), col(0), deep), of(api.EAdd, deep), {Kind: api.ENot, N: 1, Of: []api.Expr{deep}},
	}
	e := api.Expr{Kind: noKind}
	for range api.MaxDepth {
		e = of(noKind, api.Expr{}, e, api.Expr{})
	}
	return append(l, e)
}

func TestP12_2And12_4Depth(t *testing.T) {
	for i, e := range tooDeep() {
		if depth(e) != api.MaxDepth+1 {
			t.Fatalf("%d has the depth %d", i, depth(e))
		}
		wantType(t, "too deep", e, []int{api.VInt}, 0, api.ErrBound)
		wantEval(t, "too deep", e, api.Row{num(1)}, nothing, api.ErrBound)
		if no := expr.Right(e, []api.Column{{Kind: api.CCount}}); no != api.ErrBound {
			t.Errorf("P12.3: too deep: %d", no)
		}
		if is, no := expr.Holds(e, api.Row{num(1)}); is || no != api.ErrBound {
			t.Errorf("P12.5: too deep: %t, %d", is, no)
		}
	}
	for many := range 2*api.MaxDepth + 1 {
		kind, v, no := api.VInt, num(1-many%2), api.OK
		if many >= api.MaxDepth {
			kind, v, no = 0, nothing, api.ErrBound
		}
		wantType(t, "nots", nots(many, col(0)), []int{api.VInt}, kind, no)
		wantEval(t, "nots", nots(many, col(0)), api.Row{num(1)}, v, no)
	}
}

func TestP12_2Leaves(t *testing.T) {
	kinds := []int{api.VInt, api.VText, api.VNull, oddKind, farKind, lowKind, farBelow}
	for i, k := range kinds {
		wantType(t, "a column", col(i), kinds, k, api.OK)
	}
	for _, n := range []int{len(kinds), len(kinds) + 1, farAbove} {
		wantType(t, "no column", col(n), kinds, 0, api.ErrNone)
	}
	wantType(t, "no columns", col(0), nil, 0, api.ErrNone)
	for _, v := range values() {
		wantType(t, "a value", lit(v), nil, v.Kind, api.OK)
	}
}

// TestP12_2EachPairOfKinds: what each operator asks for.
func TestP12_2EachPairOfKinds(t *testing.T) {
	kinds := []int{api.VNull, api.VInt, api.VText, 3, oddKind, farKind, lowKind, farBelow}
	two, one := operators()
	for i, a := range kinds {
		for j, b := range kinds {
			for _, k := range two {
				want, no := api.VInt, api.OK
				asked := (a == api.VInt || a == api.VNull) && (b == api.VInt || b == api.VNull)
				if k == api.EEq || k == api.ELess {
					asked = a == b || a == api.VNull || b == api.VNull
				}
				if !asked {
					want, no = 0, api.ErrType
				}
				wantType(t, "of two", of(k, col(i), col(j)), kinds, want, no)
			}
		}
		for _, k := range one {
			want, no := api.VInt, api.OK
			if k == api.ENot && a != api.VInt && a != api.VNull {
				want, no = 0, api.ErrType
			}
			wantType(t, "of one", of(k, col(i)), kinds, want, no)
		}
	}
	for _, a := range values() {
		for _, b := range values() {
			for _, k := range two {
				e := of(k, lit(a), lit(b))
				want, no := typ(e, nil)
				wantType(t, "of two values", e, nil, want, no)
			}
		}
	}
}

// TestP12_2Order: the depth, then the form, then columns that aren't there, then kinds, wherever they are.
func TestP12_2Order(t *testing.T) {
	kinds := []int{api.VInt, api.VText}
	clash, none, form, deep := of(api.EAdd, col(0), col(1)), of(api.ENull, col(2)), of(api.EAdd, col(0)), nots(api.MaxDepth, col(0))
	inOrder := []struct {
		e  api.Expr
		no api.Errno
	}{{clash, api.ErrType}, {none, api.ErrNone}, {form, api.ErrArg}, {deep, api.ErrBound}}
	for i, first := range inOrder {
		for j, then := range inOrder {
			want := inOrder[max(i, j)].no
			wantType(t, "two faults", of(api.EEq, first.e, then.e), kinds, 0, want)
			wantType(t, "two faults", of(api.EAnd, of(api.ENull, first.e), of(api.ENot, then.e)), kinds, 0, want)
		}
	}
	wantType(t, "a text and a number that are hidden", of(api.ENull, clash), kinds, 0, api.ErrType)
	wantType(t, "a text and a number behind what says no", of(api.EAnd, lit(num(0)), clash), kinds, 0, api.ErrType)
	wantType(t, "one that clashes with one that does", of(api.EEq, clash, col(1)), kinds, 0, api.ErrType)
	wantType(t, "a kind of a clash", of(api.ELess, col(1), of(api.ENull, col(1))), kinds, 0, api.ErrType)
	wantType(t, "numbers of what asks for texts", of(api.EAdd, of(api.EEq, col(1), col(1)), of(api.ELess, lit(str("a")), col(1))), kinds, api.VInt, api.OK)
}

func TestP12_3Right(t *testing.T) {
	cols := []api.Column{{Kind: api.CText}, {Kind: api.CSet}, {Kind: api.CReg, Type: api.VText}, {Kind: api.CMulti, Type: api.VInt}, {Kind: api.CCount, Type: api.VText}, {Kind: 9, Type: api.VText}, {Kind: api.CReg, Type: oddKind}, {Kind: api.CMulti, Type: api.VText}, {Kind: api.CReg, Type: api.VNull}}
	for i, want := range []api.Errno{api.ErrType, api.OK, api.ErrType, api.OK, api.OK, api.OK, api.OK, api.ErrType, api.OK} {
		if no := expr.Right(col(i), cols); no != want {
			t.Errorf("P12.3: column %d: %d, want %d", i, no, want)
		}
	}
	for i, x := range []struct {
		e    api.Expr
		want api.Errno
	}{
		{lit(str("a")), api.ErrType}, {lit(num(0)), api.OK}, {lit(nothing), api.OK}, {of(api.EEq, col(0), col(2)), api.OK}, {of(api.ELess, col(1), col(3)), api.OK},
		{of(api.EEq, col(0), col(1)), api.ErrType}, {of(api.EEq, col(5), col(1)), api.OK}, {of(api.EEq, col(6), col(1)), api.ErrType}, {of(api.EAdd, col(2), col(4)), api.ErrType},
		{col(len(cols)), api.ErrNone}, {of(api.EEq, lit(str("a")), col(len(cols))), api.ErrNone}, {of(api.EAdd, col(0), col(len(cols))), api.ErrNone}, {col(-1), api.ErrArg}, {of(api.EOr, col(9), col(-1)), api.ErrArg}, {nots(api.MaxDepth, col(0)), api.ErrBound}, {nots(api.MaxDepth-1, col(1)), api.OK},
	} {
		if no := expr.Right(x.e, cols); no != x.want {
			t.Errorf("P12.3: %d: %d, want %d", i, no, x.want)
		}
	}
	if no := expr.Right(col(0), nil); no != api.ErrNone {
		t.Errorf("P12.3: of no columns: %d", no)
	}
}

func TestP12_4Leaves(t *testing.T) {
	row := api.Row(values())
	for i, v := range row {
		wantEval(t, "a column", col(i), row, v, api.OK)
		wantEval(t, "a value", lit(v), nil, v, api.OK)
	}
	for _, n := range []int{len(row), len(row) + 1, farAbove} {
		wantEval(t, "no column", col(n), row, nothing, api.ErrNone)
	}
	wantEval(t, "no columns", col(0), nil, nothing, api.ErrNone)
}

// TestP12_4EachPairOfValues: what each operator says, by the table, of columns and of values.
func TestP12_4EachPairOfValues(t *testing.T) {
	two, one := operators()
	for _, a := range values() {
		for _, b := range values() {
			for _, k := range two {
				want, no := table(k, []api.Value{a, b})
				wantEval(t, "of two", of(k, lit(a), lit(b)), nil, want, no)
				wantEval(t, "of two", of(k, col(1), col(0)), api.Row{b, a}, want, no)
			}
		}
		for _, k := range one {
			want, no := table(k, []api.Value{a})
			wantEval(t, "of one", of(k, lit(a)), nil, want, no)
			wantEval(t, "of one", of(k, col(2)), api.Row{num(5), num(5), a}, want, no)
		}
	}
}

// TestP12_4Table: the table's lines, one by one.
func TestP12_4Table(t *testing.T) {
	over, typ := api.ErrOver, api.ErrType
	for i, x := range []struct {
		kind int
		a, b api.Value
		want api.Value
		no   api.Errno
	}{
		{api.EAdd, num(most), num(0), num(most), 0}, {api.EAdd, num(most), num(1), nothing, over}, {api.EAdd, num(-most), num(-1), nothing, over}, {api.EAdd, num(-most), num(most), num(0), 0}, {api.EAdd, num(most - 1), num(1), num(most), 0}, {api.EAdd, num(1 - most), num(-1), num(-most), 0}, {api.EAdd, num(most), num(most), nothing, over}, {api.EAdd, nothing, num(most), nothing, 0}, {api.EAdd, str("a"), nothing, nothing, typ}, {api.EAdd, nothing, str(""), nothing, typ}, {api.EAdd, str("1"), num(1), nothing, typ}, {api.EAdd, str("a"), str("b"), nothing, typ},
		{api.ESub, num(2), num(5), num(-3), 0}, {api.ESub, num(most), num(-1), nothing, over}, {api.ESub, num(-most), num(1), nothing, over}, {api.ESub, num(0), num(most), num(-most), 0}, {api.ESub, num(0), num(-most), num(most), 0}, {api.ESub, num(most), nothing, nothing, 0}, {api.ESub, num(1), str(""), nothing, typ},
		{api.EMul, num(1 << 20), num(1 << 20), num(most), 0}, {api.EMul, num(-(1 << 20)), num(1 << 20), num(-most), 0}, {api.EMul, num(-(1 << 20)), num(-(1 << 20)), num(most), 0}, {api.EMul, num(1 << 20), num(1<<20 + 1), nothing, over}, {api.EMul, num(-(1 << 20)), num(1<<20 + 1), nothing, over}, {api.EMul, num(most), num(-1), num(-most), 0}, {api.EMul, num(most), num(2), nothing, over}, {api.EMul, num(1 << 39), num(1 << 25), nothing, over}, {api.EMul, num(1 << 32), num(1 << 32), nothing, over}, {api.EMul, num(most), num(1 << 24), nothing, over}, {api.EMul, num(0), num(-most), num(0), 0}, {api.EMul, num(-most), num(0), num(0), 0}, {api.EMul, num(most / 3), num(3), num(most - 1), 0}, {api.EMul, num(most/3 + 1), num(3), nothing, over}, {api.EMul, num(0), nothing, nothing, 0}, {api.EMul, num(0), str("a"), nothing, typ},
		{api.EEq, num(0), num(0), num(1), 0}, {api.EEq, num(1), num(-1), num(0), 0}, {api.EEq, str(""), str(""), num(1), 0}, {api.EEq, str("a"), str("A"), num(0), 0}, {api.EEq, nothing, nothing, nothing, 0}, {api.EEq, nothing, num(0), nothing, 0}, {api.EEq, str(""), nothing, nothing, 0}, {api.EEq, str("0"), num(0), nothing, typ}, {api.EEq, num(0), str(""), nothing, typ},
		{api.ELess, num(-2), num(-1), num(1), 0}, {api.ELess, num(-1), num(-2), num(0), 0}, {api.ELess, num(10), num(9), num(0), 0}, {api.ELess, str("10"), str("9"), num(1), 0}, {api.ELess, str(""), str("\x00"), num(1), 0}, {api.ELess, str("z"), str("é"), num(1), 0}, {api.ELess, str("a"), str("a"), num(0), 0}, {api.ELess, str("B"), str("a"), num(1), 0}, {api.ELess, nothing, str("a"), nothing, 0}, {api.ELess, num(1), nothing, nothing, 0}, {api.ELess, num(1), str("a"), nothing, typ}, {api.ELess, str("a"), num(1), nothing, typ},
		{api.EAnd, num(0), num(0), num(0), 0}, {api.EAnd, num(0), nothing, num(0), 0}, {api.EAnd, nothing, num(0), num(0), 0}, {api.EAnd, nothing, nothing, nothing, 0}, {api.EAnd, nothing, num(-3), nothing, 0}, {api.EAnd, num(2), num(-3), num(1), 0}, {api.EAnd, num(0), str("a"), nothing, typ}, {api.EAnd, str("a"), num(0), nothing, typ}, {api.EAnd, nothing, str(""), nothing, typ},
		{api.EOr, num(0), num(0), num(0), 0}, {api.EOr, num(0), num(-1), num(1), 0}, {api.EOr, num(3), nothing, num(1), 0}, {api.EOr, nothing, num(3), num(1), 0}, {api.EOr, nothing, num(0), nothing, 0}, {api.EOr, num(0), nothing, nothing, 0}, {api.EOr, nothing, nothing, nothing, 0}, {api.EOr, num(1), str("a"), nothing, typ}, {api.EOr, str("a"), num(1), nothing, typ}, {api.EOr, nothing, str("a"), nothing, typ},
	} {
		if v, no := expr.Eval(of(x.kind, lit(x.a), lit(x.b)), nil); v != x.want || no != x.no {
			t.Errorf("P12.4: %d: %v, %d, want %v, %d", i, v, no, x.want, x.no)
		}
	}
	for i, x := range []struct {
		kind int
		a    api.Value
		want api.Value
		no   api.Errno
	}{
		{api.ENot, num(0), num(1), 0}, {api.ENot, num(1), num(0), 0}, {api.ENot, num(-most), num(0), 0}, {api.ENot, nothing, nothing, 0}, {api.ENot, str(""), nothing, typ}, {api.ENot, str("0"), nothing, typ},
		{api.ENull, nothing, num(1), 0}, {api.ENull, num(0), num(0), 0}, {api.ENull, num(5), num(0), 0}, {api.ENull, str(""), num(0), 0}, {api.ENull, str("a"), num(0), 0},
	} {
		if v, no := expr.Eval(of(x.kind, lit(x.a)), nil); v != x.want || no != x.no {
			t.Errorf("P12.4: %d of one: %v, %d, want %v, %d", i, v, no, x.want, x.no)
		}
	}
}

// TestP12_4FirstError: what an expression is of is asked in order, all of it, and the first error tells.
func TestP12_4FirstError(t *testing.T) {
	faults := []struct {
		e  api.Expr
		no api.Errno
	}{
		{col(5), api.ErrNone},
		{of(api.EAdd, lit(num(most)), col(0)), api.ErrOver},
		{of(api.ENot, lit(str("a"))), api.ErrType},
		{of(api.ENull, col(9)), api.ErrNone},
	}
	row := api.Row{num(1)}
	two, one := operators()
	for _, f := range faults {
		for _, k := range two {
			for _, g := range faults {
				wantEval(t, "two errors", of(k, f.e, g.e), row, nothing, f.no)
			}
			for _, v := range []api.Value{nothing, num(0), num(1), str("a")} {
				wantEval(t, "an error, and a value", of(k, f.e, lit(v)), row, nothing, f.no)
				wantEval(t, "a value, and an error", of(k, lit(v), f.e), row, nothing, f.no)
			}
		}
		for _, k := range one {
			wantEval(t, "an error alone", of(k, f.e), row, nothing, f.no)
		}
	}
	for _, f := range faults {
		if no := amiss(f.e); no != api.OK {
			t.Fatalf("%v isn't formed: %d", f.e, no)
		}
		wantEval(t, "what isn't formed behind it", of(api.EAdd, f.e, col(-1)), row, nothing, api.ErrArg)
	}
}

func TestP12_4Examples(t *testing.T) {
	wantEval(t, "the chapter's example", of(api.ELess, col(0), lit(num(5))), api.Row{num(3)}, num(1), api.OK)
	wantEval(t, "the chapter's example", of(api.ELess, col(0), lit(num(5))), api.Row{nothing}, nothing, api.OK)
	wantEval(t, "the chapter's example", of(api.EAnd, lit(nothing), lit(num(0))), nil, num(0), api.OK)
	wantEval(t, "the chapter's example", of(api.EAdd, lit(num(most)), lit(num(1))), nil, nothing, api.ErrOver)
}

func TestP12_5Holds(t *testing.T) {
	for _, v := range values() {
		want, no := v.Kind == api.VInt && v.N != 0, api.OK
		if v.Kind == api.VText {
			no = api.ErrType
		}
		for _, e := range []api.Expr{lit(v), col(1)} {
			if is, got := expr.Holds(e, api.Row{nothing, v}); is != want || got != no {
				t.Errorf("P12.5: %v: %t, %d, want %t, %d", v, is, got, want, no)
			}
		}
	}
	for i, x := range []struct {
		e    api.Expr
		want bool
		no   api.Errno
	}{
		{of(api.ELess, col(0), lit(num(5))), true, 0}, {of(api.ELess, lit(num(5)), col(0)), false, 0}, {of(api.EEq, col(1), lit(str("a"))), true, 0}, {of(api.ENull, col(2)), true, 0}, {of(api.ENot, col(2)), false, 0}, {of(api.ESub, col(0), lit(num(4))), true, 0},
		{col(1), false, api.ErrType}, {of(api.EAdd, col(0), col(1)), false, api.ErrType}, {col(3), false, api.ErrNone}, {col(-1), false, api.ErrArg}, {nots(api.MaxDepth, col(0)), false, api.ErrBound}, {of(api.EMul, lit(num(most)), col(0)), false, api.ErrOver},
	} {
		if is, no := expr.Holds(x.e, api.Row{num(3), str("a"), nothing}); is != x.want || no != x.no {
			t.Errorf("P12.5: %d: %t, %d, want %t, %d", i, is, no, x.want, x.no)
		}
	}
}

// numbers tells numbers that hang on the seed alone.
func numbers(seed uint64) func(below int) int {
	return func(below int) int {
		seed = seed*6364136223846793005 + 1442695040888963407
		return int(seed >> 33 % uint64(below))
	}
}

// grower makes expressions and rows that hang on its seed alone.
type grower struct {
	pick   func(below int) int
	values []api.Value
	bad    []api.Expr
}

func newGrower(seed uint64) grower {
	return grower{numbers(seed), values(), badForms()[:12]}
}

// grown is an expression of some depth at most, of columns and values, seldom amiss.
func (g grower) grown(deep int) api.Expr {
	if deep == 1 || g.pick(4) == 0 {
		switch g.pick(40) {
		case 0:
			return g.bad[g.pick(len(g.bad))]
		case 1:
			return col(6 + g.pick(2))
		}
		if g.pick(2) == 0 {
			return lit(g.values[g.pick(len(g.values))])
		}
		return col(g.pick(6))
	}
	e := api.Expr{Kind: operator + g.pick(noKind-operator)}
	for range 2 - e.Kind/api.ENot {
		e.Of = append(e.Of, g.grown(deep-1))
	}
	return e
}

// kept are the kinds of the columns of grown expressions, and a row that fits.
func (g grower) kept() ([]int, api.Row) {
	kinds := []int{api.VInt, api.VText, api.VNull, oddKind, api.VInt, api.VText}
	row := make(api.Row, len(kinds))
	for i, k := range kinds {
		for {
			v := g.values[g.pick(len(g.values))]
			if v == nothing || v.Kind == k {
				row[i] = v
				break
			}
		}
	}
	return kinds, row
}

func TestP12_2And12_4OfMany(t *testing.T) {
	g := newGrower(12)
	seen := map[[2]api.Errno]int{}
	for range 40000 {
		e := g.grown(1 + g.pick(5))
		kinds, row := g.kept()
		k, no := typ(e, kinds)
		wantType(t, "grown", e, kinds, k, no)
		v, also := eval(e, row)
		wantEval(t, "grown", e, row, v, also)
		seen[[2]api.Errno{no, also}]++
		if t.Failed() {
			return
		}
	}
	for _, both := range [][2]api.Errno{{api.OK, api.OK}, {api.OK, api.ErrOver}, {api.ErrType, api.OK}, {api.ErrType, api.ErrType}, {api.ErrNone, api.ErrNone}, {api.ErrArg, api.ErrArg}, {api.ErrNone, api.ErrType}} {
		if seen[both] < 20 {
			t.Errorf("%v were seen %d times", both, seen[both])
		}
	}
}

// TestP12_6WhatHasAType says nothing, or what is of that kind, of a row that fits, or ErrOver.
func TestP12_6WhatHasAType(t *testing.T) {
	g := newGrower(126)
	typed := 0
	for range 60000 {
		e := g.grown(1 + g.pick(6))
		kinds, row := g.kept()
		if !expr.Fits(row, kinds) {
			t.Fatalf("P12.6: %v doesn't fit %v", row, kinds)
		}
		k, no := expr.Type(e, kinds)
		if no != api.OK {
			continue
		}
		typed++
		v, no := expr.Eval(e, row)
		if no != api.OK && no != api.ErrOver || v != nothing && (v.Kind != k || !expr.Fits(api.Row{v}, []int{k})) {
			t.Fatalf("P12.6: %v of %v: %v, %d, of kind %d", e, row, v, no, k)
		}
	}
	if typed < 10000 {
		t.Errorf("P12.6: %d have a type", typed)
	}
}

// TestR1OfMany: calls end at expressions that are deep, or wide, or of themselves, and at far numbers.
func TestR1OfMany(t *testing.T) {
	turning := []api.Expr{{Kind: api.EAdd}, {Kind: api.ENot}}
	turning[0].Of, turning[1].Of = turning, turning[:1]
	wide := api.Expr{Kind: api.EAdd, Of: make([]api.Expr, 1<<20)}
	full := lit(num(1))
	for range api.MaxDepth - 1 {
		full = of(api.EAnd, full, full)
	}
	for i, x := range []struct {
		e  api.Expr
		no api.Errno
	}{{nots(1<<16, col(0)), api.ErrBound}, {nots(1<<16, col(-1)), api.ErrBound}, {turning[0], api.ErrBound}, {wide, api.ErrArg}, {of(api.ENot, wide), api.ErrArg}, {full, api.OK}, {of(api.EOr, full, full), api.ErrBound}, {lit(str(strings.Repeat("a", 1<<24))), api.ErrArg}} {
		if _, no := expr.Type(x.e, []int{api.VInt}); no != x.no {
			t.Errorf("R1: Type of %d: %d, want %d", i, no, x.no)
		}
		if _, no := expr.Eval(x.e, api.Row{num(1)}); no != x.no {
			t.Errorf("R1: Eval of %d: %d, want %d", i, no, x.no)
		}
	}
	row, kinds := make(api.Row, 1<<20), make([]int, 1<<20)
	for i := range row {
		row[i], kinds[i] = num(i), api.VInt
	}
	if !expr.Fits(row, kinds) || expr.Fits(row[1:], kinds) {
		t.Error("P12.1: Fits of 2^20 values")
	}
	row[len(row)-1] = str("a")
	if expr.Fits(row, kinds) {
		t.Error("P12.1: Fits of 2^20 values, the last one a text")
	}
	wantEval(t, "the last one of many", col(1<<20-1), row, str("a"), api.OK)
	// Of such a row nothing is promised, but that the call ends.
	two, one := operators()
	for _, a := range badValues() {
		for _, b := range append(badValues(), values()...) {
			for _, k := range two {
				expr.Eval(of(k, col(0), col(1)), api.Row{a, b})
				expr.Eval(of(k, col(1), col(0)), api.Row{a, b})
			}
			for _, k := range one {
				expr.Holds(of(k, col(0)), api.Row{a, b})
			}
		}
	}
}

// TestR3NothingIsWritten: what is handed in stays as it was, and a call's answer hangs on that alone.
func TestR3NothingIsWritten(t *testing.T) {
	pick := numbers(3)
	cols := []api.Column{{Name: "a", Kind: api.CReg, Type: api.VInt}, {Name: "b", Kind: api.CText, Type: api.VText}, {Kind: 9}}
	for range 2000 {
		seed := uint64(pick(1 << 30))
		g, too := newGrower(seed), newGrower(seed)
		e, again := g.grown(5), too.grown(5)
		kinds, row := g.kept()
		kindsToo, rowToo := too.kept()
		k, no := expr.Type(e, kinds)
		v, also := expr.Eval(e, row)
		expr.Right(e, cols)
		expr.Holds(e, row)
		expr.Fits(row, kinds)
		if !reflect.DeepEqual(e, again) || !slices.Equal(kinds, kindsToo) || !slices.Equal(row, rowToo) {
			t.Fatalf("R3: %v, %v or %v was written into", again, kindsToo, rowToo)
		}
		wantType(t, "again", again, kindsToo, k, no)
		wantEval(t, "again", again, rowToo, v, also)
	}
	if cols[0] != (api.Column{Name: "a", Kind: api.CReg, Type: api.VInt}) || cols[2] != (api.Column{Kind: 9}) {
		t.Errorf("R3: %v was written into", cols)
	}
}
