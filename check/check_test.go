package check_test

import (
	"math"
	"reflect"
	"slices"
	"strings"
	"testing"

	"homestead/api"
	"homestead/base"
	"homestead/check"
	"homestead/expr"
	"homestead/row"
	"homestead/schema"
)

// The places of the tables.
const (
	item = iota
	owner
	tables
)

// The places of the columns of items.
const (
	id    = iota
	one   // unique, or nothing
	two   // unique
	size  // counts for bounds
	price // counts for a bound, or nothing
	group // or nothing
	shelf // a group, or nothing
	of    // an owner, or nothing
	like  // an item, or nothing
	by    // an owner
	name  // a text, or nothing
	multi // something
	loose // something, or nothing
	count
	set
	words
	columns
)

// of those of owners.
const (
	rank = 1 // unique, or nothing
	boss = 2 // an owner, or nothing
)

const (
	farAbove = math.MaxInt
	farBelow = math.MinInt
)

func nothing() api.Value { return api.Value{} }

func num(n int) api.Value { return api.Value{Kind: api.VInt, N: n} }

func str(s string) api.Value { return api.Value{Kind: api.VText, S: s} }

func lit(v api.Value) api.Expr { return api.Expr{Kind: api.ELit, Val: v} }

func col(n int) api.Expr { return api.Expr{Kind: api.ECol, N: n} }

func op(kind int, of ...api.Expr) api.Expr { return api.Expr{Kind: kind, Of: of} }

// not refuses a number in a column.
func not(at, n int) api.Expr { return op(api.ENot, op(api.EEq, col(at), lit(num(n)))) }

func number(name string, null bool) api.Column {
	return api.Column{Name: name, Type: api.VInt, Null: null}
}

// What checks of items refuse of their count: refused is a number, over is what can't be reckoned with.
const (
	refused = 13
	over    = 1 << 30
)

// items is a table that is bound in each way, and has columns of each kind.
func items() api.Table {
	cols := []api.Column{
		number("id", false), number("one", true), number("two", false), number("size", false), number("price", true),
		number("group", true), number("shelf", true), number("of", true), number("like", true), number("by", false),
		{Name: "name", Type: api.VText, Null: true},
		{Name: "multi", Kind: api.CMulti, Type: api.VInt},
		{Name: "loose", Kind: api.CMulti, Type: api.VText, Null: true},
		{Name: "count", Kind: api.CCount, Type: api.VInt},
		{Name: "set", Kind: api.CSet, Type: api.VInt},
		{Name: "words", Kind: api.CText, Type: api.VText},
	}
	return api.Table{
		Name: "item", Cols: cols, Unique: []int{one, two},
		Checks:  []api.Expr{not(count, refused), op(api.EOr, lit(num(1)), op(api.EMul, col(count), col(count))), op(api.ENot, op(api.EEq, col(name), lit(str("bad"))))},
		Foreign: []api.Foreign{{Col: of, Table: owner, Act: api.ASetNull}, {Col: like, Table: item, Act: api.ACascade}, {Col: by, Table: owner, Act: api.ARestrict}},
		Sums:    []api.Sum{{Col: size, By: group, Max: 10}, {Col: size, By: shelf, Max: 12}, {Col: price, By: group, Max: 0}},
	}
}

// owners is a table to which items point.
func owners() api.Table {
	return api.Table{
		Name: "owner", Cols: []api.Column{number("id", false), number("rank", true), number("boss", true)}, Unique: []int{rank},
		Checks:  []api.Expr{op(api.ELess, lit(num(0)), col(rank))},
		Foreign: []api.Foreign{{Col: boss, Table: owner, Act: api.ARestrict}},
	}
}

func both() api.Schema { return api.Schema{Tables: []api.Table{items(), owners()}} }

// thing is an item that is good beside others of other keys, where there is an owner 1.
func thing(key int) api.Line {
	l := api.Line{Key: key, Cells: make([]api.Cell, columns), By: []api.Dot{{Dev: 1, Seq: 1}}}
	l.Cells[id].Val, l.Cells[two].Val, l.Cells[size].Val, l.Cells[by].Val = num(key), num(1000+key), num(0), num(1)
	l.Cells[multi] = api.Cell{Kind: api.CMulti, Parts: []api.Part{{Val: num(4), Dot: api.Dot{Dev: 1, Seq: 1}}}}
	l.Cells[loose].Kind = api.CMulti
	l.Cells[count] = api.Cell{Kind: api.CCount, Val: num(0)}
	l.Cells[set] = api.Cell{Kind: api.CSet}
	l.Cells[words] = api.Cell{Kind: api.CText}
	return l
}

// person is an owner.
func person(key int, rank, boss api.Value) api.Line {
	return api.Line{Key: key, Cells: []api.Cell{{Val: num(key)}, {Val: rank}, {Val: boss}}}
}

// with is l, a cell of which has another value.
func with(l api.Line, at int, v api.Value) api.Line {
	l.Cells = slices.Clone(l.Cells)
	l.Cells[at].Val = v
	return l
}

// having is an item of which a column has a number.
func having(key, at, n int) api.Line { return with(thing(key), at, num(n)) }

// in is a base of these items, and of an owner 1.
func in(l ...api.Line) api.Base {
	return api.Base{Tables: []api.Data{{Lines: l}, {Lines: []api.Line{person(1, nothing(), nothing())}}}}
}

// why is Why by the words of P14.2.
func why(s api.Schema, b api.Base) api.Errno {
	if right(s) != api.OK || !base.Right(s, b) {
		return api.ErrArg
	}
	for i, t := range s.Tables {
		for _, e := range []api.Errno{whyRows(t, b, i), whyUnique(t, b, i), whyChecks(t, b, i), whyForeign(t, b, i), whySums(s, b, i)} {
			if e != api.OK {
				return e
			}
		}
	}
	return api.OK
}

func right(s api.Schema) api.Errno {
	if e := schema.Right(s); e != api.OK {
		return e
	}
	for _, t := range s.Tables {
		for _, c := range t.Checks {
			if e := expr.Right(c, t.Cols); e != api.OK {
				return e
			}
		}
	}
	return api.OK
}

func whyRows(t api.Table, b api.Base, at int) api.Errno {
	for _, l := range b.Tables[at].Lines {
		if e := row.Right(t.Cols, base.Row(l)); e != api.OK {
			return e
		}
	}
	return api.OK
}

func whyUnique(t api.Table, b api.Base, at int) api.Errno {
	for _, c := range t.Unique {
		for i, l := range b.Tables[at].Lines {
			for _, k := range b.Tables[at].Lines[:i] {
				v, w := base.Row(l)[c], base.Row(k)[c]
				if v.Kind == api.VInt && w.Kind == api.VInt && v.N == w.N {
					return api.ErrKey
				}
			}
		}
	}
	return api.OK
}

func whyChecks(t api.Table, b api.Base, at int) api.Errno {
	for _, l := range b.Tables[at].Lines {
		for _, c := range t.Checks {
			v, e := expr.Eval(c, base.Row(l))
			if e != api.OK {
				return e
			}
			if v.Kind == api.VInt && v.N == 0 {
				return api.ErrCheck
			}
		}
	}
	return api.OK
}

func whyForeign(t api.Table, b api.Base, at int) api.Errno {
	for _, f := range t.Foreign {
		for _, l := range b.Tables[at].Lines {
			v := base.Row(l)[f.Col]
			if _, there := base.Get(b, f.Table, v.N); v.Kind == api.VInt && !there {
				return api.ErrForeign
			}
		}
	}
	return api.OK
}

func whySums(s api.Schema, b api.Base, at int) api.Errno {
	for i, u := range s.Tables[at].Sums {
		for _, l := range b.Tables[at].Lines {
			r := base.Row(l)
			if r[u.Col].Kind == api.VInt && r[u.Col].N < 0 || r[u.By].Kind == api.VInt && total(s, b, at, i, r[u.By].N) > u.Max {
				return api.ErrSum
			}
		}
	}
	return api.OK
}

// total is Total by the words of P14.3, where there is such a bound.
func total(s api.Schema, b api.Base, table, sum, group int) int {
	n, u := 0, s.Tables[table].Sums[sum]
	for _, l := range b.Tables[table].Lines {
		if r := base.Row(l); r[u.By] == num(group) && r[u.Col].Kind == api.VInt {
			n += r[u.Col].N
		}
	}
	return n
}

// wantWhy asks of a base what doesn't hold in it, and holds the words against that, too.
func wantWhy(t *testing.T, what string, s api.Schema, b api.Base, want api.Errno) {
	t.Helper()
	wantWhyOfMany(t, what, s, b, want)
	if e := why(s, b); e != want {
		t.Errorf("P14.2: %s: by its words %d, want %d", what, e, want)
	}
}

// wantWhyOfMany asks that of a base with too many lines to go by the words.
func wantWhyOfMany(t *testing.T, what string, s api.Schema, b api.Base, want api.Errno) {
	t.Helper()
	if e := check.Why(s, b); e != want {
		t.Errorf("P14.2: %s: %d, want %d", what, e, want)
	}
}

// wantRight asks why a schema may not be.
func wantRight(t *testing.T, what string, s api.Schema, want api.Errno) {
	t.Helper()
	if e := check.Right(s); e != want {
		t.Errorf("P14.1: %s: %d, want %d", what, e, want)
	}
	if e := right(s); e != want {
		t.Errorf("P14.1: %s: by its words %d, want %d", what, e, want)
	}
	if want != api.OK {
		wantWhy(t, what, s, base.New(s), api.ErrArg)
	}
}

// checked is the schema of both, of which items have these checks.
func checked(l ...api.Expr) api.Schema {
	s := both()
	s.Tables[item].Checks = l
	return s
}

// nots is an expression behind so many ENots.
func nots(many int, e api.Expr) api.Expr {
	for range many {
		e = op(api.ENot, e)
	}
	return e
}

func TestP14_1RightOfOneCheck(t *testing.T) {
	turning := []api.Expr{{Kind: api.ENot}}
	turning[0].Of = turning
	for _, x := range []struct {
		what string
		e    api.Expr
		want api.Errno
	}{
		{"a number", lit(num(0)), api.OK},
		{"nothing", lit(nothing()), api.OK},
		{"a text", lit(str("a")), api.ErrType},
		{"a column of numbers", col(one), api.OK},
		{"a column of texts", col(name), api.ErrType},
		{"a column that is added to", col(count), api.OK},
		{"a column that is a set", col(set), api.OK},
		{"a column that is a text", col(words), api.ErrType},
		{"a column of many numbers", col(multi), api.OK},
		{"a column of many texts", col(loose), api.ErrType},
		{"a text like a column that is a text", op(api.EEq, col(words), lit(str("a"))), api.OK},
		{"a number like a column that is a text", op(api.EEq, col(words), lit(num(1))), api.ErrType},
		{"a text like a column that is a set", op(api.EEq, col(set), lit(str("a"))), api.ErrType},
		{"the last column", op(api.ENull, col(columns-1)), api.OK},
		{"the column behind the last one", op(api.ENull, col(columns)), api.ErrNone},
		{"a far column", col(farAbove), api.ErrNone},
		{"a column below 0", col(-1), api.ErrArg},
		{"an operator of none", op(api.EAdd), api.ErrArg},
		{"a kind that isn't", api.Expr{Kind: api.ENull + 1}, api.ErrArg},
		{"too great a number", lit(num(api.MaxNum + 1)), api.ErrArg},
		{"the greatest depth", nots(api.MaxDepth-1, col(one)), api.OK},
		{"too great a depth", nots(api.MaxDepth, col(one)), api.ErrBound},
		{"a depth without an end", turning[0], api.ErrBound},
	} {
		wantRight(t, x.what, checked(x.e), x.want)
		wantRight(t, x.what+", behind another one", checked(col(one), x.e), x.want)
	}
}

func TestP14_1WhichErrorIsFirst(t *testing.T) {
	wantRight(t, "both", both(), api.OK)
	wantRight(t, "no tables", api.Schema{}, api.ErrBound)
	wantRight(t, "no checks", checked(), api.OK)
	wantRight(t, "16 checks", checked(slices.Repeat([]api.Expr{col(one)}, api.MaxCols)...), api.OK)
	wantRight(t, "17 checks", checked(slices.Repeat([]api.Expr{col(one)}, api.MaxCols+1)...), api.ErrBound)
	wantRight(t, "17 checks, of texts", checked(slices.Repeat([]api.Expr{col(name)}, api.MaxCols+1)...), api.ErrBound)
	bad := map[api.Errno]api.Expr{api.ErrBound: nots(api.MaxDepth, col(one)), api.ErrArg: op(api.ENot), api.ErrNone: col(columns), api.ErrType: col(name)}
	for a, x := range bad {
		for _, y := range bad {
			wantRight(t, "two bad checks", checked(x, y), a)
			wantRight(t, "two bad checks behind a good one", checked(lit(num(1)), x, y), a)
			s := checked(x)
			s.Tables[owner].Checks = []api.Expr{y}
			wantRight(t, "a bad check in each table", s, a)
		}
		s := both()
		s.Tables[owner].Checks = append(s.Tables[owner].Checks, x)
		want := a
		if a == api.ErrType {
			want = api.ErrNone // owners have no such column
		}
		wantRight(t, "a bad check in the last table", s, want)
		// What is declared amiss, wherever that is, is told ahead of all checks.
		for _, name := range []struct {
			name string
			want api.Errno
		}{{"", api.ErrArg}, {"item", api.ErrThere}} {
			s := checked(x)
			s.Tables[owner].Name = name.name
			wantRight(t, "a bad name behind a bad check", s, name.want)
		}
	}
}

// TestP14_1ATablesOwnColumns are those that its checks are asked of.
func TestP14_1ATablesOwnColumns(t *testing.T) {
	s := both()
	s.Tables[owner].Checks = []api.Expr{col(boss)}
	wantRight(t, "the last column of owners", s, api.OK)
	s.Tables[owner].Checks = []api.Expr{col(boss + 1)}
	wantRight(t, "a column that items have", s, api.ErrNone)
	s = both()
	slices.Reverse(s.Tables)
	s.Tables[0].Foreign[0].Table = 0
	for i, f := range s.Tables[1].Foreign {
		s.Tables[1].Foreign[i].Table = 1 - f.Table
	}
	wantRight(t, "turned round", s, api.OK)
	s.Tables[0].Checks, s.Tables[1].Checks = []api.Expr{col(name)}, []api.Expr{col(name)}
	wantRight(t, "a column that is a text in the other table", s, api.ErrNone)
	s.Tables[0].Checks = []api.Expr{col(boss)}
	wantRight(t, "a column that is a text", s, api.ErrType)
}

func TestP14_2WhatMayNotBe(t *testing.T) {
	wide := thing(1)
	wide.Cells = append(wide.Cells, api.Cell{})
	other := thing(1)
	other.Key = 2
	var full []api.Line
	for i := range api.MaxRows + 1 {
		full = append(full, thing(i))
	}
	wantWhyOfMany(t, "as many lines as there may be", both(), in(full[:api.MaxRows]...), api.OK)
	for what, b := range map[string]api.Base{
		"no tables":                {},
		"a table too few":          {Tables: in().Tables[:1]},
		"a table too many":         {Tables: make([]api.Data, tables+1)},
		"lines that fall":          in(thing(2), thing(1)),
		"a key twice":              in(thing(1), thing(1)),
		"a line too many":          in(full...),
		"a cell too many":          in(wide),
		"no cells":                 in(api.Line{Key: 1}),
		"a key that isn't shown":   in(other),
		"a key below 0":            in(thing(-1)),
		"too great a key":          in(thing(api.MaxKey)),
		"too great a number":       in(having(1, size, api.MaxNum+1)),
		"a counter of a text":      in(with(thing(1), count, str("a"))),
		"a text that is too long":  in(with(thing(1), name, str(strings.Repeat("x", api.MaxText+1)))),
		"a bad line behind others": {Tables: []api.Data{{Lines: []api.Line{having(1, size, -1)}}, {Lines: []api.Line{thing(1)}}}},
	} {
		wantWhy(t, what, both(), b, api.ErrArg)
	}
	wantWhy(t, "no schema", api.Schema{}, api.Base{}, api.ErrArg)
	wantWhy(t, "a schema with a bad check", checked(col(name)), in(), api.ErrArg)
	twice := both()
	twice.Tables[owner].Name = "item"
	wantWhy(t, "a schema with a name twice", twice, in(), api.ErrArg)
}

func TestP14_2Rows(t *testing.T) {
	typed := with(thing(1), size, str("a"))
	missing := with(thing(1), two, nothing())
	empty := thing(1)
	empty.Cells[multi].Parts = nil
	odd := thing(1)
	odd.Cells[multi].Parts = []api.Part{{Val: str("a"), Dot: api.Dot{Dev: 1, Seq: 1}}}
	behind := func(l api.Line) api.Line { l = with(l, id, num(3)); l.Key = 3; return l }
	for _, x := range []struct {
		what string
		b    api.Base
		want api.Errno
	}{
		{"good", in(thing(1), thing(2)), api.OK},
		{"a text for a number", in(typed), api.ErrType},
		{"a number for a text", in(having(1, name, 5)), api.ErrType},
		{"nothing for a number", in(missing), api.ErrNull},
		{"nothing written", in(empty), api.ErrNull},
		{"a text written for a number", in(odd), api.ErrType},
		{"nothing where it may be", in(with(thing(1), name, nothing())), api.OK},
		{"a text, then nothing", in(typed, behind(missing)), api.ErrType},
		{"nothing, then a text", in(missing, behind(typed)), api.ErrNull},
		{"nothing, and a text behind it", in(with(missing, size, str("a"))), api.ErrNull},
		{"a text, and nothing behind it", in(with(with(thing(1), one, str("a")), two, nothing())), api.ErrType},
		{"the last line of the last table", api.Base{Tables: []api.Data{{}, {Lines: []api.Line{person(1, nothing(), nothing()), person(2, str("a"), nothing())}}}}, api.ErrType},
	} {
		wantWhy(t, x.what, both(), x.b, x.want)
	}
}

func TestP14_2Unique(t *testing.T) {
	none := with(thing(1), one, nothing())
	late := in(having(1, one, 7), thing(2), thing(3), thing(4), having(5, one, 7))
	elsewhere := in(having(1, one, 7), thing(7))
	elsewhere.Tables[owner].Lines = append(elsewhere.Tables[owner].Lines, person(2, num(7), num(1)), person(3, num(8), num(1)))
	owned := in()
	owned.Tables[owner].Lines = append(owned.Tables[owner].Lines, person(2, num(7), nothing()), person(3, num(7), nothing()))
	crossed := in(with(having(1, one, 5), two, num(6)), with(having(2, one, 6), two, num(5)))
	for _, x := range []struct {
		what string
		b    api.Base
		want api.Errno
	}{
		{"two of one number", in(having(1, one, 7), having(2, one, 7)), api.ErrKey},
		{"far from one another", late, api.ErrKey},
		{"in the second one of its columns", in(having(1, two, 7), having(2, two, 7)), api.ErrKey},
		{"two noughts", in(having(1, one, 0), having(2, one, 0)), api.ErrKey},
		{"two below 0", in(having(1, one, -7), having(2, one, -7)), api.ErrKey},
		{"a number and the same below 0", in(having(1, one, -7), having(2, one, 7)), api.OK},
		{"two that are nothing", in(none, thing(2)), api.OK},
		{"nothing and 0", in(none, having(2, one, 0)), api.OK},
		{"the greatest number", in(having(1, one, api.MaxNum), having(2, one, -api.MaxNum)), api.OK},
		{"in the last table", owned, api.ErrKey},
		{"one number in unlike columns", crossed, api.OK},
		{"one number in a line", in(with(having(1, one, 5), two, num(5))), api.OK},
		{"one number in unlike tables, and as a key", elsewhere, api.OK},
		{"one number in a column that isn't unique", in(having(1, price, 0), having(2, price, 0)), api.OK},
	} {
		wantWhy(t, x.what, both(), x.b, x.want)
	}
}

func TestP14_2Checks(t *testing.T) {
	counted := func(key, n int) api.Line { return having(key, count, n) }
	bad := with(thing(1), name, str("bad"))
	for _, x := range []struct {
		what string
		b    api.Base
		want api.Errno
	}{
		{"the first check says 0", in(counted(1, refused)), api.ErrCheck},
		{"the last check says 0", in(bad), api.ErrCheck},
		{"a check that can't be reckoned", in(counted(1, over)), api.ErrOver},
		{"the last line", in(thing(1), thing(2), counted(3, refused)), api.ErrCheck},
		{"line by line: 0, then over", in(bad, counted(2, over)), api.ErrCheck},
		{"line by line: over, then 0", in(counted(1, over), counted(2, refused)), api.ErrOver},
		{"check by check: over, then 0", in(with(counted(1, over), name, str("bad"))), api.ErrOver},
		{"a check says nothing", in(with(thing(1), name, nothing())), api.OK},
		{"a check says 1", in(with(thing(1), name, str("good"))), api.OK},
	} {
		wantWhy(t, x.what, both(), x.b, x.want)
	}
	over2 := op(api.EMul, col(count), col(count))
	wantWhy(t, "check by check: 0, then over", checked(lit(num(0)), over2), in(counted(1, over)), api.ErrCheck)
	wantWhy(t, "check by check: over, then 0", checked(over2, lit(num(0))), in(counted(1, over)), api.ErrOver)
	for _, n := range []int{-api.MaxNum, -1, 0, 1, 2, api.MaxNum} {
		want := api.OK
		if n == 0 {
			want = api.ErrCheck
		}
		wantWhy(t, "what a check says", checked(lit(num(n))), in(thing(1)), want)
		wantWhy(t, "what a check says of no lines", checked(lit(num(n))), in(), api.OK)
	}
	wantWhy(t, "a check of nothing", checked(lit(nothing())), in(thing(1)), api.OK)
	ranked := in()
	ranked.Tables[owner].Lines = append(ranked.Tables[owner].Lines, person(2, num(0), nothing()))
	wantWhy(t, "a check of the last table", both(), ranked, api.ErrCheck)
	// What a row shows is asked, of columns of each kind.
	l := thing(1)
	l.Cells[set].Parts = []api.Part{{Val: num(0), Dot: api.Dot{Dev: 1, Seq: 1}}, {Val: num(9), Dot: api.Dot{Dev: 1, Seq: 1}}, {Val: num(9), Dot: api.Dot{Dev: 1, Seq: 2}}}
	l.Cells[words].Parts = []api.Part{{Val: num('a'), Dot: api.Dot{Dev: 1, Seq: 1}, Time: 1}}
	asked := checked(op(api.EEq, col(set), lit(num(2))), op(api.EEq, col(words), lit(str("a"))), op(api.EEq, col(multi), lit(num(4))))
	wantWhy(t, "what cells show", asked, in(l), api.OK)
	wantWhy(t, "what other cells show", asked, in(thing(1)), api.ErrCheck)
}

func TestP14_2Foreign(t *testing.T) {
	led := func(boss api.Value) api.Base {
		b := in()
		b.Tables[owner].Lines = append(b.Tables[owner].Lines, person(5, nothing(), boss))
		return b
	}
	alone := in(thing(1))
	alone.Tables[owner].Lines = nil
	greatest := in(with(thing(1), like, num(api.MaxKey-1)), thing(api.MaxKey-1))
	for _, x := range []struct {
		what string
		b    api.Base
		want api.Errno
	}{
		{"to an owner", in(having(1, of, 1)), api.OK},
		{"to an owner that isn't there", in(having(1, of, 2)), api.ErrForeign},
		{"to an owner of an item's key", in(thing(1), having(2, of, 2)), api.ErrForeign},
		{"to nothing", in(with(thing(1), of, nothing())), api.OK},
		{"to 0", in(having(1, of, 0)), api.ErrForeign},
		{"below 0", in(having(1, of, -1)), api.ErrForeign},
		{"too great a key", in(having(1, of, api.MaxKey)), api.ErrForeign},
		{"to itself", in(having(2, like, 2)), api.OK},
		{"to one ahead", in(thing(2), having(3, like, 2)), api.OK},
		{"to one behind", in(having(2, like, 3), thing(3)), api.OK},
		{"to one another", in(having(2, like, 3), having(3, like, 2)), api.OK},
		{"to an item of an owner's key", in(having(2, like, 1)), api.ErrForeign},
		{"to an item of a number that is shown elsewhere", in(with(having(2, one, 9), like, num(9))), api.ErrForeign},
		{"to the greatest key", greatest, api.OK},
		{"the last one of the keys", in(having(1, by, 2)), api.ErrForeign},
		{"of the last line", in(thing(1), thing(2), having(3, of, 3)), api.ErrForeign},
		{"two to one", in(having(1, of, 1), having(2, of, 1)), api.OK},
		{"without owners", alone, api.ErrForeign},
		{"of the last table", led(num(4)), api.ErrForeign},
		{"of the last table, to itself", led(num(5)), api.OK},
		{"a number in a column that is no foreign key", in(having(1, one, 77)), api.OK},
	} {
		wantWhy(t, x.what, both(), x.b, x.want)
	}
}

// sized is an item that counts so much, of a group and of a shelf.
func sized(key, n int, g, h api.Value) api.Line {
	return with(with(having(key, size, n), group, g), shelf, h)
}

func TestP14_2Sums(t *testing.T) {
	no := nothing()
	for _, x := range []struct {
		what string
		b    api.Base
		want api.Errno
	}{
		{"the bound", in(sized(1, 10, num(1), no)), api.OK},
		{"above the bound", in(sized(1, 11, num(1), no)), api.ErrSum},
		{"the bound, of two", in(sized(1, 6, num(1), no), sized(2, 4, num(1), no)), api.OK},
		{"above the bound, of two", in(sized(1, 6, num(1), no), sized(2, 5, num(1), no)), api.ErrSum},
		{"two groups", in(sized(1, 6, num(1), no), sized(2, 5, num(2), no)), api.OK},
		{"above the bound, one between", in(sized(1, 6, num(1), no), sized(2, 10, num(2), no), sized(3, 5, num(1), no)), api.ErrSum},
		{"no group", in(sized(1, 100, no, no), sized(2, api.MaxNum, no, no)), api.OK},
		{"no group, and the group 0", in(sized(1, 6, num(0), no), sized(2, 6, no, no)), api.OK},
		{"the group 0", in(sized(1, 6, num(0), no), sized(2, 6, num(0), no)), api.ErrSum},
		{"a group below 0", in(sized(1, 6, num(-3), no), sized(2, 6, num(-3), no)), api.ErrSum},
		{"a group, and the same below 0", in(sized(1, 6, num(-3), no), sized(2, 6, num(3), no)), api.OK},
		{"far groups", in(sized(1, 6, num(api.MaxNum), no), sized(2, 6, num(-api.MaxNum), no)), api.OK},
		{"below 0", in(sized(1, -1, num(1), no)), api.ErrSum},
		{"below 0, of no group", in(sized(1, -1, no, no)), api.ErrSum},
		{"below 0, and more", in(sized(1, 5, num(1), no), sized(2, -1, num(1), no)), api.ErrSum},
		{"by a second column", in(sized(1, 6, num(1), num(1)), sized(2, 7, num(2), num(1))), api.ErrSum},
		{"the bound by a second column", in(sized(1, 6, num(1), num(1)), sized(2, 6, num(2), num(1))), api.OK},
		{"one number of two columns", in(sized(1, 7, num(1), num(2)), sized(2, 7, num(2), num(1))), api.OK},
		{"the last bound, of 0", in(with(having(1, group, 3), price, num(0))), api.OK},
		{"above the last bound", in(with(having(1, group, 3), price, num(1))), api.ErrSum},
		{"above the last bound, of no group", in(having(1, price, 1)), api.OK},
		{"below 0, of no group of the last bound", in(thing(1), having(2, price, -1)), api.ErrSum},
		{"nothing counts 0", in(having(1, group, 3)), api.OK},
		{"below 0 in a column that counts for none", in(having(1, one, -1)), api.OK},
	} {
		wantWhy(t, x.what, both(), x.b, x.want)
	}
	s := both()
	s.Tables[item].Sums = []api.Sum{{Col: size, By: group, Max: api.MaxNum}}
	most := in(sized(1, api.MaxNum, num(1), no))
	wantWhy(t, "the greatest bound", s, most, api.OK)
	for i := 2; i <= api.MaxRows; i++ {
		most.Tables[item].Lines = append(most.Tables[item].Lines, sized(i, api.MaxNum, num(1), no))
	}
	wantWhyOfMany(t, "the greatest numbers of all lines", s, most, api.ErrSum)
	if n := check.Total(s, most, item, 0, 1); n != api.MaxRows*api.MaxNum {
		t.Errorf("P14.3: the greatest numbers of all lines: %d", n)
	}
}

// amiss turns two lines so that one thing doesn't hold: by what stands first.
func amiss() []func(a, b *api.Line) api.Errno {
	set := func(l *api.Line, at int, v api.Value) { *l = with(*l, at, v) }
	return []func(a, b *api.Line) api.Errno{
		func(a, b *api.Line) api.Errno { set(b, name, num(3)); return api.ErrType },
		func(a, b *api.Line) api.Errno { set(a, one, num(3)); set(b, one, num(3)); return api.ErrKey },
		func(a, b *api.Line) api.Errno { set(b, count, num(refused)); return api.ErrCheck },
		func(a, b *api.Line) api.Errno { set(b, like, num(99)); return api.ErrForeign },
		func(a, b *api.Line) api.Errno { set(b, size, num(-1)); return api.ErrSum },
	}
}

// TestP14_2WhatIsFirst: of what doesn't hold in a table the first one is told, and a table ahead is told first, whatever it is.
func TestP14_2WhatIsFirst(t *testing.T) {
	s := api.Schema{Tables: []api.Table{items(), owners(), items()}}
	s.Tables[2].Name, s.Tables[2].Foreign[1].Table = "too", 2
	base3 := func() api.Base {
		b := in(thing(1), thing(2))
		b.Tables = append(b.Tables, api.Data{Lines: []api.Line{thing(1), thing(2)}})
		return b
	}
	wantWhy(t, "three tables", s, base3(), api.OK)
	for i, first := range amiss() {
		for j, second := range amiss() {
			b := base3()
			l := b.Tables[item].Lines
			e, f := first(&l[0], &l[1]), second(&l[1], &l[0])
			if j < i {
				e = f
			}
			wantWhy(t, "two things in a table", s, b, e)
			b = base3()
			k, l := b.Tables[0].Lines, b.Tables[2].Lines
			e = first(&k[0], &k[1])
			second(&l[0], &l[1])
			wantWhy(t, "a thing in each of two tables", s, b, e)
			b = base3()
			b.Tables[1].Lines = append(b.Tables[1].Lines, person(2, num(0), nothing()))
			second(&b.Tables[2].Lines[0], &b.Tables[2].Lines[1])
			wantWhy(t, "a check of the table between", s, b, api.ErrCheck)
		}
	}
}

// TestP14_Examples are those of the chapter.
func TestP14_Examples(t *testing.T) {
	s := both()
	wantWhy(t, "of one group", s, in(sized(1, 6, num(4), nothing()), sized(2, 5, num(4), nothing())), api.ErrSum)
	wantWhy(t, "of two groups", s, in(sized(1, 6, num(4), nothing()), sized(2, 5, num(5), nothing())), api.OK)
}

func TestP14_3Total(t *testing.T) {
	s := both()
	b := in(sized(1, 6, num(0), num(3)), sized(2, 5, num(0), nothing()), sized(3, 9, nothing(), num(3)), sized(4, 3, num(7), num(4)), sized(5, -2, num(-7), num(4)))
	b.Tables[item].Lines[0].Cells[price].Val = num(40)
	b.Tables[item].Lines[3].Cells[price].Val = num(0)
	for _, x := range []struct{ table, sum, group, want int }{
		{item, 0, 0, 11}, {item, 0, 7, 3}, {item, 0, -7, -2}, {item, 0, 3, 0}, {item, 0, 1, 0}, {item, 0, farAbove, 0}, {item, 0, farBelow, 0},
		{item, 1, 3, 15}, {item, 1, 4, 1}, {item, 1, 0, 0},
		{item, 2, 0, 40}, {item, 2, 7, 0}, {item, 2, -7, 0},
		{item, 3, 0, 0}, {item, -1, 0, 0}, {item, farAbove, 0, 0}, {item, farBelow, 0, 0},
		{owner, 0, 0, 0}, {owner, -1, 0, 0}, {tables, 0, 0, 0}, {-1, 0, 0, 0}, {farAbove, 0, 0, 0}, {farBelow, 0, 0, 0},
	} {
		if n := check.Total(s, b, x.table, x.sum, x.group); n != x.want {
			t.Errorf("P14.3: of %d: %d", x, n)
		}
	}
	if n := check.Total(s, in(), item, 0, 0); n != 0 {
		t.Errorf("P14.3: without lines %d", n)
	}
	s.Tables[owner].Sums = []api.Sum{{Col: rank, By: boss, Max: 1}}
	b.Tables[owner].Lines = append(b.Tables[owner].Lines, person(2, num(8), num(0)), person(3, num(9), num(0)))
	if n := check.Total(s, b, owner, 0, 0); n != 17 {
		t.Errorf("P14.3: of the last table %d", n)
	}
	wantWhy(t, "above a bound of the last table", s, api.Base{Tables: []api.Data{{}, {Lines: []api.Line{person(0, num(2), num(0))}}}}, api.ErrSum)
}

// TestP14_3OfWhatDoesNotHold: a Total is told of a base that isn't good, but of none that isn't right.
func TestP14_3OfWhatDoesNotHold(t *testing.T) {
	s := both()
	six, text := sized(1, 6, num(0), nothing()), sized(2, 5, str("0"), nothing())
	for _, x := range []struct {
		what string
		s    api.Schema
		b    api.Base
		want int
	}{
		{"a text as a group", s, in(six, text), 6},
		{"an empty text as a group", s, in(six, with(text, group, str(""))), 6},
		{"a text that should count", s, in(six, with(with(text, group, num(0)), size, str("7"))), 6},
		{"nothing that should count", s, in(six, with(with(text, group, num(0)), size, nothing())), 6},
		{"what points to none", s, in(six, with(sized(2, 5, num(0), nothing()), like, num(44))), 11},
		{"a unique number twice", s, in(with(six, one, num(3)), with(sized(2, 7, num(0), nothing()), one, num(3))), 13},
		{"below 0", s, in(six, sized(2, -9, num(0), nothing())), -3},
		{"the least numbers", s, in(sized(1, -api.MaxNum, num(0), nothing()), sized(2, -api.MaxNum, num(0), nothing())), -2 * api.MaxNum},
		{"lines that fall", s, in(thing(2), six), 0},
		{"a number too great elsewhere", s, in(six, having(2, one, api.MaxNum+1)), 0},
		{"a table too few", s, api.Base{Tables: in(six).Tables[:1]}, 0},
		{"a bad line in another table", s, api.Base{Tables: []api.Data{{Lines: []api.Line{six}}, {Lines: []api.Line{thing(1)}}}}, 0},
		{"a bad check", checked(col(name)), in(six), 0},
		{"no schema", api.Schema{}, api.Base{}, 0},
	} {
		if n := check.Total(x.s, x.b, item, 0, 0); n != x.want {
			t.Errorf("P14.3: %s: %d, want %d", x.what, n, x.want)
		}
	}
}

// numbers are some that seem random, from a seed: each call tells one below many.
func numbers(seed uint64) func(many int) int {
	return func(many int) int {
		seed = seed*6364136223846793005 + 1442695040888963407
		return int(seed>>33) % many
	}
}

// drawn is a base that may be for both, in which much may be amiss.
func drawn(pick func(many int) int) api.Base {
	b := api.Base{Tables: make([]api.Data, tables)}
	many := pick(9)
	little := func(v api.Value) api.Value {
		if pick(3) > 0 {
			return nothing()
		}
		return v
	}
	for key := range many {
		l := sized(key, pick(5), little(num(pick(3)-1)), little(num(pick(2))))
		for _, x := range []struct{ at, often, n int }{{one, 4, pick(20)}, {two, 12, pick(3)}, {of, 4, pick(4)}, {like, 5, pick(9)}, {by, 4, pick(3)}, {price, 9, pick(2)}, {size, 20, -pick(3)}, {count, 60, refused}, {count, 60, over}, {name, 90, 1}} {
			if pick(x.often) == 0 {
				l.Cells[x.at].Val = num(x.n)
			}
		}
		if pick(90) == 0 {
			l.Cells[pick(words)] = api.Cell{}
		}
		b.Tables[item].Lines = append(b.Tables[item].Lines, l)
	}
	for key := range 3 {
		if pick(6) > 0 {
			b.Tables[owner].Lines = append(b.Tables[owner].Lines, person(key, little(num(pick(30))), little(num(pick(3)))))
		}
	}
	return b
}

// TestP14_2ByItsWords holds what is told of many bases against the words.
func TestP14_2ByItsWords(t *testing.T) {
	pick, s, seen := numbers(14), both(), map[api.Errno]int{}
	for range 8000 {
		b := drawn(pick)
		e := check.Why(s, b)
		if want := why(s, b); e != want {
			t.Fatalf("P14.2: %v: %d, want %d", b, e, want)
		}
		seen[e]++
		for sum := range s.Tables[item].Sums {
			g := pick(4) - 1
			want := 0
			if base.Right(s, b) {
				want = total(s, b, item, sum, g)
			}
			if n := check.Total(s, b, item, sum, g); n != want {
				t.Fatalf("P14.3: %v: %d, want %d", b, n, want)
			}
		}
	}
	for _, e := range []api.Errno{api.OK, api.ErrArg, api.ErrType, api.ErrNull, api.ErrKey, api.ErrCheck, api.ErrOver, api.ErrForeign, api.ErrSum} {
		if seen[e] < 50 {
			t.Errorf("%d was seen %d times", e, seen[e])
		}
	}
}

// pointed tells whether a line is pointed to by another one than itself.
func pointed(s api.Schema, b api.Base, table, key int) bool {
	for i, t := range s.Tables {
		for _, f := range t.Foreign {
			for _, l := range b.Tables[i].Lines {
				self := i == table && l.Key == key
				if f.Table == table && !self && base.Row(l)[f.Col] == num(key) {
					return true
				}
			}
		}
	}
	return false
}

// TestP14_4WhatFollows: without lines all is good, and what nothing points to may go.
func TestP14_4WhatFollows(t *testing.T) {
	s, pick, gone, held := both(), numbers(144), 0, 0
	wantWhy(t, "without lines", s, base.New(s), api.OK)
	wantWhy(t, "without lines, whatever the check", checked(lit(num(0)), op(api.EMul, lit(num(api.MaxNum)), lit(num(api.MaxNum)))), base.New(s), api.OK)
	for range 8000 {
		b := drawn(pick)
		if check.Why(s, b) != api.OK {
			continue
		}
		for table := range s.Tables {
			for _, l := range b.Tables[table].Lines {
				e := check.Why(s, base.Drop(b, table, l.Key))
				if pointed(s, b, table, l.Key) {
					held++
					if e != api.ErrForeign {
						t.Fatalf("P14.2: %v without %d of %d: %d", b, l.Key, table, e)
					}
					continue
				}
				gone++
				if e != api.OK {
					t.Fatalf("P14.4: %v without %d of %d: %d", b, l.Key, table, e)
				}
			}
		}
	}
	if gone < 1000 || held < 200 {
		t.Errorf("P14.4: %d went, %d were held", gone, held)
	}
}

// TestP14_4ATablesOwn: what a table binds hangs on its own lines, and on the keys of those that it points to.
func TestP14_4ATablesOwn(t *testing.T) {
	s, pick := both(), numbers(1444)
	alone := both()
	alone.Tables[owner].Unique, alone.Tables[owner].Checks, alone.Tables[owner].Foreign = nil, nil, nil
	for range 3000 {
		b, bare := drawn(pick), api.Base{Tables: make([]api.Data, tables)}
		bare.Tables[item] = b.Tables[item]
		for _, l := range b.Tables[owner].Lines {
			bare.Tables[owner].Lines = append(bare.Tables[owner].Lines, person(l.Key, nothing(), nothing()))
		}
		if e, f := check.Why(alone, b), check.Why(s, bare); e != f {
			t.Fatalf("P14.4: %v: %d, and %d", b, e, f)
		}
	}
}

// TestR3NothingIsWritten: what is handed in stays as it was, and a call's answer hangs on that alone.
func TestR3NothingIsWritten(t *testing.T) {
	pick := numbers(3)
	for range 1000 {
		seed := uint64(pick(1 << 30))
		s, again := both(), both()
		b, too := drawn(numbers(seed)), drawn(numbers(seed))
		e, n := check.Why(s, b), check.Total(s, b, item, 0, 0)
		check.Right(s)
		if !reflect.DeepEqual(s, again) || !reflect.DeepEqual(b, too) {
			t.Fatalf("R3: %v or %v was written into", again, too)
		}
		if f, m := check.Why(again, too), check.Total(again, too, item, 0, 0); e != f || n != m {
			t.Fatalf("R4: %d and %d, of one base", e, f)
		}
	}
}
