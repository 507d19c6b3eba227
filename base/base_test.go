package base_test

import (
	"math"
	"reflect"
	"slices"
	"strings"
	"testing"

	"homestead/api"
	"homestead/bag"
	"homestead/base"
	"homestead/count"
	"homestead/multi"
	"homestead/schema"
	"homestead/text"
	"homestead/value"
)

func num(n int) api.Value { return api.Value{Kind: api.VInt, N: n} }

func word(s string) api.Value { return api.Value{Kind: api.VText, S: s} }

func dot(dev, seq int) api.Dot { return api.Dot{Dev: dev, Seq: seq} }

func part(v api.Value, dev, seq int) api.Part { return api.Part{Val: v, Dot: dot(dev, seq)} }

// letter is a byte of a text, written by (dev, seq) ahead of all.
func letter(b byte, time, dev, seq, at int) api.Part {
	return api.Part{Val: num(int(b)), Dot: dot(dev, seq), At: at, Time: time}
}

// The columns of the wide table.
const (
	id = iota
	name
	multis
	counts
	sets
	texts
	last
	columns
)

// wide is a schema of three tables, the second of which has a column of each kind.
func wide() api.Schema {
	key := api.Column{Name: "id", Type: api.VInt}
	return api.Schema{Tables: []api.Table{
		{Name: "one", Cols: []api.Column{key}},
		{Name: "two", Cols: []api.Column{
			key,
			{Name: "name", Type: api.VText},
			{Name: "multi", Kind: api.CMulti, Type: api.VInt},
			{Name: "count", Kind: api.CCount, Type: api.VInt},
			{Name: "set", Kind: api.CSet, Type: api.VInt},
			{Name: "text", Kind: api.CText, Type: api.VText},
			{Name: "last", Type: api.VInt, Null: true},
		}},
		{Name: "three", Cols: []api.Column{key, {Name: "multi", Kind: api.CMulti, Type: api.VText}}},
	}}
}

// full is a line of the wide table.
func full(key int) api.Line {
	return api.Line{
		Key: key,
		Cells: []api.Cell{
			{Val: num(key)},
			{Val: word("ann")},
			{Kind: api.CMulti, Parts: []api.Part{part(num(9), 1, 2), part(num(5), 2, 1)}},
			{Kind: api.CCount, Val: num(-7)},
			{Kind: api.CSet, Parts: []api.Part{part(num(3), 1, 1), part(num(3), 2, 2), part(num(8), 1, 1)}},
			{Kind: api.CText, Parts: []api.Part{letter('x', 5, 2, 1, 0), letter('a', 4, 1, 1, 0), letter('b', 4, 1, 1, 1)}},
			{},
		},
		By: []api.Dot{dot(1, 1), dot(1, 7), dot(2, 3)},
	}
}

// short is a line of the tables of one column.
func short(key int) api.Line {
	return api.Line{Key: key, Cells: []api.Cell{{Val: num(key)}}}
}

// odd is a line that may not be, and that is like no other one of its key.
func odd(key, mark int) api.Line {
	return api.Line{
		Key: key,
		Cells: []api.Cell{
			{Val: api.Value{Kind: 9, N: mark, S: "x"}, Parts: []api.Part{{At: mark, Gone: true}}},
			{Kind: -3, Val: num(mark)},
		},
		By: []api.Dot{dot(-1, mark), dot(-5, 0)},
	}
}

// holding is a base of the wide schema, of which the second table has these lines.
func holding(l ...api.Line) api.Base {
	b := api.Base{Tables: make([]api.Data, 3)}
	b.Tables[0].Lines = []api.Line{short(4)}
	b.Tables[1].Lines = l
	return b
}

// filled is a base of the wide schema, of which the second table has right lines of these keys.
func filled(keys ...int) api.Base {
	var l []api.Line
	for _, k := range keys {
		l = append(l, full(k))
	}
	return holding(l...)
}

func sameCells(a, b api.Cell) bool {
	return a.Kind == b.Kind && a.Val == b.Val && slices.Equal(a.Parts, b.Parts)
}

func sameLines(a, b api.Line) bool {
	return a.Key == b.Key && slices.EqualFunc(a.Cells, b.Cells, sameCells) && slices.Equal(a.By, b.By)
}

func sameTables(a, b api.Data) bool { return slices.EqualFunc(a.Lines, b.Lines, sameLines) }

func same(a, b api.Base) bool { return slices.EqualFunc(a.Tables, b.Tables, sameTables) }

func sameRows(a, b []api.Row) bool {
	return slices.EqualFunc(a, b, func(r, s api.Row) bool { return slices.Equal(r, s) })
}

func keys(b api.Base, table int) []int {
	var l []int
	for _, x := range b.Tables[table].Lines {
		l = append(l, x.Key)
	}
	return l
}

func within(n, from, to int) bool { return from <= n && n <= to }

// above tells whether d stands behind e: by Dev, then by Seq.
func above(d, e api.Dot) bool {
	if d.Dev == e.Dev {
		return d.Seq > e.Seq
	}
	return d.Dev > e.Dev
}

// right is Right by the words of P13.1.
func right(s api.Schema, b api.Base) bool {
	if schema.Right(s) != api.OK || len(s.Tables) != len(b.Tables) {
		return false
	}
	for i, t := range b.Tables {
		before := -1
		for _, l := range t.Lines {
			if l.Key <= before || l.Key > api.MaxKey-1 || !rightLine(s.Tables[i], l) {
				return false
			}
			before = l.Key
		}
		if len(t.Lines) > api.MaxRows {
			return false
		}
	}
	return true
}

// rightLine tells whether a line is right, by the words of P13.1.
func rightLine(t api.Table, l api.Line) bool {
	if len(l.Cells) != len(t.Cols) {
		return false
	}
	for i, c := range l.Cells {
		if c.Kind != t.Cols[i].Kind || !rightCell(c) {
			return false
		}
	}
	for i, d := range l.By {
		if !within(d.Dev, 1, api.MaxDev) || !within(d.Seq, 1, api.MaxSeq) || i > 0 && !above(d, l.By[i-1]) {
			return false
		}
	}
	first := l.Cells[0]
	return first.Kind == api.CReg && first.Val == num(l.Key)
}

func rightCell(c api.Cell) bool {
	return map[int]bool{
		api.CReg:   value.Right(c.Val) && len(c.Parts) == 0,
		api.CMulti: multi.Right(c),
		api.CCount: count.Right(c) == api.OK,
		api.CSet:   bag.Right(c),
		api.CText:  text.Right(c) == api.OK,
	}[c.Kind]
}

// show is Show by the words of P13.2.
func show(c api.Cell) api.Value {
	return map[int]api.Value{
		api.CReg:   c.Val,
		api.CMulti: multi.Show(c),
		api.CCount: count.Show(c),
		api.CSet:   bag.Show(c),
		api.CText:  text.Show(c),
	}[c.Kind]
}

// put is Put by the words of P13.3.
func put(b api.Base, table int, l api.Line) api.Base {
	out := api.Base{}
	for i, t := range b.Tables {
		if i != table {
			out.Tables = append(out.Tables, t)
			continue
		}
		in := false
		for _, x := range t.Lines {
			in = in || x.Key == l.Key
		}
		var lines []api.Line
		if in { // in the place of the first one
			for _, x := range t.Lines {
				if in && x.Key == l.Key {
					x, in = l, false
				}
				lines = append(lines, x)
			}
		} else { // ahead of the first greater one
			for _, x := range t.Lines {
				if !in && x.Key > l.Key {
					lines, in = append(lines, l), true
				}
				lines = append(lines, x)
			}
			if !in {
				lines = append(lines, l)
			}
		}
		out.Tables = append(out.Tables, api.Data{Lines: lines})
	}
	return out
}

// drop is Drop by the words of P13.3.
func drop(b api.Base, table, key int) api.Base {
	out := api.Base{}
	for i, t := range b.Tables {
		var lines []api.Line
		gone := false
		for _, x := range t.Lines {
			if i == table && x.Key == key && !gone {
				gone = true
				continue
			}
			lines = append(lines, x)
		}
		out.Tables = append(out.Tables, api.Data{Lines: lines})
	}
	return out
}

// get is Get by the words of P13.3.
func get(b api.Base, table, key int) (api.Line, bool) {
	for i, t := range b.Tables {
		for _, x := range t.Lines {
			if i == table && x.Key == key {
				return x, true
			}
		}
	}
	return api.Line{}, false
}

// wrote is Wrote by the words of P13.3.
func wrote(l api.Line, d api.Dot) api.Line {
	var by []api.Dot
	in := slices.Contains(l.By, d)
	for _, e := range l.By {
		if !in && above(e, d) {
			by, in = append(by, d), true
		}
		by = append(by, e)
	}
	if !in {
		by = append(by, d)
	}
	l.By = by
	return l
}

func TestP13_1New(t *testing.T) {
	for _, many := range []int{0, 1, 2, api.MaxTabs, api.MaxTabs + 1, 5000} {
		s := api.Schema{Tables: make([]api.Table, many)}
		b := base.New(s)
		if len(b.Tables) != many {
			t.Errorf("P13.1: %d tables of %d", len(b.Tables), many)
		}
		for i := range b.Tables {
			if len(b.Tables[i].Lines) != 0 {
				t.Errorf("P13.1: table %d has lines", i)
			}
		}
		if base.Right(s, b) {
			t.Errorf("P13.1: right, of a schema that isn't: %d", many)
		}
	}
	if s := wide(); !base.Right(s, base.New(s)) || !right(s, base.New(s)) {
		t.Error("P13.1: a new base isn't right")
	}
}

// fault turns a right line into another one, and tells whether that is right, too.
type fault struct {
	what string
	is   bool
	turn func(l *api.Line)
}

// to is a fault that puts a cell into a column.
func to(what string, is bool, col int, c api.Cell) fault {
	return fault{what, is, func(l *api.Line) { l.Cells[col] = c }}
}

// keyed is a fault that gives a line another key, in its first cell, too.
func keyed(what string, is bool, key int) fault {
	return fault{what, is, func(l *api.Line) { l.Key, l.Cells[id].Val = key, num(key) }}
}

// by is a fault that gives a line other dots.
func by(what string, is bool, l ...api.Dot) fault {
	return fault{what, is, func(x *api.Line) { x.By = l }}
}

func ofKeys() []fault {
	return []fault{
		{"nothing", true, func(*api.Line) {}},
		keyed("key 0", true, 0),
		keyed("key 1", true, 1),
		keyed("the greatest key", true, api.MaxKey-1),
		keyed("too great a key", false, api.MaxKey),
		keyed("key -1", false, -1),
		keyed("the least number as a key", false, math.MinInt),
		keyed("the greatest number as a key", false, math.MaxInt),
		{"a key that isn't shown", false, func(l *api.Line) { l.Key++ }},
		to("a key cell of another number", false, id, api.Cell{Val: num(11)}),
		to("a key cell of nothing", false, id, api.Cell{}),
		to("a key cell of nothing with a number", false, id, api.Cell{Val: api.Value{N: 10}}),
		to("a key cell of a text", false, id, api.Cell{Val: word("10")}),
		to("a key cell with a text", false, id, api.Cell{Val: api.Value{Kind: api.VInt, N: 10, S: "x"}}),
		to("a key cell of a kind of values that isn't", false, id, api.Cell{Val: api.Value{Kind: 3, N: 10}}),
		to("a key cell with parts", false, id, api.Cell{Val: num(10), Parts: []api.Part{part(num(10), 1, 1)}}),
		to("a key cell with a zero part", false, id, api.Cell{Val: num(10), Parts: []api.Part{{}}}),
		to("a key cell that is added to", false, id, api.Cell{Kind: api.CCount, Val: num(10)}),
		to("a key cell with a list without parts", true, id, api.Cell{Val: num(10), Parts: []api.Part{}}),
	}
}

func ofCells() []fault {
	l := []fault{
		{"no cells", false, func(l *api.Line) { l.Cells = nil }},
		{"the key's cell alone", false, func(l *api.Line) { l.Cells = l.Cells[:1] }},
		{"a cell less", false, func(l *api.Line) { l.Cells = l.Cells[:columns-1] }},
		{"a cell more", false, func(l *api.Line) { l.Cells = append(l.Cells, api.Cell{}) }},
	}
	ones := map[int]api.Cell{}
	for i, c := range full(10).Cells[:last] {
		ones[i] = c
	}
	for col := name; col < columns; col++ {
		for kind, c := range ones {
			is := kind == col || col == name && kind == id || col == last && (kind == id || kind == name)
			l = append(l, to("a cell of another column", is, col, c))
		}
		for _, kind := range []int{-1, 5, 9, math.MinInt, math.MaxInt} {
			l = append(l, fault{"a kind that isn't", false, func(l *api.Line) { l.Cells[col].Kind = kind }})
		}
		for kind := api.CReg; kind <= api.CText; kind++ {
			l = append(l, to("a cell without anything", kind == wide().Tables[1].Cols[col].Kind && kind != api.CCount, col, api.Cell{Kind: kind}))
		}
	}
	return l
}

func ofRegisters() []fault {
	return []fault{
		to("a number where a text should be", true, name, api.Cell{Val: num(3)}),
		to("nothing where something should be", true, name, api.Cell{}),
		to("a text where a number should be", true, last, api.Cell{Val: word("x")}),
		to("the greatest number", true, last, api.Cell{Val: num(api.MaxNum)}),
		to("too great a number", false, last, api.Cell{Val: num(api.MaxNum + 1)}),
		to("the least number", true, last, api.Cell{Val: num(-api.MaxNum)}),
		to("too small a number", false, last, api.Cell{Val: num(-api.MaxNum - 1)}),
		to("no text", true, name, api.Cell{Val: word("")}),
		to("the longest text", true, name, api.Cell{Val: word(strings.Repeat("é", api.MaxText/2))}),
		to("too long a text", false, name, api.Cell{Val: word(strings.Repeat("x", api.MaxText+1))}),
		to("a number with a text", false, name, api.Cell{Val: api.Value{Kind: api.VInt, S: "x"}}),
		to("a text with a number", false, name, api.Cell{Val: api.Value{Kind: api.VText, N: 1}}),
		to("nothing with a number", false, last, api.Cell{Val: api.Value{N: 1}}),
		to("a kind of values that isn't", false, last, api.Cell{Val: api.Value{Kind: 3}}),
		to("a register with a part", false, name, api.Cell{Val: word("x"), Parts: []api.Part{part(word("x"), 1, 1)}}),
	}
}

func ofParts() []fault {
	multiOf := func(l ...api.Part) api.Cell { return api.Cell{Kind: api.CMulti, Parts: l} }
	setOf := func(l ...api.Part) api.Cell { return api.Cell{Kind: api.CSet, Parts: l} }
	textOf := func(l ...api.Part) api.Cell { return api.Cell{Kind: api.CText, Parts: l} }
	many := make([]api.Part, 0, api.MaxRows+1)
	for i := range api.MaxRows {
		many = append(many, letter('a', 4, 1, 1, i))
	}
	return []fault{
		to("texts, and nothing, written", true, multis, multiOf(part(word("x"), 1, 1), part(api.Value{}, 1, 2))),
		to("two of a dot", false, multis, multiOf(part(num(1), 1, 1), part(num(2), 1, 1))),
		to("dots that fall", false, multis, multiOf(part(num(1), 2, 1), part(num(2), 1, 1))),
		to("a dot of no device", false, multis, multiOf(part(num(1), 0, 1))),
		to("a multi with a value", false, multis, api.Cell{Kind: api.CMulti, Val: num(1)}),
		to("a count of the greatest number", true, counts, api.Cell{Kind: api.CCount, Val: num(api.MaxNum)}),
		to("a count beyond", false, counts, api.Cell{Kind: api.CCount, Val: num(api.MaxNum + 1)}),
		to("a count below", false, counts, api.Cell{Kind: api.CCount, Val: num(-api.MaxNum - 1)}),
		to("a count of a text", false, counts, api.Cell{Kind: api.CCount, Val: word("")}),
		to("a count with a text", false, counts, api.Cell{Kind: api.CCount, Val: api.Value{Kind: api.VInt, S: "x"}}),
		to("a count with a part", false, counts, api.Cell{Kind: api.CCount, Val: num(0), Parts: []api.Part{part(num(0), 1, 1)}}),
		to("a set of numbers", true, sets, setOf(part(num(-4), 1, 1), part(num(-4), 1, 2), part(num(0), 1, 1))),
		to("a set of numbers that fall", false, sets, setOf(part(num(4), 1, 1), part(num(3), 1, 2))),
		to("a set with two alike", false, sets, setOf(part(num(4), 1, 1), part(num(4), 1, 1))),
		to("a set of texts", false, sets, setOf(part(word("x"), 1, 1))),
		to("a set with a value", false, sets, api.Cell{Kind: api.CSet, Val: num(1)}),
		to("a text's bytes", true, texts, textOf(letter('a', 9, 1, 3, 0), letter(0, 8, 2, 1, 0), letter(255, 8, 2, 1, 1))),
		to("a text's bytes out of order", false, texts, textOf(letter('a', 8, 1, 3, 0), letter('b', 9, 2, 1, 0))),
		to("a byte of 256", false, texts, textOf(api.Part{Val: num(256), Dot: dot(1, 1), Time: 1})),
		to("a byte behind none", false, texts, textOf(api.Part{Val: num(1), Dot: dot(1, 1), Time: 1, After: dot(3, 3)})),
		to("the most bytes", true, texts, textOf(many...)),
		to("a byte too many", false, texts, textOf(append([]api.Part{letter('z', 5, 1, 2, 0)}, many...)...)),
		to("a text with a value", false, texts, api.Cell{Kind: api.CText, Val: word("x")}),
	}
}

func ofDots() []fault {
	return []fault{
		by("no dots", true),
		by("the least dot", true, dot(1, 1)),
		by("the greatest dot", true, dot(api.MaxDev, api.MaxSeq)),
		by("device 0", false, dot(0, 1)),
		by("device -1", false, dot(-1, 1)),
		by("a device too many", false, dot(api.MaxDev+1, 1)),
		by("number 0", false, dot(1, 0)),
		by("a number too many", false, dot(1, api.MaxSeq+1)),
		by("the least numbers", false, dot(math.MinInt, math.MinInt)),
		by("the greatest numbers", false, dot(math.MaxInt, math.MaxInt)),
		by("two alike", false, dot(1, 1), dot(1, 1)),
		by("two alike behind one", false, dot(1, 1), dot(2, 1), dot(2, 1)),
		by("numbers that fall", false, dot(1, 2), dot(1, 1)),
		by("devices that fall", false, dot(2, 1), dot(1, 2)),
		by("numbers that rise", true, dot(3, 1), dot(3, 2), dot(3, 9)),
		by("numbers that fall from device to device", true, dot(1, 9), dot(2, 5), dot(3, 1)),
		by("one that may not be behind those that may", false, dot(1, 1), dot(2, 2), dot(3, 0)),
		by("one that falls behind those that rise", false, dot(1, 1), dot(1, 3), dot(2, 2), dot(2, 1)),
	}
}

func faults() []fault {
	return slices.Concat(ofKeys(), ofCells(), ofRegisters(), ofParts(), ofDots())
}

func TestP13_1EachFault(t *testing.T) {
	s := wide()
	for _, f := range faults() {
		l := full(10)
		f.turn(&l)
		b := holding(l)
		if got := base.Right(s, b); got != f.is || right(s, b) != f.is {
			t.Errorf("P13.1: %s: %t", f.what, got)
		}
	}
}

// TestP13_1EachPlace: a fault is found wherever its line stands, and whatever else is amiss.
func TestP13_1EachPlace(t *testing.T) {
	s := wide()
	for _, f := range slices.Concat(ofCells(), ofRegisters(), ofDots()) {
		l := full(10)
		f.turn(&l)
		for i, b := range []api.Base{holding(l, full(11)), holding(full(9), l), holding(full(0), full(3), l, full(12))} {
			if got := base.Right(s, b); got != f.is {
				t.Errorf("P13.1: %s, place %d: %t", f.what, i, got)
			}
		}
		if again := holding(l, l); base.Right(s, again) {
			t.Errorf("P13.1: %s, twice", f.what)
		}
	}
}

func TestP13_1EachTable(t *testing.T) {
	s := wide()
	for at := range s.Tables {
		b := holding()
		b.Tables[at].Lines = []api.Line{odd(3, 1)}
		if base.Right(s, b) {
			t.Errorf("P13.1: a line that may not be, in table %d", at)
		}
	}
	for i, b := range []api.Base{{}, {Tables: holding().Tables[:2]}, {Tables: append(holding().Tables, api.Data{})}} {
		if base.Right(s, b) {
			t.Errorf("P13.1: too few, or too many tables: %d", i)
		}
	}
	one := api.Schema{Tables: wide().Tables[:1]}
	if !base.Right(one, api.Base{Tables: []api.Data{{Lines: []api.Line{short(0), short(7)}}}}) {
		t.Error("P13.1: keys alone")
	}
	if base.Right(one, filled(1)) || base.Right(api.Schema{}, api.Base{}) {
		t.Error("P13.1: another schema's base")
	}
	turned := wide()
	turned.Tables[0], turned.Tables[1] = turned.Tables[1], turned.Tables[0]
	if base.Right(turned, filled(1)) {
		t.Error("P13.1: tables that changed places")
	}
}

// TestP13_1Schema: of a schema that isn't right no base is, whatever it has.
func TestP13_1Schema(t *testing.T) {
	for i, turn := range []func(s *api.Schema){
		func(s *api.Schema) { s.Tables[2].Name = "" },
		func(s *api.Schema) { s.Tables[2].Name = "one" },
		func(s *api.Schema) { s.Tables[2].Cols = nil },
		func(s *api.Schema) { s.Tables[2].Cols[0].Kind = api.CCount },
		func(s *api.Schema) { s.Tables[1].Cols[texts].Kind = 5 },
		func(s *api.Schema) { s.Tables[1].Unique = []int{0} },
	} {
		s := wide()
		turn(&s)
		if base.Right(s, base.New(s)) || base.Right(s, filled(3)) {
			t.Errorf("P13.1: a schema that isn't right: %d", i)
		}
	}
	s := wide()
	s.Tables[1].Cols[texts].Kind = 5
	l := full(3)
	l.Cells[texts].Kind = 5
	if base.Right(s, holding(l)) {
		t.Error("P13.1: cells of a kind that isn't, as the column is")
	}
}

func TestP13_1Keys(t *testing.T) {
	s := wide()
	for _, x := range []struct {
		keys []int
		is   bool
	}{
		{nil, true}, {[]int{0, 1, 2}, true}, {[]int{0, api.MaxKey - 1}, true}, {[]int{3, 5, 900}, true},
		{[]int{3, 3}, false}, {[]int{3, 2}, false}, {[]int{1, 5, 4}, false}, {[]int{1, 5, 5}, false}, {[]int{1, 1, 5}, false},
		{[]int{5, 1, 6}, false}, {[]int{-1, 5}, false}, {[]int{5, api.MaxKey}, false}, {[]int{math.MinInt, math.MaxInt}, false},
	} {
		if b := filled(x.keys...); base.Right(s, b) != x.is || right(s, b) != x.is {
			t.Errorf("P13.1: keys %v: %t", x.keys, !x.is)
		}
	}
}

func TestP13_1MostLines(t *testing.T) {
	s, b := wide(), holding()
	b.Tables[0].Lines = nil
	for i := range api.MaxRows {
		b.Tables[0].Lines = append(b.Tables[0].Lines, short(i))
		b.Tables[1].Lines = append(b.Tables[1].Lines, full(i))
	}
	if !base.Right(s, b) {
		t.Error("P13.1: the most lines, in two tables")
	}
	for at, l := range []api.Line{short(api.MaxRows), full(api.MaxRows)} {
		more := holding()
		copy(more.Tables, b.Tables)
		more.Tables[at].Lines = append(slices.Clone(b.Tables[at].Lines), l)
		if base.Right(s, more) {
			t.Errorf("P13.1: a line too many, in table %d", at)
		}
	}
}

// cells are those of each kind, right and not.
func cells() []api.Cell {
	l := []api.Cell{{}, {Kind: -1, Val: num(3)}, {Kind: 5, Val: num(3)}, {Kind: 9, Val: word("x"), Parts: []api.Part{part(num(3), 1, 1)}}, {Kind: math.MinInt, Val: num(1)}, {Kind: math.MaxInt, Val: num(1)}}
	vals := []api.Value{{}, num(0), num(4), num(api.MaxNum + 1), word("ann"), word(strings.Repeat("x", 300)), {Kind: 7, N: 3}}
	parts := [][]api.Part{nil, {part(num(4), 1, 1)}, {part(num(4), 1, 1), part(num(4), 1, 2), part(num(-9), 2, 1)}, {part(word("b"), 1, 1), part(num(500), 2, 1)}, {letter('b', 9, 1, 3, 0), letter('a', 9, 1, 3, 1)}, {letter('a', 1, 1, 1, 0), letter('b', 2, 1, 2, 0)}, full(1).Cells[texts].Parts}
	for kind := api.CReg; kind <= api.CText; kind++ {
		for _, v := range vals {
			for _, p := range parts {
				l = append(l, api.Cell{Kind: kind, Val: v, Parts: p})
			}
		}
	}
	return l
}

func TestP13_2Show(t *testing.T) {
	for i, x := range []struct {
		c    api.Cell
		want api.Value
	}{
		{api.Cell{}, api.Value{}},
		{api.Cell{Val: num(-3)}, num(-3)},
		{api.Cell{Val: word("ann")}, word("ann")},
		{api.Cell{Val: api.Value{Kind: 7, N: 2, S: "x"}, Parts: []api.Part{{}}}, api.Value{Kind: 7, N: 2, S: "x"}},
		{api.Cell{Kind: api.CMulti}, api.Value{}},
		{api.Cell{Kind: api.CMulti, Val: num(3)}, api.Value{}},
		{full(1).Cells[multis], num(9)},
		{api.Cell{Kind: api.CCount}, api.Value{}},
		{full(1).Cells[counts], num(-7)},
		{api.Cell{Kind: api.CCount, Val: num(api.MaxNum + 1)}, api.Value{}},
		{api.Cell{Kind: api.CSet}, num(0)},
		{api.Cell{Kind: api.CSet, Val: num(8)}, num(0)},
		{full(1).Cells[sets], num(2)},
		{api.Cell{Kind: api.CText}, word("")},
		{api.Cell{Kind: api.CText, Val: word("x")}, api.Value{}},
		{full(1).Cells[texts], word("xab")},
		{api.Cell{Kind: 5, Val: num(3)}, api.Value{}},
		{api.Cell{Kind: -1, Val: num(3)}, api.Value{}},
	} {
		if got := base.Show(x.c); got != x.want {
			t.Errorf("P13.2: cell %d shows %v", i, got)
		}
	}
	for _, c := range cells() {
		if got := base.Show(c); got != show(c) {
			t.Errorf("P13.2: %v shows %v", c, got)
		}
	}
}

func TestP13_2Row(t *testing.T) {
	want := api.Row{num(10), word("ann"), num(9), num(-7), num(2), word("xab"), {}}
	if got := base.Row(full(10)); !slices.Equal(got, want) {
		t.Errorf("P13.2: row %v", got)
	}
	l := full(10)
	l.Key, l.By = -4, nil
	if got := base.Row(l); !slices.Equal(got, want) {
		t.Errorf("P13.2: a row hangs on its cells alone: %v", got)
	}
	if got := base.Row(api.Line{Key: 3, By: []api.Dot{dot(1, 1)}}); len(got) != 0 {
		t.Errorf("P13.2: a row without cells: %v", got)
	}
	l.Cells = cells()
	var each api.Row
	for _, c := range l.Cells {
		each = append(each, show(c))
	}
	if got := base.Row(l); !slices.Equal(got, each) {
		t.Errorf("P13.2: a long row: %v", got)
	}
}

// noTables are places at which a base of so many tables has none.
func noTables(many int) []int {
	return []int{-1, many, many + 1, -many, math.MinInt, math.MaxInt}
}

func TestP13_2Shown(t *testing.T) {
	b := filled(3, 900, 4)
	b.Tables[1].Lines = append(b.Tables[1].Lines, odd(3, 5), full(900))
	b.Tables[1].Lines[1].Cells[name].Val = word("bob")
	var want []api.Row
	for _, l := range b.Tables[1].Lines {
		want = append(want, base.Row(l))
	}
	if got := base.Shown(b, 1); !sameRows(got, want) || len(got) != 5 || got[1][name] != word("bob") || got[0][id] != num(3) {
		t.Errorf("P13.2: shown %v", got)
	}
	if got := base.Shown(b, 0); !sameRows(got, []api.Row{{num(4)}}) {
		t.Errorf("P13.2: shown of the first table: %v", got)
	}
	if got := base.Shown(b, 2); len(got) != 0 {
		t.Errorf("P13.2: shown of a table without lines: %v", got)
	}
	for _, at := range noTables(3) {
		if got := base.Shown(b, at); len(got) != 0 {
			t.Errorf("P13.2: shown of no table %d: %v", at, got)
		}
	}
	if got := base.Shown(api.Base{}, 0); len(got) != 0 {
		t.Errorf("P13.2: shown of no tables: %v", got)
	}
}

// bases are right ones, and such whose keys don't rise, stand there twice, or may not be.
func bases() []api.Base {
	l := []api.Base{{}, holding(), filled(1), filled(1, 5), filled(0, 2, 3, 9, api.MaxKey-1)}
	for _, keys := range [][]int{{5, 1}, {3, 3}, {3, 7, 3}, {7, 3, 3, 1}, {9, 2, 9, 5, 2}, {2, 9, 1, 8}, {-1, math.MinInt, 4, math.MaxInt, math.MaxInt}, {math.MaxInt}, {math.MinInt, math.MinInt, 0}} {
		var lines []api.Line
		for i, k := range keys {
			lines = append(lines, odd(k, i))
		}
		l = append(l, holding(lines...))
	}
	return l
}

// someKeys are those of bases, those between, and those that may not be.
func someKeys() []int {
	return []int{math.MinInt, math.MinInt + 1, -2, -1, 0, 1, 2, 3, 4, 5, 6, 7, 8, 9, 10, api.MaxKey - 1, api.MaxKey, math.MaxInt - 1, math.MaxInt}
}

func TestP13_3Get(t *testing.T) {
	for i, b := range bases() {
		for _, at := range append(noTables(len(b.Tables)), 0, 1, 2) {
			for _, k := range someKeys() {
				got, is := base.Get(b, at, k)
				want, there := get(b, at, k)
				if is != there || !sameLines(got, want) {
					t.Errorf("P13.3: base %d: got of table %d, key %d: %v, %t", i, at, k, got, is)
				}
				if !is && !reflect.ValueOf(got).IsZero() {
					t.Errorf("P13.3: base %d: none, and a line: %v", i, got)
				}
			}
		}
	}
	if l, is := base.Get(holding(odd(3, 1), odd(3, 2)), 1, 3); !is || !sameLines(l, odd(3, 1)) {
		t.Errorf("P13.3: the first one of two: %v", l)
	}
}

func TestP13_3Put(t *testing.T) {
	for i, b := range bases() {
		for _, at := range append(noTables(len(b.Tables)), 0, 1, 2) {
			for _, k := range someKeys() {
				for _, l := range []api.Line{odd(k, 77), full(k), {Key: k}} {
					if got, want := base.Put(b, at, l), put(b, at, l); !same(got, want) {
						t.Errorf("P13.3: base %d: put into table %d, key %d: %v", i, at, k, keys(got, 1))
					}
				}
			}
		}
	}
}

// TestP13_3PutByKey: a line stands by its Key, whatever its first cell shows.
func TestP13_3PutByKey(t *testing.T) {
	l := full(3)
	l.Cells[id].Val = num(900)
	b := base.Put(filled(1, 5, 900), 1, l)
	if !slices.Equal(keys(b, 1), []int{1, 3, 5, 900}) || base.Right(wide(), b) {
		t.Errorf("P13.3: keys %v", keys(b, 1))
	}
}

func TestP13_3Drop(t *testing.T) {
	for i, b := range bases() {
		for _, at := range append(noTables(len(b.Tables)), 0, 1, 2) {
			for _, k := range someKeys() {
				if got, want := base.Drop(b, at, k), drop(b, at, k); !same(got, want) {
					t.Errorf("P13.3: base %d: drop of table %d, key %d: %v", i, at, k, keys(got, 1))
				}
			}
		}
	}
}

// TestP13_3Example: the example of the chapter.
func TestP13_3Example(t *testing.T) {
	b := filled(1, 5)
	for i, x := range []struct {
		got  api.Base
		want []int
	}{
		{base.Put(b, 1, full(3)), []int{1, 3, 5}},
		{base.Put(b, 1, full(5)), []int{1, 5}},
		{base.Drop(b, 1, 1), []int{5}},
		{base.Put(b, 1, full(0)), []int{0, 1, 5}},
		{base.Put(b, 1, full(9)), []int{1, 5, 9}},
		{base.Drop(b, 1, 5), []int{1}},
		{base.Drop(b, 1, 3), []int{1, 5}},
		{base.Drop(base.Drop(b, 1, 1), 1, 5), nil},
	} {
		if !slices.Equal(keys(x.got, 1), x.want) || !slices.Equal(keys(x.got, 0), []int{4}) || len(x.got.Tables) != 3 {
			t.Errorf("P13.3: example %d: %v", i, keys(x.got, 1))
		}
	}
}

func TestP13_3Wrote(t *testing.T) {
	one := func(l ...api.Dot) []api.Dot { return l }
	for i, x := range []struct {
		by   []api.Dot
		d    api.Dot
		want []api.Dot
	}{
		{nil, dot(1, 1), one(dot(1, 1))},
		{nil, dot(0, 0), one(dot(0, 0))},
		{one(dot(1, 2)), dot(1, 2), one(dot(1, 2))},
		{one(dot(1, 2)), dot(1, 1), one(dot(1, 1), dot(1, 2))},
		{one(dot(1, 2)), dot(1, 3), one(dot(1, 2), dot(1, 3))},
		{one(dot(2, 2)), dot(1, 3), one(dot(1, 3), dot(2, 2))},
		{one(dot(1, 2)), dot(2, 1), one(dot(1, 2), dot(2, 1))},
		{one(dot(1, 1), dot(3, 1)), dot(2, 9), one(dot(1, 1), dot(2, 9), dot(3, 1))},
		{one(dot(1, 1), dot(1, 5), dot(2, 1)), dot(1, 3), one(dot(1, 1), dot(1, 3), dot(1, 5), dot(2, 1))},
		{one(dot(3, 1), dot(1, 1)), dot(2, 1), one(dot(2, 1), dot(3, 1), dot(1, 1))},
		{one(dot(1, 1), dot(3, 1), dot(2, 1)), dot(2, 1), one(dot(1, 1), dot(3, 1), dot(2, 1))},
		{one(dot(1, 1), dot(1, 1)), dot(1, 1), one(dot(1, 1), dot(1, 1))},
		{one(dot(math.MinInt, 1), dot(math.MaxInt, math.MinInt)), dot(math.MaxInt, math.MaxInt), one(dot(math.MinInt, 1), dot(math.MaxInt, math.MinInt), dot(math.MaxInt, math.MaxInt))},
	} {
		l := full(7)
		l.By = x.by
		got := base.Wrote(l, x.d)
		if !slices.Equal(got.By, x.want) || !sameLines(got, wrote(l, x.d)) {
			t.Errorf("P13.3: written %d: %v", i, got.By)
		}
		if l.By = x.want; !sameLines(got, l) {
			t.Errorf("P13.3: written %d: another line: %v", i, got)
		}
	}
	if got := base.Wrote(api.Line{}, dot(1, 1)); !sameLines(got, api.Line{By: one(dot(1, 1))}) {
		t.Errorf("P13.3: a zero line, written: %v", got)
	}
}

// numbers tells small ones that hang on a seed alone.
func numbers(seed uint64) func(below int) int {
	return func(below int) int {
		seed = seed*6364136223846793005 + 1442695040888963407
		return int(seed >> 33 % uint64(below))
	}
}

// TestP13_3WroteByMany: dots that wrote a line rise, in whichever order they came.
func TestP13_3WroteByMany(t *testing.T) {
	pick := numbers(5)
	for range 200 {
		l, too, has := api.Line{Key: 3}, api.Line{Key: 3}, map[api.Dot]bool{}
		for range 30 {
			d := dot(1+pick(4), 1+pick(9))
			l, too, has[d] = base.Wrote(l, d), wrote(too, d), true
			if !sameLines(l, too) || len(l.By) != len(has) {
				t.Fatalf("P13.3: dots %v", l.By)
			}
		}
		for i, d := range l.By {
			if !has[d] || i > 0 && !above(d, l.By[i-1]) {
				t.Fatalf("P13.3: dots %v", l.By)
			}
		}
	}
}

// step is a put, or a drop, into a table of the wide schema.
type step struct {
	table, key int
	drop       bool
	mark       int
}

// line is what a step puts: a right one, that tells the step's mark.
func (s step) line() api.Line {
	l := full(s.key)
	switch s.table {
	case 0:
		l.Cells = l.Cells[:1]
	case 1:
		l.Cells[last].Val = num(s.mark)
	case 2:
		l.Cells = []api.Cell{l.Cells[id], {Kind: api.CMulti, Parts: []api.Part{part(num(s.mark), 1, 1)}}}
	}
	return l
}

// done is a base behind a step.
func (s step) done(b api.Base) api.Base {
	if s.drop {
		return base.Drop(b, s.table, s.key)
	}
	return base.Put(b, s.table, s.line())
}

// TestP13_4Steps: what is put is got, what is dropped isn't there, all others stay, and the base stays right.
func TestP13_4Steps(t *testing.T) {
	s, pick := wide(), numbers(11)
	for range 40 {
		b := base.New(s)
		has := [3]map[int]api.Line{{}, {}, {}}
		for i := range 60 {
			x := step{pick(3), pick(12), pick(3) == 0, i}
			b = x.done(b)
			if x.drop {
				delete(has[x.table], x.key)
			} else {
				has[x.table][x.key] = x.line()
			}
			if !base.Right(s, b) {
				t.Fatalf("P13.4: not right behind %v", x)
			}
			for at := range has {
				isKept(t, b, at, has[at])
			}
		}
	}
}

// isKept tells of a table that has other lines than it should.
func isKept(t *testing.T, b api.Base, at int, has map[int]api.Line) {
	t.Helper()
	if len(b.Tables[at].Lines) != len(has) || !slices.IsSorted(keys(b, at)) {
		t.Fatalf("P13.4: table %d has keys %v", at, keys(b, at))
	}
	for k := range 12 {
		l, is := base.Get(b, at, k)
		want, there := has[k]
		if is != there || !sameLines(l, want) {
			t.Fatalf("P13.4: table %d, key %d: %v, %t", at, k, l, is)
		}
	}
}

// TestP13_4AnyOrder: puts and drops of unlike keys come to one base, in whichever order.
func TestP13_4AnyOrder(t *testing.T) {
	pick := numbers(17)
	for range 60 {
		var steps []step
		for at := range 3 {
			for k := range 8 {
				if pick(2) == 0 {
					steps = append(steps, step{at, k, pick(3) == 0, pick(100)})
				}
			}
		}
		first := base.New(wide())
		for k := range 8 {
			first = step{table: pick(3), key: k, mark: 500}.done(first)
		}
		want := first
		for _, x := range steps {
			want = x.done(want)
		}
		for range 5 {
			for i := range steps {
				j := pick(i + 1)
				steps[i], steps[j] = steps[j], steps[i]
			}
			b := first
			for _, x := range steps {
				b = x.done(b)
			}
			if !same(b, want) {
				t.Fatalf("P13.4: another base by another order: %v", steps)
			}
		}
	}
}

// TestP13_4LineOfAnother: a line that another right base has may be put, as long as there is room.
func TestP13_4LineOfAnother(t *testing.T) {
	s, from := wide(), filled(2, 7, api.MaxRows)
	b := holding()
	for i := range api.MaxRows {
		b.Tables[1].Lines = append(b.Tables[1].Lines, full(i))
	}
	for _, x := range []struct {
		key int
		is  bool
	}{{2, true}, {7, true}, {api.MaxRows, false}} {
		l, _ := base.Get(from, 1, x.key)
		l.Cells[name].Val = word("from")
		got := base.Put(b, 1, l)
		if base.Right(s, got) != x.is {
			t.Errorf("P13.4: key %d of another base: %t", x.key, !x.is)
		}
		if y, is := base.Get(got, 1, x.key); !is || !sameLines(y, l) {
			t.Errorf("P13.4: key %d of another base isn't got", x.key)
		}
		if room := base.Put(base.Drop(b, 1, 900), 1, l); !base.Right(s, room) {
			t.Errorf("P13.4: key %d of another base, where there is room", x.key)
		}
	}
}

// TestR1OfMany: tables of many lines, and lines of many cells and dots, are answered, too.
func TestR1OfMany(t *testing.T) {
	const far = 100000
	long := holding()
	for i := range far {
		long.Tables[1].Lines = append(long.Tables[1].Lines, short(2*i))
	}
	if base.Right(wide(), long) || len(base.Shown(long, 1)) != far {
		t.Error("R1: many lines")
	}
	if l, is := base.Get(long, 1, 2*(far-1)); !is || !sameLines(l, short(2*(far-1))) {
		t.Error("R1: the last one of many lines")
	}
	more := base.Put(long, 1, short(far+1))
	if len(more.Tables[1].Lines) != far+1 || more.Tables[1].Lines[far/2+1].Key != far+1 || !same(base.Drop(more, 1, far+1), long) {
		t.Error("R1: one between many lines")
	}
	broad := api.Line{Cells: make([]api.Cell, far), By: make([]api.Dot, far)}
	if base.Right(wide(), holding(broad)) || len(base.Row(broad)) != far || len(base.Wrote(broad, dot(1, 1)).By) != far+1 {
		t.Error("R1: a line of many cells and dots")
	}
	b := api.Base{Tables: make([]api.Data, far)}
	if b = base.Put(b, far-1, short(3)); base.Right(wide(), b) || len(b.Tables) != far || len(b.Tables[far-1].Lines) != 1 {
		t.Error("R1: many tables")
	}
}

// room is a base whose lists have room behind their ends, as what is written there must not be seen.
func room() api.Base {
	l := full(5)
	l.By = append(make([]api.Dot, 0, 9), l.By...)
	l.Cells = append(make([]api.Cell, 0, 20), l.Cells...)
	lines := append(make([]api.Line, 0, 9), full(1), l, full(9))
	tables := append(make([]api.Data, 0, 9), api.Data{}, api.Data{Lines: lines}, api.Data{})
	return api.Base{Tables: tables}
}

// whole is a base with what stands in the room behind its ends.
func whole(b api.Base) api.Base {
	out := api.Base{Tables: slices.Clone(b.Tables[:cap(b.Tables)])}
	for i, t := range out.Tables {
		out.Tables[i].Lines = slices.Clone(t.Lines[:cap(t.Lines)])
		for j, l := range out.Tables[i].Lines {
			out.Tables[i].Lines[j] = wholeLine(l)
		}
	}
	return out
}

func wholeLine(l api.Line) api.Line {
	l.By = slices.Clone(l.By[:cap(l.By)])
	l.Cells = slices.Clone(l.Cells[:cap(l.Cells)])
	for k, c := range l.Cells {
		l.Cells[k].Parts = slices.Clone(c.Parts[:cap(c.Parts)])
	}
	return l
}

// all calls each function of the package once on a base and a line, and tells the bases that came out.
func all(b api.Base, l api.Line) map[string]api.Base {
	base.Right(wide(), b)
	base.Shown(b, 1)
	base.Row(l)
	for _, c := range l.Cells {
		base.Show(c)
	}
	base.Get(b, 1, 5)
	base.Wrote(l, dot(1, 3))
	base.Wrote(l, dot(1, 1))
	base.Wrote(l, dot(9, 9))
	return map[string]api.Base{
		"Put ahead":        base.Put(b, 1, full(0)),
		"Put between":      base.Put(b, 1, full(6)),
		"Put behind":       base.Put(b, 1, full(10)),
		"Put in its place": base.Put(b, 1, odd(5, 1)),
		"Put into none":    base.Put(b, 7, l),
		"Put into another": base.Put(b, 0, l),
		"Drop the first":   base.Drop(b, 1, 1),
		"Drop the last":    base.Drop(b, 1, 9),
		"Drop none":        base.Drop(b, 1, 2),
		"Drop of none":     base.Drop(b, 7, 1),
	}
}

func TestR3NothingIsWritten(t *testing.T) {
	b, was := room(), whole(room())
	l := b.Tables[1].Lines[1]
	got := all(b, l)
	if !reflect.DeepEqual(whole(b), was) {
		t.Error("R3: a base is written into")
	}
	for what, c := range got {
		kept := whole(c)
		all(c, l)
		for i := range 12 {
			all(base.Put(c, 1, full(i)), l)
			all(base.Drop(c, 1, i), full(i))
		}
		all(b, l)
		if !reflect.DeepEqual(whole(b), was) || !reflect.DeepEqual(whole(c), kept) {
			t.Errorf("R3: what %s told is changed by a later call", what)
		}
	}
}

// spoil writes into all that a line has.
func spoil(l api.Line) {
	for i, c := range l.Cells {
		for j := range c.Parts {
			c.Parts[j] = api.Part{Val: num(-77)}
		}
		l.Cells[i] = api.Cell{Kind: -77}
	}
	for i := range l.By {
		l.By[i] = dot(-77, -77)
	}
}

// TestR3LinesAreCopies: who writes into a line that was handed in or out doesn't write into a base.
func TestR3LinesAreCopies(t *testing.T) {
	b, l := filled(1, 9), full(5)
	put := base.Put(b, 1, l)
	again := base.Put(filled(1, 5, 9), 1, l)
	spoil(l)
	if !same(put, filled(1, 5, 9)) || !same(again, filled(1, 5, 9)) {
		t.Error("R3: a line that was put is kept")
	}
	got, _ := base.Get(put, 1, 5)
	other, _ := base.Get(put, 1, 5)
	spoil(got)
	if !sameLines(other, full(5)) || !same(put, filled(1, 5, 9)) {
		t.Error("R3: a line that was got is shared")
	}
	for _, d := range []api.Dot{dot(1, 1), dot(1, 2), dot(9, 9)} {
		l = full(5)
		w := base.Wrote(l, d)
		spoil(w)
		if !sameLines(l, full(5)) {
			t.Errorf("R3: a line that %v wrote is shared", d)
		}
		w = base.Wrote(l, d)
		spoil(l)
		if !sameLines(w, wrote(full(5), d)) {
			t.Errorf("R3: a line that %v wrote is kept", d)
		}
	}
}

// TestR3ListsAreNew: the tables of a base that comes out, the lines of a table that was written, and rows, are lists of their own.
func TestR3ListsAreNew(t *testing.T) {
	s := wide()
	first := base.New(s)
	first.Tables[0].Lines = []api.Line{short(1)}
	if !same(base.New(s), api.Base{Tables: make([]api.Data, 3)}) {
		t.Error("R3: new bases share tables")
	}
	b := filled(1, 5, 9)
	for what, c := range all(b, full(5)) {
		c.Tables[2].Lines = []api.Line{short(3)}
		if len(b.Tables[2].Lines) != 0 {
			t.Errorf("R3: %s shares tables", what)
		}
	}
	for what, c := range map[string]api.Base{"Put": base.Put(b, 1, full(5)), "Put a new one": base.Put(b, 1, full(3)), "Drop": base.Drop(b, 1, 9)} {
		for i := range c.Tables[1].Lines {
			c.Tables[1].Lines[i] = odd(-5, 5)
		}
		if !same(b, filled(1, 5, 9)) {
			t.Errorf("R3: %s shares lines", what)
		}
	}
	shown, row := base.Shown(b, 1), base.Row(full(5))
	for _, r := range append(shown[1:], row) {
		for i := range r {
			r[i] = word("spoilt")
		}
	}
	if !slices.Equal(shown[0], base.Row(full(1))) || !same(b, filled(1, 5, 9)) || !sameRows(base.Shown(b, 1)[1:], []api.Row{base.Row(full(5)), base.Row(full(9))}) {
		t.Error("R3: rows share memory")
	}
}

func TestR4TheSameAgain(t *testing.T) {
	b, l := room(), full(5)
	first := all(b, l)
	for range 5 {
		for what, c := range all(b, l) {
			if !same(c, first[what]) {
				t.Errorf("R4: %s answers else", what)
			}
		}
	}
}
