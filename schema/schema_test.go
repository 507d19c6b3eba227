package schema_test

import (
	"math"
	"reflect"
	"slices"
	"strconv"
	"strings"
	"testing"

	"homestead/api"
	"homestead/schema"
)

// The places of the columns of a full table.
const (
	key      = 0
	open     = 1 // a number, or nothing
	must     = 2
	other    = 3 // a number, or nothing
	reg      = 4 // a text
	multi    = 5 // numbers
	multis   = 6 // texts
	count    = 7
	set      = 8
	words    = 9
	last     = 10 // a number, or nothing
	many     = 11 // how many there are
	farAbove = math.MaxInt
	farBelow = math.MinInt
)

// full is a table that has each kind of column, and is bound in each way.
func full(name string) api.Table {
	return api.Table{
		Name: name,
		Cols: []api.Column{
			{Name: "id", Kind: api.CReg, Type: api.VInt},
			{Name: "open", Kind: api.CReg, Type: api.VInt, Null: true},
			{Name: "must", Kind: api.CReg, Type: api.VInt},
			{Name: "other", Kind: api.CReg, Type: api.VInt, Null: true},
			{Name: "reg", Kind: api.CReg, Type: api.VText, Null: true},
			{Name: "multi", Kind: api.CMulti, Type: api.VInt, Null: true},
			{Name: "multis", Kind: api.CMulti, Type: api.VText},
			{Name: "count", Kind: api.CCount, Type: api.VInt},
			{Name: "set", Kind: api.CSet, Type: api.VInt},
			{Name: "words", Kind: api.CText, Type: api.VText},
			{Name: "last", Kind: api.CReg, Type: api.VInt, Null: true},
		},
		Unique:  []int{open, must, other},
		Checks:  []api.Expr{{Kind: api.ECol, N: 99}, {Kind: 77}, {}},
		Foreign: []api.Foreign{{Col: open, Table: 0, Act: api.ASetNull}, {Col: must, Table: 1, Act: api.ACascade}, {Col: other, Table: 2, Act: api.ARestrict}},
		Sums:    []api.Sum{{Col: open, By: must, Max: 0}, {Col: must, By: open, Max: api.MaxNum}, {Col: must, By: other, Max: 9}},
	}
}

// three are a full table between two others.
func three() api.Schema {
	return api.Schema{Tables: []api.Table{full("a"), full("b"), full("c")}}
}

// small is a table of a key alone.
func small(name string) api.Table {
	return api.Table{Name: name, Cols: full("").Cols[:1:1]}
}

// columns are so many of numbers, the key ahead.
func columns(many int) []api.Column {
	var l []api.Column
	for i := range many {
		l = append(l, api.Column{Name: "c" + strconv.Itoa(i), Type: api.VInt, Null: i > 0})
	}
	return l
}

func within(n, from, to int) bool { return from <= n && n <= to }

// name tells whether a text is a name, by the words of P11.1.
func name(s string) bool {
	const letters, others = "abcdefghijklmnopqrstuvwxyz", "0123456789_"
	for i, b := range []byte(s) {
		in := strings.IndexByte(letters, b) >= 0 || i > 0 && strings.IndexByte(others, b) >= 0
		if !in {
			return false
		}
	}
	return within(len(s), 1, 12)
}

// right is Right by the words of P11.2.
func right(s api.Schema) api.Errno {
	if !within(len(s.Tables), 1, api.MaxTabs) {
		return api.ErrBound
	}
	for i, t := range s.Tables {
		if !name(t.Name) {
			return api.ErrArg
		}
		for _, u := range s.Tables[:i] {
			if u.Name == t.Name {
				return api.ErrThere
			}
		}
		if len(t.Cols) < 1 || len(t.Cols) > 16 || len(t.Checks) > 16 || len(t.Unique) > 16 || len(t.Foreign) > 16 || len(t.Sums) > 16 {
			return api.ErrBound
		}
		for _, e := range []api.Errno{rightColumns(t), rightUnique(t), rightForeign(t, len(s.Tables)), rightSums(t)} {
			if e != api.OK {
				return e
			}
		}
	}
	return api.OK
}

// rightColumns tells of a table's columns, and its key, by those words.
func rightColumns(t api.Table) api.Errno {
	for i, c := range t.Cols {
		if !name(c.Name) || !within(c.Kind, 0, 4) {
			return api.ErrArg
		}
		for _, d := range t.Cols[:i] {
			if d.Name == c.Name {
				return api.ErrThere
			}
		}
		if !within(c.Type, 1, 2) || c.Type == 2 && (c.Kind == api.CCount || c.Kind == api.CSet) || c.Type == 1 && c.Kind == api.CText {
			return api.ErrType
		}
		if c.Null && !within(c.Kind, api.CReg, api.CMulti) {
			return api.ErrArg
		}
	}
	if c := t.Cols[0]; c.Kind != api.CReg || c.Type != api.VInt || c.Null {
		return api.ErrType
	}
	return api.OK
}

// number tells whether a column is a CReg of VInt.
func number(t api.Table, col int) bool {
	return t.Cols[col].Kind == api.CReg && t.Cols[col].Type == api.VInt
}

// rightUnique tells of a table's unique columns by those words.
func rightUnique(t api.Table) api.Errno {
	for i, c := range t.Unique {
		if !within(c, 1, len(t.Cols)-1) {
			return api.ErrNone
		}
		if i > 0 && !(c > t.Unique[i-1]) {
			return api.ErrArg
		}
		if !number(t, c) {
			return api.ErrType
		}
	}
	return api.OK
}

// rightForeign tells of a table's foreign keys by those words.
func rightForeign(t api.Table, tables int) api.Errno {
	for i, f := range t.Foreign {
		if !within(f.Col, 1, len(t.Cols)-1) || !within(f.Table, 0, tables-1) {
			return api.ErrNone
		}
		if i > 0 && !(f.Col > t.Foreign[i-1].Col) || !within(f.Act, 0, 2) {
			return api.ErrArg
		}
		if !number(t, f.Col) || f.Act == api.ASetNull && !t.Cols[f.Col].Null {
			return api.ErrType
		}
	}
	return api.OK
}

// rightSums tells of a table's bounds by those words.
func rightSums(t api.Table) api.Errno {
	for i, b := range t.Sums {
		if !within(b.Col, 1, len(t.Cols)-1) || !within(b.By, 1, len(t.Cols)-1) {
			return api.ErrNone
		}
		if b.Col == b.By || !within(b.Max, 0, 1<<40) {
			return api.ErrArg
		}
		if !number(t, b.Col) || !number(t, b.By) {
			return api.ErrType
		}
		for _, c := range t.Sums[:i] {
			if c.Col == b.Col && c.By == b.By {
				return api.ErrThere
			}
		}
	}
	return api.OK
}

// fault is what turns a full table into another one, and what is told of that.
type fault struct {
	what string
	turn func(t *api.Table)
	want api.Errno
}

// ofTables are faults of names, and of how many there are, and what is none.
func ofTables() []fault {
	return []fault{
		{"nothing", func(t *api.Table) {}, api.OK},
		{"no name", func(t *api.Table) { t.Name = "" }, api.ErrArg},
		{"a great letter", func(t *api.Table) { t.Name = "B" }, api.ErrArg},
		{"13 bytes", func(t *api.Table) { t.Name = "abcdefghijklm" }, api.ErrArg},
		{"12 bytes", func(t *api.Table) { t.Name = "abcdefghijkl" }, api.OK},
		{"the name ahead", func(t *api.Table) { t.Name = "a" }, api.ErrThere},
		{"a column's name", func(t *api.Table) { t.Name = "id" }, api.OK},
		{"no columns", func(t *api.Table) { t.Cols = nil }, api.ErrBound},
		{"17 columns", func(t *api.Table) { t.Cols = columns(api.MaxCols + 1) }, api.ErrBound},
		{"16 columns", func(t *api.Table) { t.Cols = columns(api.MaxCols); t.Cols[must].Null = false }, api.OK},
		{"17 checks", func(t *api.Table) { t.Checks = make([]api.Expr, api.MaxCols+1) }, api.ErrBound},
		{"16 checks", func(t *api.Table) { t.Checks = make([]api.Expr, api.MaxCols) }, api.OK},
		{"17 unique columns", func(t *api.Table) { t.Unique = make([]int, api.MaxCols+1) }, api.ErrBound},
		{"16 unique columns", func(t *api.Table) { t.Unique = make([]int, api.MaxCols) }, api.ErrNone},
		{"17 foreign keys", func(t *api.Table) { t.Foreign = make([]api.Foreign, api.MaxCols+1) }, api.ErrBound},
		{"16 foreign keys", func(t *api.Table) { t.Foreign = make([]api.Foreign, api.MaxCols) }, api.ErrNone},
		{"17 bounds", func(t *api.Table) { t.Sums = make([]api.Sum, api.MaxCols+1) }, api.ErrBound},
		{"16 bounds", func(t *api.Table) { t.Sums = make([]api.Sum, api.MaxCols) }, api.ErrNone},
		{"not bound", func(t *api.Table) { t.Unique, t.Checks, t.Foreign, t.Sums = nil, nil, nil, nil }, api.OK},
		{"a key alone, bound", func(t *api.Table) { t.Cols = t.Cols[:min(1, len(t.Cols))] }, api.ErrNone},
	}
}

// ofColumns are faults of a column that may be nothing, of others, and of the key.
func ofColumns() []fault {
	turn := func(what string, want api.Errno, col int, with func(c *api.Column)) fault {
		return fault{what, func(t *api.Table) {
			if col < len(t.Cols) {
				with(&t.Cols[col])
			}
		}, want}
	}
	return []fault{
		turn("no column's name", api.ErrArg, reg, func(c *api.Column) { c.Name = "" }),
		turn("a column's 13 bytes", api.ErrArg, reg, func(c *api.Column) { c.Name = "a234567890123" }),
		turn("the key's bad name", api.ErrArg, key, func(c *api.Column) { c.Name = "_" }),
		turn("Kind 5", api.ErrArg, reg, func(c *api.Column) { c.Kind = 5 }),
		turn("Kind -1", api.ErrArg, words, func(c *api.Column) { c.Kind = -1 }),
		turn("Kind MinInt", api.ErrArg, set, func(c *api.Column) { c.Kind = farBelow }),
		turn("Kind MaxInt", api.ErrArg, key, func(c *api.Column) { c.Kind = farAbove }),
		turn("the key's name", api.ErrThere, words, func(c *api.Column) { c.Name = "id" }),
		turn("a name behind", api.ErrThere, multi, func(c *api.Column) { c.Name = "set" }),
		turn("the table's name", api.OK, words, func(c *api.Column) { c.Name = "b" }),
		turn("Type 0", api.ErrType, reg, func(c *api.Column) { c.Type = api.VNull }),
		turn("Type 3", api.ErrType, multi, func(c *api.Column) { c.Type = 3 }),
		turn("Type -1", api.ErrType, multis, func(c *api.Column) { c.Type = -1 }),
		turn("a text's Type 0", api.ErrType, words, func(c *api.Column) { c.Type = 0 }),
		turn("a set's Type 3", api.ErrType, set, func(c *api.Column) { c.Type = 3 }),
		turn("a count's Type MaxInt", api.ErrType, count, func(c *api.Column) { c.Type = farAbove }),
		turn("a count of texts", api.ErrType, count, func(c *api.Column) { c.Type = api.VText }),
		turn("a set of texts", api.ErrType, set, func(c *api.Column) { c.Type = api.VText }),
		turn("a text of numbers", api.ErrType, words, func(c *api.Column) { c.Type = api.VInt }),
		turn("a multi of texts", api.OK, multi, func(c *api.Column) { c.Type = api.VText }),
		turn("a multi of numbers", api.OK, multis, func(c *api.Column) { c.Type = api.VInt }),
		turn("a reg of numbers", api.OK, reg, func(c *api.Column) { c.Type = api.VInt }),
		turn("a count that may be nothing", api.ErrArg, count, func(c *api.Column) { c.Null = true }),
		turn("a set that may be nothing", api.ErrArg, set, func(c *api.Column) { c.Null = true }),
		turn("a text that may be nothing", api.ErrArg, words, func(c *api.Column) { c.Null = true }),
		turn("a multi that may be nothing", api.OK, multis, func(c *api.Column) { c.Null = true }),
		turn("a reg that may not be nothing", api.OK, reg, func(c *api.Column) { c.Null = false }),
		turn("a key that may be nothing", api.ErrType, key, func(c *api.Column) { c.Null = true }),
		turn("a key of texts", api.ErrType, key, func(c *api.Column) { c.Type = api.VText }),
		turn("a multi as key", api.ErrType, key, func(c *api.Column) { c.Kind = api.CMulti }),
		turn("a count as key", api.ErrType, key, func(c *api.Column) { c.Kind = api.CCount }),
		turn("a set as key", api.ErrType, key, func(c *api.Column) { c.Kind = api.CSet }),
		turn("a text as key", api.ErrType, key, func(c *api.Column) { c.Kind, c.Type = api.CText, api.VText }),
	}
}

// ofUnique are faults of unique columns.
func ofUnique() []fault {
	turn := func(want api.Errno, l ...int) fault {
		return fault{"unique", func(t *api.Table) { t.Unique = l }, want}
	}
	l := []fault{
		turn(api.OK), turn(api.OK, open), turn(api.OK, must), turn(api.OK, open, other), turn(api.OK, must, last),
		turn(api.ErrNone, key), turn(api.ErrNone, open, key), turn(api.ErrNone, many), turn(api.ErrNone, -1),
		turn(api.ErrNone, farAbove), turn(api.ErrNone, open, farBelow), turn(api.ErrNone, open, other, many),
		turn(api.ErrArg, open, open), turn(api.ErrArg, must, open), turn(api.ErrArg, open, other, must),
		turn(api.ErrArg, open, other, must, other),
		turn(api.ErrType, open, must, other, reg),
		// The first one that has an error tells.
		turn(api.ErrType, reg, open), turn(api.ErrArg, must, open, many), turn(api.ErrNone, many, open),
		// Of one of them the first error tells.
		turn(api.ErrArg, other, other, reg), turn(api.ErrArg, last, reg), turn(api.ErrNone, open, -1),
	}
	for _, col := range []int{reg, multi, multis, count, set, words} {
		l = append(l, turn(api.ErrType, col))
	}
	return l
}

// ofForeign are faults of foreign keys.
func ofForeign() []fault {
	turn := func(want api.Errno, l ...api.Foreign) fault {
		return fault{"foreign", func(t *api.Table) { t.Foreign = l }, want}
	}
	first := api.Foreign{Col: open, Table: 1}
	l := []fault{
		turn(api.OK), turn(api.OK, first),
		turn(api.OK, api.Foreign{Col: must, Table: 2}, api.Foreign{Col: other, Table: 2, Act: api.ASetNull}),
		turn(api.OK, api.Foreign{Col: open, Act: api.ARestrict}), turn(api.OK, api.Foreign{Col: open, Act: api.ACascade}),
		turn(api.OK, api.Foreign{Col: must, Act: api.ARestrict}), turn(api.OK, api.Foreign{Col: must, Act: api.ACascade}),
		turn(api.ErrNone, api.Foreign{Col: key}), turn(api.ErrNone, api.Foreign{Col: many}), turn(api.ErrNone, api.Foreign{Col: -1}),
		turn(api.ErrNone, api.Foreign{Col: farBelow}), turn(api.ErrNone, first, api.Foreign{Col: farAbove}),
		turn(api.ErrNone, api.Foreign{Col: open, Table: 3}), turn(api.ErrNone, api.Foreign{Col: open, Table: -1}),
		turn(api.ErrNone, api.Foreign{Col: open, Table: farBelow}), turn(api.ErrNone, first, api.Foreign{Col: must, Table: farAbove}),
		turn(api.ErrArg, first, first), turn(api.ErrArg, api.Foreign{Col: must}, first),
		turn(api.ErrArg, first, api.Foreign{Col: other}, api.Foreign{Col: must}),
		turn(api.ErrArg, api.Foreign{Col: open, Act: 3}), turn(api.ErrArg, api.Foreign{Col: open, Act: -1}),
		turn(api.ErrArg, api.Foreign{Col: open, Act: farBelow}), turn(api.ErrArg, first, api.Foreign{Col: must, Act: farAbove}),
		turn(api.ErrType, api.Foreign{Col: must, Act: api.ASetNull}),
		// The first one that has an error tells.
		turn(api.ErrType, api.Foreign{Col: must, Act: api.ASetNull}, api.Foreign{Col: many}),
		turn(api.ErrArg, api.Foreign{Col: must}, first, api.Foreign{Col: reg}),
		turn(api.ErrNone, api.Foreign{Col: many}, first, first),
		// Of one of them the first error tells.
		turn(api.ErrNone, api.Foreign{Col: reg, Table: 3, Act: 3}), turn(api.ErrNone, first, api.Foreign{Col: key, Act: 3}),
		turn(api.ErrNone, first, api.Foreign{Col: open, Table: 3}), turn(api.ErrArg, api.Foreign{Col: reg, Act: 3}),
		turn(api.ErrArg, api.Foreign{Col: other}, api.Foreign{Col: must, Act: api.ASetNull}), turn(api.ErrArg, api.Foreign{Col: last}, api.Foreign{Col: reg}),
	}
	for _, col := range []int{reg, multi, multis, count, set, words} {
		for act := range 3 {
			l = append(l, turn(api.ErrType, api.Foreign{Col: col, Act: act}))
		}
	}
	return l
}

// ofSums are faults of bounds.
func ofSums() []fault {
	turn := func(want api.Errno, l ...api.Sum) fault {
		return fault{"sums", func(t *api.Table) { t.Sums = l }, want}
	}
	first := api.Sum{Col: open, By: must, Max: 5}
	l := []fault{
		turn(api.OK), turn(api.OK, first), turn(api.OK, first, api.Sum{Col: must, By: open}),
		turn(api.OK, first, api.Sum{Col: open, By: other}, api.Sum{Col: other, By: must}),
		turn(api.OK, api.Sum{Col: other, By: must, Max: api.MaxNum}, first),
		turn(api.ErrNone, api.Sum{Col: key, By: open}), turn(api.ErrNone, api.Sum{Col: open, By: key}), turn(api.ErrNone, api.Sum{}),
		turn(api.ErrNone, api.Sum{Col: many, By: open}), turn(api.ErrNone, api.Sum{Col: open, By: many}),
		turn(api.ErrNone, api.Sum{Col: -1, By: open}), turn(api.ErrNone, api.Sum{Col: open, By: -1}),
		turn(api.ErrNone, api.Sum{Col: farAbove, By: open}), turn(api.ErrNone, first, api.Sum{Col: open, By: farBelow}),
		turn(api.ErrArg, api.Sum{Col: open, By: open}), turn(api.ErrArg, first, api.Sum{Col: must, By: must}),
		turn(api.ErrArg, api.Sum{Col: open, By: must, Max: -1}), turn(api.ErrArg, api.Sum{Col: open, By: must, Max: api.MaxNum + 1}),
		turn(api.ErrArg, api.Sum{Col: open, By: must, Max: farBelow}), turn(api.ErrArg, first, api.Sum{Col: must, By: open, Max: farAbove}),
		turn(api.ErrThere, first, first), turn(api.ErrThere, first, api.Sum{Col: must, By: open}, api.Sum{Col: open, By: must, Max: 6}),
		// The first one that has an error tells.
		turn(api.ErrThere, first, first, api.Sum{}), turn(api.ErrType, api.Sum{Col: reg, By: must}, api.Sum{Col: open, By: open}),
		turn(api.ErrArg, api.Sum{Col: open, By: open}, api.Sum{Col: key, By: open}),
		// Of one of them the first error tells.
		turn(api.ErrNone, api.Sum{Col: key, By: key, Max: -1}), turn(api.ErrNone, api.Sum{Col: many, By: many}),
		turn(api.ErrNone, api.Sum{Col: reg, By: many, Max: -1}), turn(api.ErrArg, api.Sum{Col: reg, By: must, Max: -1}),
		turn(api.ErrArg, api.Sum{Col: reg, By: reg}), turn(api.ErrArg, first, api.Sum{Col: open, By: must, Max: -1}),
	}
	for _, col := range []int{reg, multi, multis, count, set, words} {
		l = append(l, turn(api.ErrType, api.Sum{Col: col, By: must}), turn(api.ErrType, api.Sum{Col: open, By: col}))
	}
	return l
}

func faults() []fault {
	return slices.Concat(ofTables(), ofColumns(), ofUnique(), ofForeign(), ofSums())
}

func TestP11_1Name(t *testing.T) {
	for s, want := range map[string]bool{
		"a": true, "z": true, "a_1": true, "item": true, "a0": true, "z9": true, "a_": true, "a__": true, "abcdefghijkl": true, "a12345678901": true, "a___________": true,
		"": false, "1": false, "_": false, "_a": false, "0a": false, "9": false, "A": false, "aB": false, "a b": false, "a ": false, " a": false, "a-b": false, "a.b": false,
		"abcdefghijklm": false, "a123456789012": false, "é": false, "aé": false, "abcdefghijké": false, "a\x00": false, "\x00": false, "a\xff": false, "a\n": false,
	} {
		if schema.Name(s) != want {
			t.Errorf("P11.1: %q: %t", s, !want)
		}
	}
	if schema.Name(strings.Repeat("a", 1<<20)) {
		t.Error("P11.1: 2^20 letters")
	}
}

func TestP11_1EachByte(t *testing.T) {
	for b := range 256 {
		for c := range 256 {
			for _, s := range []string{string([]byte{byte(b)}), string([]byte{byte(b), byte(c)}), string([]byte{byte(b), 'x', byte(c), 'y'})} {
				if schema.Name(s) != name(s) {
					t.Fatalf("P11.1: %q", s)
				}
			}
		}
		for size := range 15 {
			for at := range size {
				s := []byte(strings.Repeat("q", size))
				s[at] = byte(b)
				if schema.Name(string(s)) != name(string(s)) {
					t.Fatalf("P11.1: %q", s)
				}
			}
		}
	}
}

func TestP11_2EachFault(t *testing.T) {
	for _, f := range faults() {
		s := three()
		f.turn(&s.Tables[1])
		if e := schema.Right(s); e != f.want {
			t.Errorf("P11.2: %s: %d, want %d of %v", f.what, e, f.want, s.Tables[1])
		}
		if e := right(s); e != f.want {
			t.Errorf("P11.2: by its words %s: %d, want %d of %v", f.what, e, f.want, s.Tables[1])
		}
	}
}

// TestP11_2TwoFaults: of two in one table that tells which the promise names first.
func TestP11_2TwoFaults(t *testing.T) {
	for i, f := range faults() {
		for j, g := range faults() {
			s := three()
			f.turn(&s.Tables[1])
			g.turn(&s.Tables[1])
			if e, want := schema.Right(s), right(s); e != want {
				t.Fatalf("P11.2: %d %s, %d %s: %d, want %d of %v", i, f.what, j, g.what, e, want, s.Tables[1])
			}
		}
	}
}

// TestP11_2TwoTables: of two tables the first one that has an error tells, whatever that is.
func TestP11_2TwoTables(t *testing.T) {
	for _, f := range faults() {
		for _, g := range faults() {
			s := three()
			f.turn(&s.Tables[1])
			g.turn(&s.Tables[2])
			want := f.want
			if want == api.OK {
				if want = g.want; want == api.OK && s.Tables[1].Name == s.Tables[2].Name {
					want = api.ErrThere
				}
			}
			if e := schema.Right(s); e != want {
				t.Fatalf("P11.2: %s, then %s: %d, want %d", f.what, g.what, e, want)
			}
		}
	}
}

// TestP11_2Order: each bullet's fault is told ahead of those of all behind it, and each clause's of one thing likewise.
func TestP11_2Order(t *testing.T) {
	inOrder := []fault{
		{"name", func(t *api.Table) { t.Name = "" }, api.ErrArg},
		{"size", func(t *api.Table) { t.Sums = make([]api.Sum, api.MaxCols+1) }, api.ErrBound},
		{"column 3's type", func(t *api.Table) { t.Cols[other].Type = 0 }, api.ErrType},
		{"column 4's kind", func(t *api.Table) { t.Cols[reg].Kind = 5 }, api.ErrArg},
		{"column 5's name", func(t *api.Table) { t.Cols[multi].Name = "reg" }, api.ErrThere},
		{"column 9's null", func(t *api.Table) { t.Cols[words].Null = true }, api.ErrArg},
		{"key", func(t *api.Table) { t.Cols[key].Null = true }, api.ErrType},
		{"unique", func(t *api.Table) { t.Unique[1] = open }, api.ErrArg},
		{"unique behind", func(t *api.Table) { t.Unique[2] = many }, api.ErrNone},
		{"foreign", func(t *api.Table) { t.Foreign[0].Table = 3 }, api.ErrNone},
		{"foreign behind", func(t *api.Table) { t.Foreign[1].Act = api.ASetNull }, api.ErrType},
		{"sum", func(t *api.Table) { t.Sums[1] = t.Sums[0] }, api.ErrThere},
		{"sum behind", func(t *api.Table) { t.Sums[2].Max = -1 }, api.ErrArg},
	}
	for i, f := range inOrder {
		s := three()
		for _, g := range inOrder[i:] {
			g.turn(&s.Tables[1])
		}
		if e := schema.Right(s); e != f.want {
			t.Errorf("P11.2: %s, and all behind it: %d, want %d", f.what, e, f.want)
		}
	}
}

// TestP11_2OneColumn: of one column the first clause that holds tells.
func TestP11_2OneColumn(t *testing.T) {
	for i, x := range []struct {
		c    api.Column
		want api.Errno
	}{
		{api.Column{Name: "", Kind: api.CSet, Type: api.VText, Null: true}, api.ErrArg},
		{api.Column{Name: "id", Kind: 5, Type: api.VText, Null: true}, api.ErrArg},
		{api.Column{Name: "id", Kind: api.CSet, Type: api.VText, Null: true}, api.ErrThere},
		{api.Column{Name: "id", Kind: api.CSet, Type: api.VInt, Null: true}, api.ErrThere},
		{api.Column{Name: "x", Kind: api.CSet, Type: api.VText, Null: true}, api.ErrType},
		{api.Column{Name: "x", Kind: api.CText, Type: api.VInt, Null: true}, api.ErrType},
		{api.Column{Name: "x", Kind: api.CSet, Type: api.VInt, Null: true}, api.ErrArg},
	} {
		s := api.Schema{Tables: []api.Table{{Name: "a", Cols: []api.Column{full("").Cols[key], x.c}}}}
		if e := schema.Right(s); e != x.want {
			t.Errorf("P11.2: %d: %d, want %d", i, e, x.want)
		}
	}
}

// TestP11_2EachColumn: columns of each name, kind and type, as the key, and behind it.
func TestP11_2EachColumn(t *testing.T) {
	rights := 0
	for _, n := range []string{"id", "x", "", "X"} {
		for kind := -1; kind <= 6; kind++ {
			for typ := -1; typ <= 4; typ++ {
				for _, null := range []bool{false, true} {
					c := api.Column{Name: n, Kind: kind, Type: typ, Null: null}
					for _, cols := range [][]api.Column{{c}, {full("").Cols[key], c}, {full("").Cols[key], c, c}} {
						s := api.Schema{Tables: []api.Table{{Name: "a", Cols: cols}}}
						want := right(s)
						if e := schema.Right(s); e != want {
							t.Fatalf("P11.2: %v: %d, want %d", cols, e, want)
						}
						if want == api.OK {
							rights++
						}
					}
				}
			}
		}
	}
	// Two keys, and 4 kinds of CReg, 4 of CMulti, 1 of each other.
	if rights != 2+11 {
		t.Errorf("P11.2: %d are right", rights)
	}
}

func TestP11_2HowManyTables(t *testing.T) {
	var l []api.Table
	for i := range api.MaxTabs + 2 {
		want := api.OK
		if i == 0 || i > api.MaxTabs {
			want = api.ErrBound
		}
		if e := schema.Right(api.Schema{Tables: l}); e != want {
			t.Errorf("P11.2: %d tables: %d", i, e)
		}
		l = append(l, small("t"+strconv.Itoa(i)))
	}
	if e := schema.Right(api.Schema{Tables: []api.Table{}}); e != api.ErrBound {
		t.Errorf("P11.2: an empty list: %d", e)
	}
	if e := schema.Right(api.Schema{Tables: make([]api.Table, api.MaxTabs+1)}); e != api.ErrBound {
		t.Errorf("P11.2: too many tables that aren't right: %d", e)
	}
	l[api.MaxTabs-1].Name = l[0].Name
	if e := schema.Right(api.Schema{Tables: l[:api.MaxTabs]}); e != api.ErrThere {
		t.Errorf("P11.2: the last one has the first one's name: %d", e)
	}
}

// TestP11_2ManyBinds: as many unique columns, foreign keys and bounds as may be.
func TestP11_2ManyBinds(t *testing.T) {
	u := api.Table{Name: "a", Cols: columns(api.MaxCols), Checks: make([]api.Expr, api.MaxCols)}
	for col := 1; col < api.MaxCols; col++ {
		u.Unique = append(u.Unique, col)
		u.Foreign = append(u.Foreign, api.Foreign{Col: col, Act: col % 3})
		u.Sums = append(u.Sums, api.Sum{Col: col, By: col%15 + 1, Max: col})
	}
	u.Sums = append(u.Sums, api.Sum{Col: 1, By: 3})
	s := api.Schema{Tables: []api.Table{u}}
	if e := schema.Right(s); e != api.OK {
		t.Errorf("P11.2: %d", e)
	}
	// The first bound again, as the last one.
	s.Tables[0].Sums[api.MaxCols-1] = api.Sum{Col: 1, By: 2}
	if e := schema.Right(s); e != api.ErrThere {
		t.Errorf("P11.2: the first bound again: %d", e)
	}
	s.Tables[0].Sums[api.MaxCols-1] = api.Sum{Col: 2, By: 1}
	if e := schema.Right(s); e != api.OK {
		t.Errorf("P11.2: the first bound turned round: %d", e)
	}
}

func TestP11_2Example(t *testing.T) {
	id := api.Column{Name: "id", Type: api.VInt}
	s := api.Schema{Tables: []api.Table{
		{Name: "a", Cols: []api.Column{id, {Name: "n", Type: api.VInt}}},
		{Name: "b", Cols: []api.Column{id, {Name: "a", Type: api.VInt}}, Foreign: []api.Foreign{{Col: 1}}},
	}}
	if e := schema.Right(s); e != api.OK {
		t.Errorf("the chapter's example: Right: %d", e)
	}
	if l := schema.Kids(s, 0); !slices.Equal(l, [][2]int{{1, 0}}) {
		t.Errorf("the chapter's example: Kids: %v", l)
	}
}

func TestP11_3Table(t *testing.T) {
	s := api.Schema{Tables: []api.Table{small("x"), small("a"), small(""), small("a"), small("B B")}}
	for n, want := range map[string]int{"x": 0, "a": 1, "": 2, "B B": 4, "b": -1, "X": -1, "ax": -1, "x ": -1, "id": -1} {
		if at, is := schema.Table(s, n); is != (want >= 0) || at != max(want, 0) {
			t.Errorf("P11.3: Table %q: %d, %t", n, at, is)
		}
	}
	if at, is := schema.Table(api.Schema{}, ""); at != 0 || is {
		t.Errorf("P11.3: Table of none: %d, %t", at, is)
	}
}

func TestP11_3Column(t *testing.T) {
	cols := []api.Column{{Name: "x"}, {Name: "a", Kind: 9}, {Name: ""}, {Name: "a"}, {Name: "B B"}}
	for n, want := range map[string]int{"x": 0, "a": 1, "": 2, "B B": 4, "b": -1, "X": -1, "t": -1} {
		if at, is := schema.Column(api.Table{Name: "t", Cols: cols}, n); is != (want >= 0) || at != max(want, 0) {
			t.Errorf("P11.3: Column %q: %d, %t", n, at, is)
		}
	}
	if at, is := schema.Column(api.Table{Name: "t"}, "t"); at != 0 || is {
		t.Errorf("P11.3: Column of none: %d, %t", at, is)
	}
}

func TestP11_3Foreign(t *testing.T) {
	l := []api.Foreign{{Col: 4, Table: 7, Act: 2}, {Col: -3, Table: -9, Act: 8}, {Col: 4, Table: 1}, {Col: 0, Table: 5, Act: 1}}
	u := api.Table{Foreign: l, Cols: columns(9)}
	for col, want := range map[int]api.Foreign{4: l[0], -3: l[1], 0: l[3]} {
		if f, is := schema.Foreign(u, col); !is || f != want {
			t.Errorf("P11.3: Foreign of %d: %v, %t", col, f, is)
		}
	}
	for _, col := range []int{1, 7, -1, 3, 5, farAbove, farBelow} {
		if f, is := schema.Foreign(u, col); is || f != (api.Foreign{}) {
			t.Errorf("P11.3: Foreign of %d: %v, %t", col, f, is)
		}
	}
	if f, is := schema.Foreign(api.Table{}, 0); is || f != (api.Foreign{}) {
		t.Errorf("P11.3: Foreign of a table without any: %v, %t", f, is)
	}
}

func TestP11_3Kids(t *testing.T) {
	points := func(tables ...int) api.Table {
		var u api.Table
		for i, table := range tables {
			u.Foreign = append(u.Foreign, api.Foreign{Col: 90 - i, Table: table, Act: i})
		}
		return u
	}
	s := api.Schema{Tables: []api.Table{points(2, 0, 7, 2), points(), points(0, 2, 1), points(-1, farAbove, 2, farBelow, -1), points(7)}}
	for table, want := range map[int][][2]int{
		0:        {{0, 1}, {2, 0}},
		1:        {{2, 2}},
		2:        {{0, 0}, {0, 3}, {2, 1}, {3, 2}},
		3:        nil,
		4:        nil,
		5:        nil,
		7:        {{0, 2}, {4, 0}},
		-1:       {{3, 0}, {3, 4}},
		-2:       nil,
		farAbove: {{3, 1}},
		farBelow: {{3, 3}},
	} {
		if l := schema.Kids(s, table); !slices.Equal(l, want) {
			t.Errorf("P11.3: Kids of %d: %v, want %v", table, l, want)
		}
	}
	if l := schema.Kids(api.Schema{}, 0); len(l) != 0 {
		t.Errorf("P11.3: Kids without tables: %v", l)
	}
	if l := schema.Kids(three(), 1); !slices.Equal(l, [][2]int{{0, 1}, {1, 1}, {2, 1}}) {
		t.Errorf("P11.3: Kids of the one between: %v", l)
	}
}

// rights are schemas that are right.
func rights() []api.Schema {
	var l []api.Schema
	for _, f := range faults() {
		if s := three(); f.want == api.OK {
			f.turn(&s.Tables[1])
			l = append(l, s, api.Schema{Tables: []api.Table{s.Tables[1], s.Tables[2], full("d")}})
		}
	}
	return l
}

func TestP11_4EachIsFound(t *testing.T) {
	for _, s := range rights() {
		if schema.Right(s) != api.OK {
			t.Fatalf("P11.4: not right: %v", s)
		}
		for i, u := range s.Tables {
			if at, is := schema.Table(s, u.Name); at != i || !is {
				t.Errorf("P11.4: table %d is found at %d, %t", i, at, is)
			}
			for j, c := range u.Cols {
				if at, is := schema.Column(u, c.Name); at != j || !is {
					t.Errorf("P11.4: column %d is found at %d, %t", j, at, is)
				}
			}
			for _, f := range u.Foreign {
				if g, is := schema.Foreign(u, f.Col); g != f || !is {
					t.Errorf("P11.4: %v is found as %v, %t", f, g, is)
				}
			}
		}
	}
}

func TestP11_4EachIsAKid(t *testing.T) {
	for _, s := range rights() {
		of := map[[2]int][]int{}
		for table := -1; table <= len(s.Tables); table++ {
			for _, k := range schema.Kids(s, table) {
				of[k] = append(of[k], table)
			}
		}
		keys := 0
		for i, u := range s.Tables {
			for j, f := range u.Foreign {
				if l := of[[2]int{i, j}]; !slices.Equal(l, []int{f.Table}) {
					t.Errorf("P11.4: (%d, %d) is a kid of %v", i, j, l)
				}
				keys++
			}
		}
		if len(of) != keys {
			t.Errorf("P11.4: %d kids of %d keys", len(of), keys)
		}
	}
}

// TestR1OfMany: a schema may be of many things; none of them is asked for each other one.
func TestR1OfMany(t *testing.T) {
	const far = 200000
	wide := small("a")
	wide.Cols = columns(far)
	if e := schema.Right(api.Schema{Tables: []api.Table{wide}}); e != api.ErrBound {
		t.Errorf("R1: many columns: %d", e)
	}
	bound := small("a")
	bound.Foreign = make([]api.Foreign, far)
	if e := schema.Right(api.Schema{Tables: []api.Table{bound}}); e != api.ErrBound {
		t.Errorf("R1: many foreign keys: %d", e)
	}
	long := api.Schema{Tables: make([]api.Table, far)}
	long.Tables[far-1] = bound
	if e := schema.Right(long); e != api.ErrBound {
		t.Errorf("R1: many tables: %d", e)
	}
	if at, is := schema.Table(long, "a"); at != far-1 || !is {
		t.Errorf("R1: the last table of many: %d, %t", at, is)
	}
	if at, is := schema.Column(wide, wide.Cols[far-1].Name); at != far-1 || !is {
		t.Errorf("R1: the last column of many: %d, %t", at, is)
	}
	if l := schema.Kids(long, 0); len(l) != far || l[far-1] != [2]int{far - 1, far - 1} {
		t.Errorf("R1: %d kids", len(l))
	}
}

func TestR3NothingIsWritten(t *testing.T) {
	for _, f := range faults() {
		s, same := three(), three()
		f.turn(&s.Tables[1])
		f.turn(&same.Tables[1])
		schema.Right(s)
		schema.Table(s, "c")
		schema.Column(s.Tables[1], "set")
		schema.Foreign(s.Tables[1], other)
		kids := schema.Kids(s, 2)
		if !reflect.DeepEqual(s, same) {
			t.Fatalf("R3: written into: %s", f.what)
		}
		was := schema.Kids(s, 2)
		for i := range kids {
			kids[i] = [2]int{-7, -7}
		}
		if !slices.Equal(schema.Kids(s, 2), was) || !reflect.DeepEqual(s, same) {
			t.Fatalf("R3: kids share memory: %s", f.what)
		}
	}
}

// TestP11_2ChecksPlayNoPart: what checks are is asked for elsewhere (14).
func TestP11_2ChecksPlayNoPart(t *testing.T) {
	for i, e := range []api.Expr{{}, {Kind: -1}, {Kind: api.ECol, N: farBelow}, {Kind: api.ENot, Of: make([]api.Expr, 50)}, {Kind: api.ELit, Val: api.Value{Kind: 9, N: farAbove, S: strings.Repeat("x", 300)}}} {
		s := three()
		s.Tables[1].Checks = []api.Expr{e, e}
		for range 3 {
			if e := schema.Right(s); e != api.OK {
				t.Errorf("P11.2: check %d: %d", i, e)
			}
		}
	}
}
