package text_test

import (
	"math"
	"slices"
	"strings"
	"testing"

	"homestead/api"
	"homestead/text"
)

func num(n int) api.Value { return api.Value{Kind: api.VInt, N: n} }

func word(s string) api.Value { return api.Value{Kind: api.VText, S: s} }

func dot(dev, seq int) api.Dot { return api.Dot{Dev: dev, Seq: seq} }

func stamp(time, dev, seq int) api.Stamp { return api.Stamp{Time: time, Dev: dev, Seq: seq} }

// root is a byte of (dev, seq) that stands behind none.
func root(b byte, time, dev, seq, at int) api.Part {
	return api.Part{Val: num(int(b)), Dot: dot(dev, seq), At: at, Time: time}
}

// on is a byte of (dev, seq) that stands behind p.
func on(p api.Part, b byte, time, dev, seq, at int) api.Part {
	q := root(b, time, dev, seq, at)
	q.After, q.AfterAt = p.Dot, p.At
	return q
}

func gone(p api.Part) api.Part {
	p.Gone = true
	return p
}

func cell(parts ...api.Part) api.Cell { return api.Cell{Kind: api.CText, Parts: parts} }

func same(a, b api.Cell) bool {
	return a.Kind == b.Kind && a.Val == b.Val && slices.Equal(a.Parts, b.Parts)
}

// less is P4.1's Less by its words, of two parts' stamps.
func less(p, q api.Part) bool {
	if p.Time != q.Time {
		return p.Time < q.Time
	}
	if p.Dot.Dev != q.Dot.Dev {
		return p.Dot.Dev < q.Dot.Dev
	}
	return p.Dot.Seq < q.Dot.Seq
}

func within(n, from, to int) bool { return from <= n && n <= to }

// formed tells whether a part is, by the chapter's words.
func formed(p api.Part) bool {
	own := p.Val.Kind == api.VInt && within(p.Val.N, 0, 255) && p.Val.S == "" &&
		within(p.Time, 1, api.MaxTime) && within(p.Dot.Dev, 1, api.MaxDev) && within(p.Dot.Seq, 1, api.MaxSeq) && within(p.At, 0, api.MaxRows-1)
	if p.After == (api.Dot{}) {
		return own && p.AfterAt == 0
	}
	return own && within(p.After.Dev, 1, api.MaxDev) && within(p.After.Seq, 1, api.MaxSeq) && within(p.AfterAt, 0, api.MaxRows-1)
}

// whole tells whether parts are, by the chapter's words.
func whole(l []api.Part) bool {
	for i, p := range l {
		if !formed(p) {
			return false
		}
		parents := 0
		for j, q := range l {
			if i != j && p.Dot == q.Dot && (p.At == q.At || p.Time != q.Time) {
				return false
			}
			if q.Dot == p.After && q.At == p.AfterAt {
				if !less(q, p) && !(!less(p, q) && q.At < p.At) {
					return false
				}
				parents++
			}
		}
		if p.After != (api.Dot{}) && parents == 0 {
			return false
		}
	}
	return true
}

// order is Order by the words of P10.1.
func order(l []api.Part) []api.Part {
	if len(l) > api.MaxRows || !whole(l) {
		return nil
	}
	return hanging(l, api.Dot{}, 0)
}

// hanging are those of whole parts that hang on the children of one.
func hanging(l []api.Part, after api.Dot, afterAt int) []api.Part {
	var children, out []api.Part
	for _, p := range l {
		if p.After == after && p.AfterAt == afterAt {
			i := 0
			for i < len(children) && (less(p, children[i]) || !less(children[i], p) && children[i].At < p.At) {
				i++
			}
			children = slices.Insert(children, i, p)
		}
	}
	for _, p := range children {
		out = append(append(out, p), hanging(l, p.Dot, p.At)...)
	}
	return out
}

// right is Right by the words of P10.2.
func right(c api.Cell) api.Errno {
	if c.Kind != api.CText {
		return api.ErrType
	}
	if c.Val != (api.Value{}) || !whole(c.Parts) {
		return api.ErrArg
	}
	if len(c.Parts) > api.MaxRows {
		return api.ErrBound
	}
	if !slices.Equal(c.Parts, order(c.Parts)) {
		return api.ErrForm
	}
	return api.OK
}

// typed is Type by the words of P10.3.
func typed(c api.Cell, s string, who api.Stamp, after api.Dot, at int) (api.Cell, api.Errno) {
	if e := right(c); e != api.OK {
		return api.Cell{}, e
	}
	d, first, there, clash := dot(who.Dev, who.Seq), 0, after == api.Dot{} && at == 0, false
	for _, p := range c.Parts {
		if p.Dot == d {
			if p.Time != who.Time {
				return api.Cell{}, api.ErrArg
			}
			first = max(first, p.At+1)
		}
		if p.Dot == after && p.At == at {
			there = true
			clash = !less(p, api.Part{Time: who.Time, Dot: d}) && !(p.Dot == d && p.Time == who.Time)
		}
	}
	switch {
	case !within(who.Time, 1, api.MaxTime) || !within(who.Dev, 1, api.MaxDev) || !within(who.Seq, 1, api.MaxSeq):
		return api.Cell{}, api.ErrArg
	case len(s) > api.MaxText || len(c.Parts)+len(s) > api.MaxRows || len(s) > 0 && first+len(s)-1 > api.MaxRows-1:
		return api.Cell{}, api.ErrBound
	case !there:
		return api.Cell{}, api.ErrNone
	case clash:
		return api.Cell{}, api.ErrClock
	}
	l := slices.Clone(c.Parts)
	for i, b := range []byte(s) {
		p := root(b, who.Time, who.Dev, who.Seq, first+i)
		if p.After, p.AfterAt = after, at; i > 0 {
			p.After, p.AfterAt = d, first+i-1
		}
		l = append(l, p)
	}
	return cell(order(l)...), api.OK
}

// show is Show by the words of P10.4.
func show(c api.Cell) api.Value {
	if right(c) != api.OK {
		return api.Value{}
	}
	s := ""
	for _, p := range c.Parts {
		if !p.Gone && len(s) < api.MaxText {
			s += string([]byte{byte(p.Val.N)})
		}
	}
	return word(s)
}

// faults turn a byte that stands behind (1, 1)'s byte 0, at the time 5, into one that isn't formed.
func faults() map[string]func(p *api.Part) {
	return map[string]func(p *api.Part){
		"-1":                func(p *api.Part) { p.Val.N = -1 },
		"256":               func(p *api.Part) { p.Val.N = 256 },
		"MinInt":            func(p *api.Part) { p.Val.N = math.MinInt },
		"MaxInt":            func(p *api.Part) { p.Val.N = math.MaxInt },
		"nothing":           func(p *api.Part) { p.Val = api.Value{} },
		"nothing of a byte": func(p *api.Part) { p.Val.Kind = api.VNull },
		"a text":            func(p *api.Part) { p.Val = word("x") },
		"a text of a byte":  func(p *api.Part) { p.Val.Kind = api.VText },
		"Kind 3":            func(p *api.Part) { p.Val.Kind = 3 },
		"a number with S":   func(p *api.Part) { p.Val.S = "x" },
		"Time 0":            func(p *api.Part) { p.Time = 0 },
		"Time -1":           func(p *api.Part) { p.Time = -1 },
		"Time MaxTime+1":    func(p *api.Part) { p.Time = api.MaxTime + 1 },
		"Time MaxInt":       func(p *api.Part) { p.Time = math.MaxInt },
		"Dev 0":             func(p *api.Part) { p.Dot.Dev = 0 },
		"Dev -1":            func(p *api.Part) { p.Dot.Dev = -1 },
		"Dev MaxDev+1":      func(p *api.Part) { p.Dot.Dev = api.MaxDev + 1 },
		"Seq 0":             func(p *api.Part) { p.Dot.Seq = 0 },
		"Seq MinInt":        func(p *api.Part) { p.Dot.Seq = math.MinInt },
		"Seq MaxSeq+1":      func(p *api.Part) { p.Dot.Seq = api.MaxSeq + 1 },
		"no dot":            func(p *api.Part) { p.Dot = api.Dot{} },
		"At -1":             func(p *api.Part) { p.At = -1 },
		"At MaxRows":        func(p *api.Part) { p.At = api.MaxRows },
		"At MaxInt":         func(p *api.Part) { p.At = math.MaxInt },
		"After.Dev 0":       func(p *api.Part) { p.After.Dev = 0 },
		"After.Seq 0":       func(p *api.Part) { p.After.Seq = 0 },
		"AfterAt of none":   func(p *api.Part) { p.After, p.AfterAt = api.Dot{}, 1 },
		"AfterAt -1":        func(p *api.Part) { p.AfterAt = -1 },
		"none's -1":         func(p *api.Part) { p.After, p.AfterAt = api.Dot{}, -1 },
		"another Seq":       func(p *api.Part) { p.After.Seq = 2 },
		"another Dev":       func(p *api.Part) { p.After.Dev = 2 },
		"another AfterAt":   func(p *api.Part) { p.AfterAt = 1 },
		"a later parent":    func(p *api.Part) { p.Time = 1 },
		"itself":            func(p *api.Part) { p.After, p.AfterAt = p.Dot, p.At },
		"no part at all":    func(p *api.Part) { *p = api.Part{} },
	}
}

// beyond turn a part without a parent into one that isn't formed, for which nothing else refuses it.
func beyond() map[string]func(p *api.Part) {
	return map[string]func(p *api.Part){
		"Val":      func(p *api.Part) { p.Val = num(256) },
		"Dev low":  func(p *api.Part) { p.Dot.Dev = 0 },
		"Dev":      func(p *api.Part) { p.Dot.Dev = api.MaxDev + 1 },
		"Seq low":  func(p *api.Part) { p.Dot.Seq = 0 },
		"Seq":      func(p *api.Part) { p.Dot.Seq = api.MaxSeq + 1 },
		"At low":   func(p *api.Part) { p.At = -1 },
		"At":       func(p *api.Part) { p.At = api.MaxRows },
		"Time low": func(p *api.Part) { p.Time = 0 },
		"Time":     func(p *api.Part) { p.Time = api.MaxTime + 1 },
	}
}

// small are bytes of few names, times and parents, right and wrong.
func small() []api.Part {
	a, b := root('a', 1, 1, 1, 0), root('b', 2, 2, 1, 0)
	a1, b1 := on(a, 'c', 1, 1, 1, 1), on(a, 'd', 2, 2, 1, 1)
	return []api.Part{
		a, b, a1, b1,
		root('e', 2, 1, 1, 0),   // a's name at another time
		root('f', 1, 1, 1, 1),   // a's dot at another place
		on(b, 'g', 1, 1, 1, 2),  // behind one that is later
		on(b1, 'h', 2, 2, 1, 0), // behind one of its own that is behind it
		on(a1, 'i', 1, 2, 1, 0), // b's name at another time
		on(a, 'j', 1, 3, 1, 0),  // by a's time, of a device above
		gone(on(a, 'k', 3, 1, 2, 0)),
		on(a1, 'l', 3, 1, 2, 1),
		on(b, 'm', 3, 1, 2, 2),
		gone(root('n', 1, 1, 2, 5)),
		root('o', 2, 3, 1, 7),
		{},
		root('p', 0, 1, 1, 3),
		on(api.Part{At: 2}, 'q', 2, 2, 2, 0), // the zero name has no place 2
	}
}

// lists are those of up to three small parts, in each order, and some of four.
func lists() [][]api.Part {
	l := [][]api.Part{nil, {}}
	for i, p := range small() {
		l = append(l, []api.Part{p})
		for j, q := range small() {
			l = append(l, []api.Part{p, q})
			for k, r := range small() {
				l = append(l, []api.Part{p, q, r})
				if (i+j+k)%3 == 0 {
					l = append(l, []api.Part{p, r, small()[2], q}, []api.Part{q, p, small()[0], r})
				}
			}
		}
	}
	return l
}

// column are whole parts, each behind the one ahead, of so many transactions: the deepest that may be.
func column(many int) []api.Part {
	l := []api.Part{root('a', 1, 1, 1, 0)}
	for i := 1; i < many; i++ {
		l = append(l, on(l[i-1], byte('a'+i%26), i+1, 1+i%2, i+1, 0))
	}
	return l
}

// row are whole parts, none of which has a parent, in their order.
func row(many int) []api.Part {
	var l []api.Part
	for i := range many {
		l = append(l, root(byte('a'+i%26), many-i, 1, many-i, 0))
	}
	return l
}

func TestP10_1Order(t *testing.T) {
	wholes := 0
	for _, l := range lists() {
		got, want := text.Order(l), order(l)
		if !slices.Equal(got, want) {
			t.Fatalf("P10.1: Order(%v) = %v, want %v", l, got, want)
		}
		if len(want) > 2 {
			wholes++
		}
	}
	if wholes < 200 {
		t.Errorf("only %d whole lists are asked", wholes)
	}
}

func TestP10_1OrderOfFew(t *testing.T) {
	a := root('a', 1, 1, 1, 0)
	b, x, y := on(a, 'b', 1, 1, 1, 1), on(a, 'x', 2, 2, 1, 0), on(a, 'y', 3, 3, 1, 0)
	for i, x := range []struct{ in, want []api.Part }{
		{[]api.Part{b, a}, []api.Part{a, b}},
		{[]api.Part{x, b, a}, []api.Part{a, x, b}},
		{[]api.Part{b, x, y, a}, []api.Part{a, y, x, b}},
		// Of one time by devices, of one device by numbers, both falling.
		{[]api.Part{root('p', 4, 1, 2, 0), root('q', 4, 2, 1, 0), root('r', 4, 1, 9, 0), root('s', 5, 1, 1, 0)}, []api.Part{root('s', 5, 1, 1, 0), root('q', 4, 2, 1, 0), root('r', 4, 1, 9, 0), root('p', 4, 1, 2, 0)}},
		// Of one stamp by At, rising, whatever the bytes are.
		{[]api.Part{root('p', 4, 1, 2, 10), root('r', 4, 1, 2, 2), root('q', 4, 1, 2, 9)}, []api.Part{root('r', 4, 1, 2, 2), root('q', 4, 1, 2, 9), root('p', 4, 1, 2, 10)}},
		// What hangs on the first one stands ahead of the second one, however late.
		{[]api.Part{root('p', 4, 1, 2, 0), root('q', 5, 2, 1, 0), on(root('q', 5, 2, 1, 0), 'r', 6, 2, 2, 0), on(root('p', 4, 1, 2, 0), 's', 9, 3, 1, 0)}, []api.Part{root('q', 5, 2, 1, 0), on(root('q', 5, 2, 1, 0), 'r', 6, 2, 2, 0), root('p', 4, 1, 2, 0), on(root('p', 4, 1, 2, 0), 's', 9, 3, 1, 0)}},
		// What is gone is a part as others are.
		{[]api.Part{gone(b), gone(a), x0(gone(a))}, []api.Part{gone(a), x0(a), gone(b)}},
		// All bounds are in.
		{[]api.Part{on(root(255, api.MaxTime, 1, 1, 0), 0, api.MaxTime, api.MaxDev, api.MaxSeq, api.MaxRows-1), root(255, api.MaxTime, 1, 1, 0)}, []api.Part{root(255, api.MaxTime, 1, 1, 0), on(root(255, api.MaxTime, 1, 1, 0), 0, api.MaxTime, api.MaxDev, api.MaxSeq, api.MaxRows-1)}},
		{[]api.Part{on(root(0, 1, api.MaxDev, api.MaxSeq, api.MaxRows-1), 7, 2, 1, 1, 0), root(0, 1, api.MaxDev, api.MaxSeq, api.MaxRows-1)}, []api.Part{root(0, 1, api.MaxDev, api.MaxSeq, api.MaxRows-1), on(root(0, 1, api.MaxDev, api.MaxSeq, api.MaxRows-1), 7, 2, 1, 1, 0)}},
		// Not whole.
		{[]api.Part{b}, nil},
		{[]api.Part{a, a}, nil},
		{[]api.Part{a, gone(a)}, nil},
		{[]api.Part{a, root('b', 1, 1, 1, 0)}, nil},
		{[]api.Part{a, root('b', 2, 1, 1, 5)}, nil},
		{[]api.Part{a, on(a, 'b', 1, 1, 1, 0)}, nil},
		{[]api.Part{on(root('b', 1, 1, 1, 2), 'a', 1, 1, 1, 1), root('b', 1, 1, 1, 2)}, nil},
		{[]api.Part{on(root('b', 1, 1, 1, 2), 'a', 1, 1, 1, 3), on(root('b', 1, 1, 1, 3), 'a', 1, 1, 1, 2)}, nil},
		{[]api.Part{root('b', 5, 1, 1, 0), on(root('b', 5, 1, 1, 0), 'a', 4, 2, 1, 0)}, nil},
		{[]api.Part{root('b', 5, 2, 1, 0), on(root('b', 5, 2, 1, 0), 'a', 5, 1, 7, 9)}, nil},
		{[]api.Part{root('b', 5, 2, 8, 0), on(root('b', 5, 2, 8, 0), 'a', 5, 2, 7, 9)}, nil},
	} {
		if l := text.Order(x.in); !slices.Equal(l, x.want) {
			t.Errorf("P10.1: %d: %v, want %v", i, l, x.want)
		}
	}
}

// x0 is a byte behind p.
func x0(p api.Part) api.Part { return on(p, 'x', 2, 2, 1, 0) }

func TestP10_1OrderOfMany(t *testing.T) {
	for name, made := range map[string]func(many int) []api.Part{"column": column, "row": row} {
		l := made(api.MaxRows)
		turned := slices.Clone(l)
		slices.Reverse(turned)
		if got := text.Order(turned); !slices.Equal(got, l) {
			t.Errorf("P10.1: a %s of MaxRows parts: %d parts", name, len(got))
		}
		if got := text.Order(made(api.MaxRows + 1)); len(got) != 0 {
			t.Errorf("P10.1: a %s of more than MaxRows parts: %d parts", name, len(got))
		}
	}
}

func TestP10_2New(t *testing.T) {
	if c := text.New(); !same(c, cell()) || text.Right(c) != api.OK || text.Show(c) != word("") {
		t.Errorf("P10.2: %v", c)
	}
}

func TestP10_2Right(t *testing.T) {
	for _, l := range lists() {
		if e, want := text.Right(cell(l...)), right(cell(l...)); e != want {
			t.Fatalf("P10.2: Right of %v: %d, want %d", l, e, want)
		}
	}
}

func TestP10_2RightOfFew(t *testing.T) {
	a := root('a', 1, 1, 1, 0)
	b := on(a, 'b', 1, 1, 1, 1)
	more := row(api.MaxRows + 1)
	turned := row(api.MaxRows + 1)
	slices.Reverse(turned)
	for i, x := range []struct {
		c    api.Cell
		want api.Errno
	}{
		{cell(), api.OK},
		{api.Cell{Kind: api.CText, Parts: []api.Part{}}, api.OK},
		{cell(a, b), api.OK},
		{cell(gone(a), b), api.OK},
		{cell(b, a), api.ErrForm},
		{cell(row(api.MaxRows)...), api.OK},
		{cell(column(api.MaxRows)...), api.OK},
		{cell(more...), api.ErrBound},
		{cell(turned...), api.ErrBound},
		{cell(column(api.MaxRows + 1)...), api.ErrBound},
		{cell(append(row(api.MaxRows), api.Part{})...), api.ErrArg},
		{cell(append(more, more[7])...), api.ErrArg},
		{cell(column(api.MaxRows + 9)[1:]...), api.ErrArg},
		{cell(b), api.ErrArg},
		{cell(b, a, a), api.ErrArg},
		// Kinds go ahead of all else, then values.
		{api.Cell{}, api.ErrType},
		{api.Cell{Kind: api.CReg}, api.ErrType},
		{api.Cell{Kind: api.CMulti, Parts: []api.Part{a}}, api.ErrType},
		{api.Cell{Kind: api.CCount, Val: num(0)}, api.ErrType},
		{api.Cell{Kind: api.CSet, Parts: []api.Part{b}}, api.ErrType},
		{api.Cell{Kind: 5, Parts: more}, api.ErrType},
		{api.Cell{Kind: -1}, api.ErrType},
		{api.Cell{Kind: math.MinInt, Val: num(3), Parts: []api.Part{b, a}}, api.ErrType},
		{api.Cell{Kind: api.CText, Val: num(0)}, api.ErrArg},
		{api.Cell{Kind: api.CText, Val: word("")}, api.ErrArg},
		{api.Cell{Kind: api.CText, Val: api.Value{N: 1}, Parts: []api.Part{b, a}}, api.ErrArg},
		{api.Cell{Kind: api.CText, Val: api.Value{S: "x"}, Parts: more}, api.ErrArg},
	} {
		if e := text.Right(x.c); e != x.want {
			t.Errorf("P10.2: %d: %d, want %d", i, e, x.want)
		}
	}
}

func TestP10_2RightOfEachPart(t *testing.T) {
	a := root('a', 2, 1, 1, 0)
	for name, spoil := range faults() {
		p := on(a, 'x', 5, 3, 4, 6)
		if c := cell(a, p); text.Right(c) != api.OK {
			t.Fatalf("P10.2: %v isn't Right", c)
		}
		spoil(&p)
		for _, c := range []api.Cell{cell(a, p), cell(p, a), cell(root('w', 9, 7, 7, 0), a, on(a, 'v', 6, 6, 6, 0), p)} {
			if e := text.Right(c); e != api.ErrArg {
				t.Errorf("P10.2: one with %s: %d", name, e)
			}
			if l := text.Order(c.Parts); len(l) != 0 {
				t.Errorf("P10.1: one with %s: %v", name, l)
			}
			if v := text.Show(c); v != (api.Value{}) {
				t.Errorf("P10.4: one with %s: %v", name, v)
			}
			if n, e := text.Type(c, "x", stamp(9, 9, 9), api.Dot{}, 0); e != api.ErrArg || !same(n, api.Cell{}) {
				t.Errorf("P10.3: one with %s: %v, %d", name, n, e)
			}
		}
	}
	for name, spoil := range beyond() {
		// A parent that isn't formed doesn't hold what hangs on it.
		p := root('a', 2, 1, 1, 0)
		spoil(&p)
		q := on(p, 'b', 3, 3, 3, 3)
		if text.Right(cell(p)) != api.ErrArg || text.Right(cell(p, q)) != api.ErrArg || len(text.Order([]api.Part{q, p})) != 0 {
			t.Errorf("P10.2: one with %s, and what hangs on it", name)
		}
	}
}

// whos are stamps of writers, right and wrong.
func whos() []api.Stamp {
	return []api.Stamp{
		stamp(1, 1, 1), stamp(2, 1, 1), stamp(2, 2, 1), stamp(1, 2, 1), stamp(3, 1, 2), stamp(3, 4, 1), stamp(1, 4, 1), stamp(2, 1, 9),
		stamp(api.MaxTime, api.MaxDev, api.MaxSeq), stamp(0, 4, 1), stamp(-1, 4, 1), stamp(api.MaxTime+1, 4, 1), stamp(4, 0, 1), stamp(4, api.MaxDev+1, 1), stamp(4, 4, 0), stamp(4, 4, api.MaxSeq+1), {},
	}
}

func TestP10_3Type(t *testing.T) {
	codes, at := map[api.Errno]int{}, 0
	for i, l := range lists() {
		c := cell(l...)
		if right(c) != api.OK && i%40 != 0 {
			continue
		}
		for _, p := range append(small(), api.Part{Dot: dot(7, 7)}, api.Part{At: 1}) {
			for _, s := range []string{"", "x", "\xff\x00", "yé"} {
				who := whos()[at%len(whos())]
				at++
				n, e := text.Type(c, s, who, p.Dot, p.At)
				want, err := typed(c, s, who, p.Dot, p.At)
				if e != err || !same(n, want) {
					t.Fatalf("P10.3: Type(%v, %q, %v, %v, %d) = %v, %d, want %v, %d", c, s, who, p.Dot, p.At, n, e, want, err)
				}
				if e == api.OK && text.Right(n) != api.OK {
					t.Fatalf("P10.3: %v isn't Right", n)
				}
				codes[e]++
			}
		}
	}
	for _, e := range []api.Errno{api.OK, api.ErrArg, api.ErrForm, api.ErrNone, api.ErrClock} {
		if codes[e] < 50 {
			t.Errorf("only %d of the code %d are asked", codes[e], e)
		}
	}
}

func TestP10_3TypeOfFew(t *testing.T) {
	a := root('a', 2, 1, 1, 0)
	b, far := on(a, 'b', 2, 1, 1, 1), on(a, 'f', 3, 2, 5, 7)
	c := cell(a, far, b)
	for i, x := range []struct {
		c     api.Cell
		s     string
		who   api.Stamp
		after api.Dot
		at    int
		want  api.Cell
	}{
		{cell(), "", stamp(1, 1, 1), api.Dot{}, 0, cell()},
		{cell(), "a", stamp(2, 1, 1), api.Dot{}, 0, cell(a)},
		{cell(), "ab", stamp(2, 1, 1), api.Dot{}, 0, cell(a, b)},
		{cell(a), "b", stamp(2, 1, 1), dot(1, 1), 0, cell(a, b)},
		// By bytes, not by runes.
		{cell(), "é\xff", stamp(2, 1, 1), api.Dot{}, 0, cell(root(0xc3, 2, 1, 1, 0), on(a, 0xa9, 2, 1, 1, 1), on(b, 0xff, 2, 1, 1, 2))},
		// Its own one is behind what is there of its own, by places, even where there are gaps.
		{c, "x", stamp(3, 2, 5), dot(1, 1), 0, cell(a, far, on(a, 'x', 3, 2, 5, 8), b)},
		{c, "x", stamp(3, 2, 5), dot(2, 5), 7, cell(a, far, on(far, 'x', 3, 2, 5, 8), b)},
		{c, "x", stamp(2, 1, 1), api.Dot{}, 0, cell(a, far, b, root('x', 2, 1, 1, 2))},
		{c, "x", stamp(2, 1, 1), dot(1, 1), 1, cell(a, far, b, on(b, 'x', 2, 1, 1, 2))},
		{c, "x", stamp(2, 1, 1), dot(1, 1), 0, cell(a, far, b, on(a, 'x', 2, 1, 1, 2))},
		// Behind the one that is named, later ones ahead.
		{c, "x", stamp(4, 3, 1), dot(1, 1), 0, cell(a, on(a, 'x', 4, 3, 1, 0), far, b)},
		{c, "x", stamp(3, 2, 4), dot(1, 1), 0, cell(a, far, on(a, 'x', 3, 2, 4, 0), b)},
		{c, "x", stamp(2, 1, 2), dot(1, 1), 0, cell(a, far, on(a, 'x', 2, 1, 2, 0), b)},
		{c, "x", stamp(1, 1, 9), api.Dot{}, 0, cell(a, far, b, root('x', 1, 1, 9, 0))},
		{c, "x", stamp(2, 1, 2), api.Dot{}, 0, cell(root('x', 2, 1, 2, 0), a, far, b)},
		{c, "", stamp(9, 9, 9), dot(1, 1), 0, c},
		// Behind what is gone, which stays gone.
		{cell(gone(a)), "b", stamp(2, 1, 1), dot(1, 1), 0, cell(gone(a), b)},
		{cell(), "a", stamp(api.MaxTime, api.MaxDev, api.MaxSeq), api.Dot{}, 0, cell(root('a', api.MaxTime, api.MaxDev, api.MaxSeq, 0))},
	} {
		n, e := text.Type(x.c, x.s, x.who, x.after, x.at)
		if e != api.OK || !same(n, x.want) || text.Right(n) != api.OK {
			t.Errorf("P10.3: %d: %v, %d, want %v", i, n, e, x.want)
		}
	}
}

func TestP10_3TypeRefuses(t *testing.T) {
	a := root('a', 2, 1, 1, 0)
	b, late := on(a, 'b', 2, 1, 1, 1), on(a, 'f', 5, 2, 5, 7)
	c := cell(a, late, b)
	end := cell(root('e', 2, 1, 1, api.MaxRows-3))
	long := strings.Repeat("x", api.MaxText+1)
	many := cell(row(api.MaxRows - 1)...)
	for i, x := range []struct {
		c     api.Cell
		s     string
		who   api.Stamp
		after api.Dot
		at    int
		want  api.Errno
	}{
		// That of Right goes ahead of all.
		{api.Cell{}, long, stamp(0, 1, 1), dot(9, 9), 0, api.ErrType},
		{api.Cell{Kind: api.CText, Val: num(1)}, long, stamp(2, 2, 2), dot(9, 9), 0, api.ErrArg},
		{cell(row(api.MaxRows + 1)...), "", stamp(0, 1, 1), dot(9, 9), 0, api.ErrBound},
		{cell(b, a), long, stamp(0, 1, 1), dot(9, 9), 0, api.ErrForm},
		{cell(b, a), "", stamp(9, 9, 9), api.Dot{}, 0, api.ErrForm},
		// Then that of who, then bounds.
		{c, long, stamp(0, 1, 1), dot(9, 9), 0, api.ErrArg},
		{c, "x", stamp(-5, 3, 1), api.Dot{}, 0, api.ErrArg},
		{c, "x", stamp(api.MaxTime+1, 3, 1), api.Dot{}, 0, api.ErrArg},
		{c, "x", stamp(9, 0, 1), api.Dot{}, 0, api.ErrArg},
		{c, "x", stamp(9, api.MaxDev+1, 1), api.Dot{}, 0, api.ErrArg},
		{c, "x", stamp(9, 3, 0), api.Dot{}, 0, api.ErrArg},
		{c, "x", stamp(9, 3, api.MaxSeq+1), api.Dot{}, 0, api.ErrArg},
		{c, "", stamp(math.MinInt, math.MaxInt, math.MinInt), api.Dot{}, 0, api.ErrArg},
		{c, long, stamp(3, 1, 1), dot(9, 9), 0, api.ErrArg},
		{c, "", stamp(4, 2, 5), api.Dot{}, 0, api.ErrArg},
		{c, "x", stamp(6, 2, 5), dot(1, 1), 0, api.ErrArg},
		{c, long, stamp(9, 9, 9), dot(9, 9), 0, api.ErrBound},
		{many, "xy", stamp(9, 9, 9), dot(9, 9), 0, api.ErrBound},
		{end, "xyz", stamp(2, 1, 1), dot(9, 9), 0, api.ErrBound},
		{end, "xyz", stamp(2, 1, 1), api.Dot{}, 0, api.ErrBound},
		// Then that of what it stands behind.
		{c, "x", stamp(9, 9, 9), dot(9, 9), 0, api.ErrNone},
		{c, "", stamp(9, 9, 9), dot(9, 9), 0, api.ErrNone},
		{c, "", stamp(1, 9, 9), dot(1, 1), 2, api.ErrNone},
		{c, "x", stamp(9, 9, 9), dot(2, 5), 0, api.ErrNone},
		{c, "x", stamp(9, 9, 9), dot(1, 1), -1, api.ErrNone},
		{c, "x", stamp(9, 9, 9), dot(1, 1), math.MaxInt, api.ErrNone},
		{c, "x", stamp(9, 9, 9), dot(1, 0), 0, api.ErrNone},
		{c, "x", stamp(9, 9, 9), dot(0, 1), 0, api.ErrNone},
		{c, "x", stamp(9, 9, 9), dot(-3, math.MinInt), 0, api.ErrNone},
		{c, "x", stamp(9, 9, 9), api.Dot{}, 1, api.ErrNone},
		{c, "x", stamp(9, 9, 9), api.Dot{}, -1, api.ErrNone},
		{cell(), "x", stamp(9, 9, 9), dot(1, 1), 0, api.ErrNone},
		// Nor may it stand behind its own ones that come.
		{cell(), "xy", stamp(9, 9, 9), dot(9, 9), 0, api.ErrNone},
		{c, "x", stamp(1, 9, 9), dot(1, 1), 0, api.ErrClock},
		{c, "", stamp(1, 9, 9), dot(1, 1), 1, api.ErrClock},
		{c, "x", stamp(4, 9, 9), dot(2, 5), 7, api.ErrClock},
		{c, "x", stamp(5, 1, 9), dot(2, 5), 7, api.ErrClock},
		{c, "x", stamp(5, 2, 4), dot(2, 5), 7, api.ErrClock},
		{c, "x", stamp(2, 1, 1), dot(2, 5), 7, api.ErrClock},
	} {
		n, e := text.Type(x.c, x.s, x.who, x.after, x.at)
		if e != x.want || !same(n, api.Cell{}) {
			t.Errorf("P10.3: %d: %v, %d, want %d", i, n, e, x.want)
		}
	}
}

func TestP10_3TypeAtTheBounds(t *testing.T) {
	long := strings.Repeat("xyz", 70)
	n, e := text.Type(text.New(), long[:api.MaxText], stamp(1, 1, 1), api.Dot{}, 0)
	if e != api.OK || len(n.Parts) != api.MaxText || text.Show(n) != word(long[:api.MaxText]) {
		t.Errorf("P10.3: MaxText bytes: %d parts, %d", len(n.Parts), e)
	}
	many := cell(row(api.MaxRows - 1)...)
	if n, e := text.Type(many, "z", stamp(1, 2, 1), api.Dot{}, 0); e != api.OK || len(n.Parts) != api.MaxRows || text.Right(n) != api.OK {
		t.Errorf("P10.3: MaxRows parts: %d", e)
	} else if again, e := text.Type(n, "", stamp(1, 2, 1), dot(1, 1), 0); e != api.OK || !same(again, n) {
		t.Errorf("P10.3: nothing behind MaxRows parts: %d", e)
	} else if _, e := text.Type(n, "z", stamp(1, 2, 1), dot(9, 9), 0); e != api.ErrBound {
		t.Errorf("P10.3: more than MaxRows parts: %d", e)
	}
	end := cell(root('e', 2, 1, 1, api.MaxRows-3))
	n, e = text.Type(end, "xy", stamp(2, 1, 1), api.Dot{}, 0)
	if want := cell(end.Parts[0], root('x', 2, 1, 1, api.MaxRows-2), on(root('x', 2, 1, 1, api.MaxRows-2), 'y', 2, 1, 1, api.MaxRows-1)); e != api.OK || !same(n, want) {
		t.Errorf("P10.3: up to the last place: %v, %d, want %v", n, e, want)
	}
	// Behind the last place there is room for nothing more, but for nothing there is.
	if again, e := text.Type(n, "", stamp(2, 1, 1), dot(1, 1), api.MaxRows-1); e != api.OK || !same(again, n) {
		t.Errorf("P10.3: nothing behind the last place: %d", e)
	}
	if _, e := text.Type(n, "z", stamp(2, 1, 1), dot(1, 1), api.MaxRows-1); e != api.ErrBound {
		t.Errorf("P10.3: behind the last place: %d", e)
	}
	if _, e := text.Type(n, "z", stamp(2, 1, 2), dot(1, 1), api.MaxRows-1); e != api.OK {
		t.Errorf("P10.3: behind the last place, of another dot: %d", e)
	}
	// Every byte may be.
	var all []byte
	for b := range 256 {
		all = append(all, byte(b))
	}
	n, _ = text.Type(text.New(), string(all[128:]), stamp(1, 1, 1), api.Dot{}, 0)
	m, e := text.Type(text.New(), string(all[:128]), stamp(1, 1, 1), api.Dot{}, 0)
	if e != api.OK || text.Show(m).S+text.Show(n).S != string(all) {
		t.Errorf("P10.3: all bytes: %d", e)
	}
}

func TestP10_4Erase(t *testing.T) {
	for i, l := range lists() {
		if i%3 > 0 && len(l) > 2 {
			continue
		}
		for _, p := range append(small(), api.Part{Dot: dot(7, 7)}, api.Part{Dot: dot(1, 1), At: -1}) {
			c, want := api.Cell{Kind: i % 6, Val: num(i), Parts: l}, slices.Clone(l)
			for i, q := range want {
				if q.Dot == p.Dot && q.At == p.At {
					want[i].Gone = true
				}
			}
			if n := text.Erase(c, p.Dot, p.At); n.Kind != c.Kind || n.Val != c.Val || !slices.Equal(n.Parts, want) {
				t.Fatalf("P10.4: Erase(%v, %v, %d) = %v, want %v", c, p.Dot, p.At, n, want)
			}
		}
	}
}

func TestP10_4EraseOfFew(t *testing.T) {
	a := root('a', 2, 1, 1, 0)
	b, f := on(a, 'b', 2, 1, 1, 1), on(a, 'f', 3, 2, 5, 0)
	c := cell(a, f, b)
	for i, x := range []struct {
		d    api.Dot
		at   int
		want api.Cell
		s    string
	}{
		{dot(1, 1), 0, cell(gone(a), f, b), "fb"},
		{dot(1, 1), 1, cell(a, f, gone(b)), "af"},
		{dot(2, 5), 0, cell(a, gone(f), b), "ab"},
		{dot(1, 1), 2, c, "afb"},
		{dot(2, 1), 0, c, "afb"},
		{dot(1, 5), 0, c, "afb"},
		{api.Dot{}, 0, c, "afb"},
	} {
		n := text.Erase(c, x.d, x.at)
		if !same(n, x.want) || text.Right(n) != api.OK || text.Show(n) != word(x.s) {
			t.Errorf("P10.4: %d: %v, want %v", i, n, x.want)
		}
		if m := text.Erase(n, x.d, x.at); !same(m, n) {
			t.Errorf("P10.4: %d again: %v, want %v", i, m, n)
		}
	}
}

func TestP10_4Show(t *testing.T) {
	for _, l := range lists() {
		if v, want := text.Show(cell(l...)), show(cell(l...)); v != want {
			t.Fatalf("P10.4: Show of %v: %v, want %v", l, v, want)
		}
	}
	a := root('a', 2, 1, 1, 0)
	many := column(api.MaxRows)
	for i := range many[:100] {
		many[2*i].Gone = true
	}
	var s []byte
	for _, p := range many {
		if !p.Gone {
			s = append(s, byte(p.Val.N))
		}
	}
	for i, x := range []struct {
		c    api.Cell
		want api.Value
	}{
		{cell(), word("")},
		{cell(gone(a)), word("")},
		{cell(root(0xff, 1, 1, 1, 0), root(0, 1, 1, 1, 1)), word("\xff\x00")},
		{cell(many...), word(string(s[:api.MaxText]))},
		{cell(many[:2*api.MaxText-100]...), word(string(s[:api.MaxText]))},
		{cell(many[:2*api.MaxText-101]...), word(string(s[:api.MaxText-1]))},
		{cell(column(api.MaxRows + 1)...), api.Value{}},
		{cell(x0(a), a), api.Value{}},
		{api.Cell{}, api.Value{}},
		{api.Cell{Kind: api.CText, Val: word("x")}, api.Value{}},
		{api.Cell{Kind: api.CReg, Val: word("x")}, api.Value{}},
	} {
		if v := text.Show(x.c); v != x.want {
			t.Errorf("P10.4: %d: %v, want %v", i, v, x.want)
		}
	}
}

func TestP10_5ByItsExample(t *testing.T) {
	c, _ := text.Type(text.New(), "ab", stamp(1, 1, 1), api.Dot{}, 0)
	x, e := text.Type(c, "x", stamp(2, 2, 1), dot(1, 1), 0)
	if e != api.OK || text.Show(x) != word("axb") {
		t.Errorf("P10.5: %v, %d", text.Show(x), e)
	}
	y, e := text.Type(x, "y", stamp(3, 3, 1), dot(1, 1), 0)
	if e != api.OK || text.Show(y) != word("ayxb") {
		t.Errorf("P10.5: %v, %d", text.Show(y), e)
	}
	y, _ = text.Type(c, "y", stamp(3, 3, 1), dot(1, 1), 0)
	if x, e := text.Type(y, "x", stamp(2, 2, 1), dot(1, 1), 0); e != api.OK || text.Show(x) != word("ayxb") {
		t.Errorf("P10.5: turned: %v, %d", text.Show(x), e)
	}
}

// numbers tells one number after another, below what is asked, the same ones each time.
func numbers(seed uint64) func(below int) int {
	return func(below int) int {
		seed = seed*6364136223846793005 + 1442695040888963407
		return int(seed >> 33 % uint64(below))
	}
}

// step is bytes that are typed behind a name, or (where there are none) the name that is erased.
type step struct {
	s     string
	after api.Dot
	at    int
}

// act is a transaction: its stamp, its steps, and what its device knew ahead of it.
type act struct {
	who   api.Stamp
	knew  api.Vector
	steps []step
}

func (x act) dot() api.Dot { return dot(x.who.Dev, x.who.Seq) }

// done is what an act makes of a cell.
func done(t *testing.T, c api.Cell, x act) api.Cell {
	for _, s := range x.steps {
		if s.s == "" {
			c = text.Erase(c, s.after, s.at)
			continue
		}
		n, e := text.Type(c, s.s, x.who, s.after, s.at)
		if e != api.OK {
			t.Fatalf("P10.5: %v behind %v: %d", s, c, e)
		}
		c = n
	}
	return c
}

// history is what a few devices did, each of which heard of others on its way; behind each act stand those that knew of it.
func history(t *testing.T, next func(int) int, devices, acts int) []act {
	known, times, cells := make([]api.Vector, devices), make([]int, devices), make([]api.Cell, devices)
	for i := range known {
		known[i], cells[i] = make(api.Vector, devices), text.New()
	}
	var l []act
	for len(l) < acts {
		at := next(devices)
		if from := next(devices); next(2) == 0 {
			for _, x := range l {
				if has(known[from], x.dot()) && !has(known[at], x.dot()) {
					cells[at] = done(t, cells[at], x)
					times[at] = max(times[at], x.who.Time)
					known[at][x.who.Dev-1] = x.who.Seq
				}
			}
			continue
		}
		times[at] += 1 + next(3)
		x := act{who: stamp(times[at], at+1, known[at][at]+1), knew: slices.Clone(known[at])}
		for range 1 + next(3) {
			s := step{s: "abcdefgh"[:next(4)]}
			if l := cells[at].Parts; len(l) > 0 {
				p := l[next(len(l))]
				s.after, s.at = p.Dot, p.At
			}
			if s.s != "" && next(4) == 0 {
				s.after, s.at = api.Dot{}, 0
			}
			cells[at] = done(t, cells[at], act{who: x.who, steps: []step{s}})
			x.steps = append(x.steps, s)
		}
		known[at][at]++
		l = append(l, x)
	}
	return l
}

// has is P5.1's Has, of dots that may be.
func has(v api.Vector, d api.Dot) bool { return d.Seq <= v[d.Dev-1] }

// shuffled puts acts in another order in which each stands behind those that it knew of.
func shuffled(next func(int) int, l []act) []act {
	var out []act
	got, left := api.Vector{0, 0, 0, 0}, slices.Clone(l)
	for len(left) > 0 {
		i := next(len(left))
		ready := true
		for j, n := range left[i].knew {
			ready = ready && n <= got[j]
		}
		if ready {
			got[left[i].who.Dev-1]++
			out, left = append(out, left[i]), slices.Delete(left, i, i+1)
		}
	}
	return out
}

// made is what acts make.
func made(t *testing.T, l []act) api.Cell {
	c := text.New()
	for _, x := range l {
		c = done(t, c, x)
	}
	return c
}

func TestP10_5OneText(t *testing.T) {
	next := numbers(7)
	for range 300 {
		l := history(t, next, 1+next(4), next(12))
		want := made(t, l)
		if text.Right(want) != api.OK || !slices.Equal(want.Parts, text.Order(want.Parts)) {
			t.Fatalf("P10.5: %v isn't Right", want)
		}
		for range 4 {
			if c := made(t, shuffled(next, l)); !same(c, want) {
				t.Fatalf("P10.5: %v make %v, want %v", l, c, want)
			}
		}
	}
}

func TestP10_5WhatIsTypedInOneGo(t *testing.T) {
	next := numbers(5)
	for range 300 {
		c := made(t, history(t, next, 1+next(4), next(12)))
		for i, p := range c.Parts[:max(0, len(c.Parts)-1)] {
			heirs := 0
			for _, q := range c.Parts {
				if q.After == p.Dot && q.AfterAt == p.At {
					heirs++
				}
			}
			q := c.Parts[i+1]
			own := slices.ContainsFunc(c.Parts, func(q api.Part) bool { return q.Dot == p.Dot && q.After == p.Dot && q.AfterAt == p.At })
			if heirs == 1 && own && (q.Dot != p.Dot || q.After != p.Dot || q.AfterAt != p.At) {
				t.Fatalf("P10.5: behind %v stands %v, though nothing was put between", p, q)
			}
			// What stands between is what was put there, or behind that.
			if heirs > 0 && (q.After != p.Dot || q.AfterAt != p.At) {
				t.Fatalf("P10.5: behind %v stands %v, which wasn't put there", p, q)
			}
		}
	}
}

func TestP10_5WhatWasErased(t *testing.T) {
	next := numbers(3)
	for range 300 {
		l := history(t, next, 1+next(4), next(12))
		gone := map[api.Part]bool{}
		for _, x := range l {
			for _, s := range x.steps {
				if s.s == "" {
					gone[api.Part{Dot: s.after, At: s.at}] = true
				}
			}
		}
		for _, p := range made(t, shuffled(next, l)).Parts {
			if p.Gone != gone[api.Part{Dot: p.Dot, At: p.At}] {
				t.Fatalf("P10.5: %v make %v", l, p)
			}
		}
	}
}

// TestR1OfMany: parts may be many; nothing asks each one of them for each other one, and none that is refused goes deep.
func TestR1OfMany(t *testing.T) {
	const many = 200000
	deep := column(many)
	if e := text.Right(cell(deep...)); e != api.ErrBound {
		t.Errorf("R1: %d", e)
	}
	if e := text.Right(cell(append(deep, deep[5])...)); e != api.ErrArg {
		t.Errorf("R1: %d", e)
	}
	if l := text.Order(deep); len(l) != 0 {
		t.Errorf("R1: %d parts", len(l))
	}
	if n, e := text.Type(cell(deep...), "x", stamp(1, 2, 3), api.Dot{}, 0); e != api.ErrBound || len(n.Parts) != 0 {
		t.Errorf("R1: %d", e)
	}
	if v := text.Show(cell(deep...)); v != (api.Value{}) {
		t.Errorf("R1: %v", v)
	}
	if n := text.Erase(cell(deep...), deep[many-1].Dot, 0); !n.Parts[many-1].Gone || len(n.Parts) != many {
		t.Error("R1: not gone")
	}
	if _, e := text.Type(text.New(), strings.Repeat("x", 1<<20), stamp(1, 2, 3), api.Dot{}, 0); e != api.ErrBound {
		t.Errorf("R1: %d", e)
	}
}

// room is a cell whose list has room behind its end, where nothing may be written either.
func room() api.Cell {
	c, _ := text.Type(text.New(), "abc", stamp(1, 1, 1), api.Dot{}, 0)
	return cell(append(make([]api.Part, 0, 9), c.Parts...)...)
}

// spoil writes into all that a list has.
func spoil(l []api.Part) {
	l = l[:cap(l)]
	for i := range l {
		l[i] = root('!', 60, 60, 60, 60)
	}
}

// calls are those that answer parts.
func calls() map[string]func(c api.Cell) []api.Part {
	typed := func(s string, after api.Dot, at int) func(c api.Cell) []api.Part {
		return func(c api.Cell) []api.Part {
			c, _ = text.Type(c, s, stamp(2, 2, 1), after, at)
			return c.Parts
		}
	}
	return map[string]func(c api.Cell) []api.Part{
		"Type ahead":    typed("xy", api.Dot{}, 0),
		"Type between":  typed("xy", dot(1, 1), 1),
		"Type behind":   typed("xy", dot(1, 1), 2),
		"Type nothing":  typed("", dot(1, 1), 2),
		"Type refuses":  typed("xy", dot(1, 1), 3),
		"Erase":         func(c api.Cell) []api.Part { return text.Erase(c, dot(1, 1), 1).Parts },
		"Erase of none": func(c api.Cell) []api.Part { return text.Erase(c, dot(1, 1), 7).Parts },
		"Order":         func(c api.Cell) []api.Part { return text.Order(c.Parts) },
		"Order, turned": func(c api.Cell) []api.Part {
			l := slices.Clone(c.Parts)
			slices.Reverse(l)
			return text.Order(l)
		},
		"Show": func(c api.Cell) []api.Part { return []api.Part{{Val: text.Show(c), At: int(text.Right(c))}} },
	}
}

func TestR3NothingIsShared(t *testing.T) {
	for name, call := range calls() {
		c := room()
		got := call(c)
		if !slices.Equal(c.Parts[:9], room().Parts[:9]) {
			t.Errorf("R3: %s writes into a cell", name)
		}
		was := slices.Clone(got)
		if spoil(c.Parts); !slices.Equal(got, was) {
			t.Errorf("R3: what %s answers is changed by a later write into what was handed in", name)
		}
		c = room()
		first, again := call(c), call(c)
		if spoil(first); !slices.Equal(again, was) || !slices.Equal(c.Parts[:9], room().Parts[:9]) {
			t.Errorf("R3: two answers of %s share memory", name)
		}
	}
}

func TestR4TheSameAgain(t *testing.T) {
	l := history(t, numbers(9), 4, 14)
	want := made(t, l)
	for range 50 {
		turned := slices.Clone(want.Parts)
		slices.Reverse(turned)
		if !same(made(t, l), want) || !slices.Equal(text.Order(turned), want.Parts) {
			t.Error("R4: it answers else")
		}
	}
}
