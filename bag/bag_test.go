package bag_test

import (
	"math"
	"slices"
	"strings"
	"testing"

	"homestead/api"
	"homestead/bag"
)

func num(n int) api.Value { return api.Value{Kind: api.VInt, N: n} }

func dot(dev, seq int) api.Dot { return api.Dot{Dev: dev, Seq: seq} }

func part(n, dev, seq int) api.Part { return api.Part{Val: num(n), Dot: dot(dev, seq)} }

// odd is a part that may not be: it goes by n and its dot alone.
func odd(n, dev, seq, at int) api.Part {
	return api.Part{Val: api.Value{Kind: 7, N: n, S: "x"}, Dot: dot(dev, seq), At: at, Time: 4, After: dot(5, 6), AfterAt: -7, Gone: true}
}

func cell(parts ...api.Part) api.Cell { return api.Cell{Kind: api.CSet, Parts: parts} }

func same(a, b api.Cell) bool {
	return a.Kind == b.Kind && a.Val == b.Val && slices.Equal(a.Parts, b.Parts)
}

// behind tells whether p stands behind q: by numbers, then by Dev, then by Seq.
func behind(p, q api.Part) bool {
	if p.Val.N != q.Val.N {
		return p.Val.N > q.Val.N
	}
	if p.Dot.Dev != q.Dot.Dev {
		return p.Dot.Dev > q.Dot.Dev
	}
	return p.Dot.Seq > q.Dot.Seq
}

// has is P5.1's Has by its words.
func has(v api.Vector, d api.Dot) bool {
	for i, n := range v {
		if i+1 == d.Dev {
			return 1 <= d.Seq && d.Seq <= n
		}
	}
	return false
}

func hasPart(parts []api.Part, p api.Part) bool {
	for _, q := range parts {
		if q.Val.N == p.Val.N && q.Dot == p.Dot {
			return true
		}
	}
	return false
}

// put is Put by the words of P9.2.
func put(c api.Cell, n int, d api.Dot) api.Cell {
	p := part(n, d.Dev, d.Seq)
	if hasPart(c.Parts, p) {
		return c
	}
	parts, in := []api.Part{}, false
	for _, q := range c.Parts {
		if behind(q, p) && !in {
			parts, in = append(parts, p), true
		}
		parts = append(parts, q)
	}
	if !in {
		parts = append(parts, p)
	}
	return api.Cell{Kind: c.Kind, Val: c.Val, Parts: parts}
}

// take is Take by the words of P9.2.
func take(c api.Cell, n int, d api.Dot, knew api.Vector) api.Cell {
	parts := []api.Part{}
	for _, p := range c.Parts {
		if p.Val.N == n && (p.Dot == d || has(knew, p.Dot)) {
			continue
		}
		parts = append(parts, p)
	}
	return api.Cell{Kind: c.Kind, Val: c.Val, Parts: parts}
}

// join is Join by the words of P9.3.
func join(a, b api.Cell, knewA, knewB api.Vector) api.Cell {
	parts := []api.Part{}
	in := func(p api.Part) {
		i := len(parts)
		for i > 0 && behind(parts[i-1], p) {
			i--
		}
		parts = slices.Insert(parts, i, p)
	}
	for _, p := range a.Parts {
		if hasPart(b.Parts, p) || !has(knewB, p.Dot) {
			in(p)
		}
	}
	for _, p := range b.Parts {
		if !hasPart(a.Parts, p) && !has(knewA, p.Dot) {
			in(p)
		}
	}
	return api.Cell{Kind: api.CSet, Parts: parts}
}

// dots are small ones, and those that may not be.
func dots() []api.Dot {
	return []api.Dot{dot(1, 1), dot(1, 2), dot(2, 1), dot(3, 2), dot(0, 1), dot(2, 0), dot(-1, -2), dot(api.MaxDev+1, 1), dot(math.MinInt, 2), dot(math.MaxInt, 1)}
}

// knowns are what a taker or a copy may have known.
func knowns() []api.Vector {
	return []api.Vector{nil, {1}, {2}, {0, 1}, {1, 1}, {2, 0, 2}, {0, 0, 1}, {2, 5, 9}, {-1, 7}, {0, math.MaxInt, 0, 0}}
}

// several are parts of few numbers and dots, right and wrong.
func several() []api.Part {
	l := []api.Part{odd(1, 1, 1, 3), odd(0, 2, 1, 5), part(math.MaxInt, 1, 1), part(math.MinInt, 2, 1), {Dot: dot(1, 1)}}
	for _, n := range []int{-1, 0, 1} {
		for _, d := range dots()[:7] {
			l = append(l, part(n, d.Dev, d.Seq))
		}
	}
	return l
}

// cells are those of two parts at most of several, in whichever order, and some of three.
func cells() []api.Cell {
	l := []api.Cell{cell()}
	for i, p := range several() {
		l = append(l, cell(p))
		for j, q := range several() {
			l = append(l, cell(p, q))
			if (i+j)%5 == 0 {
				l = append(l, cell(q, part(1, 1, 1), p))
			}
		}
	}
	return l
}

// faults turn a part of 5 by (1, 1) into one that may not be.
func faults() map[string]func(p *api.Part) {
	return map[string]func(p *api.Part){
		"Dev 0":            func(p *api.Part) { p.Dot.Dev = 0 },
		"Dev -1":           func(p *api.Part) { p.Dot.Dev = -1 },
		"Dev MaxDev+1":     func(p *api.Part) { p.Dot.Dev = api.MaxDev + 1 },
		"Dev MinInt":       func(p *api.Part) { p.Dot.Dev = math.MinInt },
		"Dev MaxInt":       func(p *api.Part) { p.Dot.Dev = math.MaxInt },
		"Seq 0":            func(p *api.Part) { p.Dot.Seq = 0 },
		"Seq -1":           func(p *api.Part) { p.Dot.Seq = -1 },
		"Seq MaxSeq+1":     func(p *api.Part) { p.Dot.Seq = api.MaxSeq + 1 },
		"Seq MinInt":       func(p *api.Part) { p.Dot.Seq = math.MinInt },
		"Seq MaxInt":       func(p *api.Part) { p.Dot.Seq = math.MaxInt },
		"MaxNum+1":         func(p *api.Part) { p.Val.N = api.MaxNum + 1 },
		"-MaxNum-1":        func(p *api.Part) { p.Val.N = -api.MaxNum - 1 },
		"MinInt":           func(p *api.Part) { p.Val.N = math.MinInt },
		"MaxInt":           func(p *api.Part) { p.Val.N = math.MaxInt },
		"nothing":          func(p *api.Part) { p.Val = api.Value{} },
		"nothing of 5":     func(p *api.Part) { p.Val.Kind = api.VNull },
		"a text":           func(p *api.Part) { p.Val = api.Value{Kind: api.VText, S: "5"} },
		"an empty text":    func(p *api.Part) { p.Val = api.Value{Kind: api.VText} },
		"a text of 5":      func(p *api.Part) { p.Val.Kind = api.VText },
		"a long text":      func(p *api.Part) { p.Val = api.Value{Kind: api.VText, S: strings.Repeat("x", api.MaxText+1)} },
		"Kind 3":           func(p *api.Part) { p.Val.Kind = 3 },
		"Kind -1":          func(p *api.Part) { p.Val.Kind = -1 },
		"a number with S":  func(p *api.Part) { p.Val.S = "x" },
		"At":               func(p *api.Part) { p.At = 1 },
		"Time":             func(p *api.Part) { p.Time = 1 },
		"After.Dev":        func(p *api.Part) { p.After.Dev = 1 },
		"After.Seq":        func(p *api.Part) { p.After.Seq = 1 },
		"AfterAt":          func(p *api.Part) { p.AfterAt = -1 },
		"Gone":             func(p *api.Part) { p.Gone = true },
		"nothing but zero": func(p *api.Part) { *p = api.Part{} },
	}
}

func TestP9_1Right(t *testing.T) {
	for _, c := range []api.Cell{
		cell(),
		{Kind: api.CSet, Parts: []api.Part{}},
		cell(part(0, 1, 1)),
		cell(part(5, api.MaxDev, api.MaxSeq)),
		cell(part(-api.MaxNum, api.MaxDev, 1), part(api.MaxNum, 1, api.MaxSeq)),
		cell(part(5, 1, 1), part(5, 1, 2), part(5, 2, 1), part(5, 3, 1)),
		cell(part(5, 1, 9), part(5, 2, 1)),
		// Numbers go ahead of dots; one dot may put several.
		cell(part(-3, 2, 1), part(4, 9, 9), part(5, 1, 1), part(6, 1, 1)),
		cell(part(-2, 1, 1), part(-1, 1, 1), part(0, 1, 1), part(1, 1, 1)),
	} {
		if !bag.Right(c) {
			t.Errorf("P9.1: %v isn't Right", c)
		}
	}
	for _, c := range []api.Cell{
		{},
		{Kind: api.CReg},
		{Kind: api.CMulti},
		{Kind: api.CCount},
		{Kind: api.CText},
		{Kind: -1},
		{Kind: 5},
		{Kind: math.MaxInt},
		{Kind: api.CMulti, Parts: []api.Part{part(5, 1, 1)}},
		{Kind: api.CSet, Val: num(0)},
		{Kind: api.CSet, Val: api.Value{N: 1}},
		{Kind: api.CSet, Val: api.Value{S: "x"}, Parts: []api.Part{part(5, 1, 1)}},
		{Kind: api.CSet, Val: num(1), Parts: []api.Part{part(5, 1, 1)}},
		cell(part(5, 1, 1), part(5, 1, 1)),
		cell(part(5, 1, 2), part(5, 1, 1)),
		cell(part(5, 2, 1), part(5, 1, 2)),
		cell(part(5, 2, 1), part(5, 1, 1)),
		cell(part(6, 1, 1), part(5, 1, 1)),
		cell(part(6, 1, 1), part(5, 2, 2)),
		cell(part(5, 1, 1), part(-5, 1, 2)),
		cell(part(1, 1, 1), part(3, 1, 1), part(2, 1, 1)),
		cell(part(2, 1, 1), part(1, 1, 1), part(3, 1, 1)),
		cell(part(1, 1, 1), part(2, 1, 1), part(2, 1, 1)),
		cell(part(1, 1, 1), part(2, 1, 1), part(1, 1, 1)),
	} {
		if bag.Right(c) {
			t.Errorf("P9.1: %v is Right", c)
		}
	}
}

func TestP9_1RightOfEachPart(t *testing.T) {
	for name, spoil := range faults() {
		// Alone, it is not refused for how it stands beside others.
		c := cell(part(5, 1, 1))
		if spoil(&c.Parts[0]); bag.Right(c) {
			t.Errorf("P9.1: one with %s in its only part is Right", name)
		}
		for at := range 3 {
			c := cell(part(4, 1, 1), part(5, 2, 2), part(6, 3, 3))
			if spoil(&c.Parts[at]); bag.Right(c) {
				t.Errorf("P9.1: one with %s at the place %d is Right", name, at)
			}
		}
	}
}

func TestP9_2Put(t *testing.T) {
	for _, c := range cells() {
		for _, p := range several() {
			if w, want := bag.Put(c, p.Val.N, p.Dot), put(c, p.Val.N, p.Dot); !same(w, want) {
				t.Fatalf("P9.2: Put(%v, %d, %v) = %v, want %v", c, p.Val.N, p.Dot, w, want)
			}
		}
	}
}

func TestP9_2PutOfFew(t *testing.T) {
	c := cell()
	for i, x := range []struct {
		n    int
		d    api.Dot
		want api.Cell
	}{
		{5, dot(2, 1), cell(part(5, 2, 1))},
		{5, dot(2, 1), cell(part(5, 2, 1))},
		{5, dot(1, 7), cell(part(5, 1, 7), part(5, 2, 1))},
		{5, dot(1, 9), cell(part(5, 1, 7), part(5, 1, 9), part(5, 2, 1))},
		{5, dot(1, 8), cell(part(5, 1, 7), part(5, 1, 8), part(5, 1, 9), part(5, 2, 1))},
		{-5, dot(3, 1), cell(part(-5, 3, 1), part(5, 1, 7), part(5, 1, 8), part(5, 1, 9), part(5, 2, 1))},
		{6, dot(1, 1), cell(part(-5, 3, 1), part(5, 1, 7), part(5, 1, 8), part(5, 1, 9), part(5, 2, 1), part(6, 1, 1))},
		{5, dot(1, 8), cell(part(-5, 3, 1), part(5, 1, 7), part(5, 1, 8), part(5, 1, 9), part(5, 2, 1), part(6, 1, 1))},
	} {
		if c = bag.Put(c, x.n, x.d); !same(c, x.want) || !bag.Right(c) {
			t.Errorf("P9.2: step %d: %v, want %v", i, c, x.want)
		}
	}
}

func TestP9_2PutIntoAnyCell(t *testing.T) {
	for _, kind := range []int{api.CReg, api.CSet, api.CText, -3} {
		of := func(parts ...api.Part) api.Cell {
			return api.Cell{Kind: kind, Val: api.Value{Kind: 2, S: "kept"}, Parts: parts}
		}
		c := of(part(3, 6, 1), odd(9, 4, -1, 1), part(2, 1, 1), odd(9, 4, -1, 2))
		for i, x := range []struct {
			n    int
			d    api.Dot
			want api.Cell
		}{
			// It stands ahead of the first one behind it, though lesser ones follow.
			{4, dot(1, 1), of(part(3, 6, 1), part(4, 1, 1), odd(9, 4, -1, 1), part(2, 1, 1), odd(9, 4, -1, 2))},
			{1, dot(1, 1), of(part(1, 1, 1), part(3, 6, 1), odd(9, 4, -1, 1), part(2, 1, 1), odd(9, 4, -1, 2))},
			{math.MaxInt, dot(-1, 0), of(part(3, 6, 1), odd(9, 4, -1, 1), part(2, 1, 1), odd(9, 4, -1, 2), part(math.MaxInt, -1, 0))},
			// One that is there goes by its number and its dot, behind greater ones, and is an odd one, too.
			{2, dot(1, 1), c},
			{9, dot(4, -1), c},
			{9, dot(4, -2), of(part(3, 6, 1), part(9, 4, -2), odd(9, 4, -1, 1), part(2, 1, 1), odd(9, 4, -1, 2))},
		} {
			if w := bag.Put(c, x.n, x.d); !same(w, x.want) {
				t.Errorf("P9.2: %d: %v, want %v", i, w, x.want)
			}
		}
	}
}

func TestP9_2Take(t *testing.T) {
	for i, c := range cells() {
		for j, p := range several() {
			for k, knew := range knowns() {
				if (i+j+k)%3 > 0 {
					continue
				}
				if w, want := bag.Take(c, p.Val.N, p.Dot, knew), take(c, p.Val.N, p.Dot, knew); !same(w, want) {
					t.Fatalf("P9.2: Take(%v, %d, %v, %v) = %v, want %v", c, p.Val.N, p.Dot, knew, w, want)
				}
			}
		}
	}
}

func TestP9_2TakeOfFew(t *testing.T) {
	c := cell(part(3, 2, 1), part(5, 1, 1), part(5, 1, 2), part(5, 2, 1), part(6, 1, 1))
	for i, x := range []struct {
		n    int
		d    api.Dot
		knew api.Vector
		want api.Cell
	}{
		{5, dot(3, 1), nil, c},
		{4, dot(1, 1), api.Vector{9, 9}, c},
		{5, dot(1, 1), nil, cell(part(3, 2, 1), part(5, 1, 2), part(5, 2, 1), part(6, 1, 1))},
		{5, dot(1, 2), nil, cell(part(3, 2, 1), part(5, 1, 1), part(5, 2, 1), part(6, 1, 1))},
		{5, dot(3, 1), api.Vector{1}, cell(part(3, 2, 1), part(5, 1, 2), part(5, 2, 1), part(6, 1, 1))},
		{5, dot(2, 1), api.Vector{1}, cell(part(3, 2, 1), part(5, 1, 2), part(6, 1, 1))},
		{5, dot(3, 1), api.Vector{2}, cell(part(3, 2, 1), part(5, 2, 1), part(6, 1, 1))},
		{5, dot(3, 1), api.Vector{0, 1}, cell(part(3, 2, 1), part(5, 1, 1), part(5, 1, 2), part(6, 1, 1))},
		{5, dot(3, 1), api.Vector{2, 1}, cell(part(3, 2, 1), part(6, 1, 1))},
		{3, dot(3, 1), api.Vector{2, 1}, cell(part(5, 1, 1), part(5, 1, 2), part(5, 2, 1), part(6, 1, 1))},
	} {
		if w := bag.Take(c, x.n, x.d, x.knew); !same(w, x.want) || !bag.Right(w) {
			t.Errorf("P9.2: %d: %v, want %v", i, w, x.want)
		}
	}
	// Of any cell, by numbers and dots alone; its kind and its value stay.
	c = api.Cell{Kind: 9, Val: num(4), Parts: []api.Part{odd(5, 1, 1, 1), odd(4, 1, 1, 2), {Dot: dot(1, 1)}, odd(5, 1, 1, 3), odd(5, 0, 1, 4)}}
	want := api.Cell{Kind: 9, Val: num(4), Parts: []api.Part{odd(4, 1, 1, 2), {Dot: dot(1, 1)}, odd(5, 0, 1, 4)}}
	if w := bag.Take(c, 5, dot(2, 1), api.Vector{1}); !same(w, want) {
		t.Errorf("P9.2: %v, want %v", w, want)
	}
}

func TestP9_2ByItsExample(t *testing.T) {
	c := bag.Put(bag.Put(cell(), 5, dot(1, 1)), 5, dot(2, 1))
	c = bag.Take(c, 5, dot(3, 1), api.Vector{1})
	if !same(c, cell(part(5, 2, 1))) || !slices.Equal(bag.Numbers(c), []int{5}) {
		t.Errorf("P9.2: %v, %v", c, bag.Numbers(c))
	}
}

func TestP9_3Join(t *testing.T) {
	l, knew := cells(), knowns()
	for i, a := range l {
		for j := i % 3; j < len(l); j += 3 {
			b, knewA, knewB := l[j], knew[(i*7+j/3)%len(knew)], knew[(i+j*3)%len(knew)]
			if c, want := bag.Join(a, b, knewA, knewB), join(a, b, knewA, knewB); !same(c, want) {
				t.Fatalf("P9.3: Join(%v, %v, %v, %v) = %v, want %v", a, b, knewA, knewB, c, want)
			}
		}
	}
}

func TestP9_3JoinOfFew(t *testing.T) {
	one, two, other := part(5, 1, 1), part(5, 2, 1), part(6, 1, 1)
	for i, x := range []struct {
		a, b         api.Cell
		knewA, knewB api.Vector
		want         api.Cell
	}{
		{cell(), cell(), nil, nil, cell()},
		{cell(one), cell(), api.Vector{1}, nil, cell(one)},
		{cell(one), cell(), api.Vector{1}, api.Vector{1}, cell()},
		{cell(one), cell(one), api.Vector{1}, api.Vector{1}, cell(one)},
		{cell(two), cell(one), api.Vector{0, 1}, api.Vector{1}, cell(one, two)},
		{cell(two), cell(one), api.Vector{1, 1}, api.Vector{1}, cell(two)},
		// A dot in another number is another part.
		{cell(one), cell(other), api.Vector{1}, api.Vector{1}, cell()},
		{cell(one), cell(other), api.Vector{1}, nil, cell(one)},
		{cell(one), cell(other), nil, nil, cell(one, other)},
		{cell(one, other), cell(one, two), api.Vector{1}, api.Vector{1, 1}, cell(one, two)},
	} {
		if c := bag.Join(x.a, x.b, x.knewA, x.knewB); !same(c, x.want) {
			t.Errorf("P9.3: %d: %v, want %v", i, c, x.want)
		}
		if c := bag.Join(x.b, x.a, x.knewB, x.knewA); !same(c, x.want) {
			t.Errorf("P9.3: %d turned: %v, want %v", i, c, x.want)
		}
	}
	// One that both have is that of a. The kind is CSet and the value nothing, whatever both had.
	a := api.Cell{Kind: api.CReg, Val: num(3), Parts: []api.Part{odd(5, 1, 1, 1), odd(5, 1, 1, 2)}}
	b := api.Cell{Kind: api.CText, Val: num(4), Parts: []api.Part{odd(5, 1, 1, 3)}}
	if c := bag.Join(a, b, nil, nil); !same(c, cell(a.Parts...)) {
		t.Errorf("P9.3: what both have: %v", c)
	}
	// Those that go by the same number and dot stay as they stood.
	for i := range 60 {
		a.Parts = append(a.Parts, odd(5-i%2, 1, 1, i))
	}
	if c, want := bag.Join(a, b, nil, nil), join(a, b, nil, nil); !same(c, want) {
		t.Errorf("P9.3: many alike: %v, want %v", c, want)
	}
}

func TestP9_4HasNumbersAndShow(t *testing.T) {
	for i, x := range []struct{ in, want []int }{
		{nil, nil},
		{[]int{0}, []int{0}},
		{[]int{5}, []int{5}},
		{[]int{5, 5, 5}, []int{5}},
		{[]int{-3, 5, 5}, []int{-3, 5}},
		{[]int{5, -3, 5}, []int{-3, 5}},
		{[]int{9, 7, 8, 7, -9, 0}, []int{-9, 0, 7, 8, 9}},
		{[]int{math.MaxInt, math.MinInt, api.MaxNum, math.MaxInt}, []int{math.MinInt, api.MaxNum, math.MaxInt}},
	} {
		for _, kind := range []int{api.CSet, api.CReg, 8} {
			c := api.Cell{Kind: kind, Val: num(99)}
			for j, n := range x.in {
				c.Parts = append(c.Parts, odd(n, 3-j, j%2, j))
			}
			if l := bag.Numbers(c); !slices.Equal(l, x.want) {
				t.Errorf("P9.4: %d: Numbers: %v, want %v", i, l, x.want)
			}
			if v := bag.Show(c); v != num(len(x.want)) {
				t.Errorf("P9.4: %d: Show: %v, want %d", i, v, len(x.want))
			}
			for _, n := range []int{-9, -3, 0, 5, 6, 7, 8, 9, 99, math.MinInt, math.MaxInt, api.MaxNum} {
				if bag.Has(c, n) != slices.Contains(x.want, n) {
					t.Errorf("P9.4: %d: Has %d: %v", i, n, bag.Has(c, n))
				}
			}
		}
	}
}

// numbers tells one number after another, below what is asked, the same ones each time.
func numbers(seed uint64) func(below int) int {
	return func(below int) int {
		seed = seed*6364136223846793005 + 1442695040888963407
		return int(seed >> 33 % uint64(below))
	}
}

// step is one put, or one take.
type step struct {
	n    int
	take bool
}

// act is a transaction: its steps, and what its device knew ahead of it.
type act struct {
	dot   api.Dot
	knew  api.Vector
	steps []step
}

// history is what a few devices did, each of which heard of others on its way; behind each act stand those that knew of it.
func history(next func(int) int, devices, acts int) []act {
	known := make([]api.Vector, devices)
	for i := range known {
		known[i] = make(api.Vector, devices)
	}
	var l []act
	for len(l) < acts {
		at := next(devices)
		if from := next(devices); next(2) == 0 {
			for i, n := range known[from] {
				known[at][i] = max(known[at][i], n)
			}
			continue
		}
		x := act{dot: dot(at+1, known[at][at]+1), knew: slices.Clone(known[at])}
		for range 1 + next(3) {
			x.steps = append(x.steps, step{next(3) - 1, next(5) < 2})
		}
		known[at][at]++
		l = append(l, x)
	}
	return l
}

// closed is what a few of the acts of a history, and all that they knew of, are.
func closed(next func(int) int, l []act) ([]act, api.Vector) {
	v := make(api.Vector, 4)
	for _, x := range l {
		if next(3) > 0 {
			continue
		}
		v[x.dot.Dev-1] = max(v[x.dot.Dev-1], x.dot.Seq)
		for i, n := range x.knew {
			v[i] = max(v[i], n)
		}
	}
	return known(l, v), v
}

// known are those of the acts of which a vector has the dots.
func known(l []act, v api.Vector) []act {
	var in []act
	for _, x := range l {
		if has(v, x.dot) {
			in = append(in, x)
		}
	}
	return in
}

// shuffled puts acts in another order in which each stands behind those that it knew of.
func shuffled(next func(int) int, l []act) []act {
	var out []act
	got, left := api.Vector{0, 0, 0, 0}, slices.Clone(l)
	for len(left) > 0 {
		i := next(len(left))
		ready := true
		for j, n := range left[i].knew {
			ready = ready && n <= got[j]
		}
		if ready {
			got[left[i].dot.Dev-1]++
			out, left = append(out, left[i]), slices.Delete(left, i, i+1)
		}
	}
	return out
}

// made is what acts make, of those steps that count.
func made(l []act, counts func(s step) bool) api.Cell {
	c := cell()
	for _, x := range l {
		for _, s := range x.steps {
			switch {
			case !counts(s):
			case s.take:
				c = bag.Take(c, s.n, x.dot, x.knew)
			default:
				c = bag.Put(c, s.n, x.dot)
			}
		}
	}
	return c
}

func all(step) bool { return true }

// lasts tells whether what an act leaves of a number is taken by none: neither by its own later steps, nor by those who knew of it.
func lasts(l []act, x act, n int) bool {
	in := false
	for _, s := range x.steps {
		if s.n == n {
			in = !s.take
		}
	}
	for _, y := range l {
		if has(y.knew, x.dot) && slices.Contains(y.steps, step{n, true}) {
			return false
		}
	}
	return in
}

func TestP9_5WhatIsPutLasts(t *testing.T) {
	next := numbers(7)
	for range 400 {
		l := history(next, 1+next(4), next(12))
		want := cell()
		for n := -1; n <= 1; n++ {
			for dev := 1; dev <= 4; dev++ {
				for _, x := range l {
					if x.dot.Dev == dev && lasts(l, x, n) {
						want.Parts = append(want.Parts, part(n, dev, x.dot.Seq))
					}
				}
			}
		}
		if !bag.Right(want) {
			t.Fatalf("P9.5: %v isn't Right", want)
		}
		for range 4 {
			if c := made(shuffled(next, l), all); !same(c, want) {
				t.Fatalf("P9.5: %v make %v, want %v", l, c, want)
			}
		}
	}
}

func TestP9_5WhoKnewOfAll(t *testing.T) {
	next := numbers(5)
	for range 200 {
		l := history(next, 1+next(4), next(12))
		knew := make(api.Vector, 4)
		for _, x := range l {
			knew[x.dot.Dev-1] = max(knew[x.dot.Dev-1], x.dot.Seq)
		}
		c := made(l, all)
		for _, n := range append(bag.Numbers(c), 7) {
			w := bag.Take(c, n, dot(9, 1), knew)
			if bag.Has(w, n) || !slices.Equal(w.Parts, made(l, func(s step) bool { return s.n != n }).Parts) {
				t.Fatalf("P9.5: taken %d of %v by one who knew of all: %v", n, c, w)
			}
			// One of whom the taker didn't know: in whichever order the two come.
			late := bag.Put(w, n, dot(8, 1))
			early := bag.Take(bag.Put(c, n, dot(8, 1)), n, dot(9, 1), knew)
			if !bag.Has(late, n) || !same(late, early) {
				t.Fatalf("P9.5: put %d, of which the taker didn't know: %v, %v", n, late, early)
			}
		}
	}
}

func TestP9_5UnlikeNumbers(t *testing.T) {
	next := numbers(3)
	for range 200 {
		l := history(next, 1+next(4), next(12))
		var parts []api.Part
		for n := -1; n <= 1; n++ {
			parts = append(parts, made(l, func(s step) bool { return s.n == n }).Parts...)
		}
		if c := made(l, all); !same(c, cell(parts...)) {
			t.Fatalf("P9.5: %v make %v together, %v one by one", l, c, parts)
		}
	}
}

func TestP9_5CopiesJoin(t *testing.T) {
	next := numbers(11)
	for range 600 {
		l := history(next, 1+next(4), next(14))
		inA, knewA := closed(next, l)
		inB, knewB := closed(next, l)
		both := make(api.Vector, 4)
		for i := range both {
			both[i] = max(knewA[i], knewB[i])
		}
		a, b, want := made(shuffled(next, inA), all), made(shuffled(next, inB), all), made(known(l, both), all)
		if c := bag.Join(a, b, knewA, knewB); !same(c, want) {
			t.Fatalf("P9.5: Join(%v, %v, %v, %v) = %v, want %v", a, b, knewA, knewB, c, want)
		}
		if c := bag.Join(b, a, knewB, knewA); !same(c, want) {
			t.Fatalf("P9.5: Join(%v, %v, %v, %v) = %v, want %v", b, a, knewB, knewA, c, want)
		}
	}
}

// TestR1OfMany: parts may be many; nothing asks each one of them for each other one.
func TestR1OfMany(t *testing.T) {
	const many = 100000
	a, b := cell(), cell()
	for i := range many {
		a.Parts = append(a.Parts, part(many-i, 1, 2*i+1))
		b.Parts = append(b.Parts, part(i, 1, 2*i+2))
	}
	c := bag.Join(a, b, nil, nil)
	if len(c.Parts) != 2*many || !bag.Right(c) {
		t.Errorf("R1: %d parts", len(c.Parts))
	}
	if l := bag.Numbers(c); len(l) != many+1 || bag.Show(c) != num(many+1) || !bag.Has(c, many) || bag.Has(c, many+1) {
		t.Errorf("R1: %d numbers", len(l))
	}
	if w := bag.Put(c, many+1, dot(2, 1)); len(w.Parts) != 2*many+1 {
		t.Errorf("R1: %d parts behind a put", len(w.Parts))
	}
	if w := bag.Take(c, 5, dot(2, 1), api.Vector{2 * many}); len(w.Parts) != 2*many-2 {
		t.Errorf("R1: %d parts behind a take", len(w.Parts))
	}
}

// spoil writes into all that a cell and a vector have.
func spoil(c api.Cell, v api.Vector) {
	parts := c.Parts[:cap(c.Parts)]
	for i := range parts {
		parts[i] = part(-1, 60, 60)
	}
	for i := range v {
		v[i] = -60
	}
}

// room is a cell whose list has room behind its end, where nothing may be written either.
func room() api.Cell {
	return cell(append(make([]api.Part, 0, 9), part(5, 1, 1), part(4, 2, 1), part(6, 2, 2))...)
}

func TestR3NothingIsShared(t *testing.T) {
	knew := func() api.Vector { return append(make(api.Vector, 0, 9), 0, 0, 1) }
	calls := map[string]func(a, b api.Cell, v, w api.Vector) []api.Part{
		"Put":            func(a, _ api.Cell, _, _ api.Vector) []api.Part { return bag.Put(a, 4, dot(2, 2)).Parts },
		"Put ahead":      func(a, _ api.Cell, _, _ api.Vector) []api.Part { return bag.Put(a, 3, dot(1, 2)).Parts },
		"Put behind all": func(a, _ api.Cell, _, _ api.Vector) []api.Part { return bag.Put(a, 7, dot(1, 2)).Parts },
		"Put what is in": func(a, _ api.Cell, _, _ api.Vector) []api.Part { return bag.Put(a, 4, dot(2, 1)).Parts },
		"Take":           func(a, _ api.Cell, v, _ api.Vector) []api.Part { return bag.Take(a, 5, dot(1, 1), v).Parts },
		"Take none":      func(a, _ api.Cell, v, _ api.Vector) []api.Part { return bag.Take(a, 8, dot(1, 1), v).Parts },
		"Join":           func(a, b api.Cell, v, w api.Vector) []api.Part { return bag.Join(a, b, v, w).Parts },
		"Join, turned":   func(a, b api.Cell, v, w api.Vector) []api.Part { return bag.Join(b, a, w, v).Parts },
		"Join with none": func(a, _ api.Cell, v, w api.Vector) []api.Part { return bag.Join(a, cell(), v, w).Parts },
		"Join of none":   func(_, b api.Cell, v, w api.Vector) []api.Part { return bag.Join(cell(), b, v, w).Parts },
		"Numbers": func(a, _ api.Cell, _, _ api.Vector) []api.Part {
			var l []api.Part
			for _, n := range bag.Numbers(a) {
				l = append(l, part(n, bag.Show(a).N, 0))
			}
			return l
		},
	}
	for name, call := range calls {
		a, b, v, w := room(), room(), knew(), knew()
		b.Parts[0].Dot = dot(1, 9)
		wantA, wantB := slices.Clone(a.Parts[:9]), slices.Clone(b.Parts[:9])
		got := call(a, b, v, w)
		if !slices.Equal(a.Parts[:9], wantA) || !slices.Equal(b.Parts[:9], wantB) {
			t.Errorf("R3: %s writes into a cell", name)
		}
		if !slices.Equal(v[:9], knew()[:9]) || !slices.Equal(w[:9], knew()[:9]) {
			t.Errorf("R3: %s writes into a vector", name)
		}
		was := slices.Clone(got)
		spoil(a, v)
		spoil(b, w)
		if !slices.Equal(got, was) {
			t.Errorf("R3: what %s answers is changed by a later write into what was handed in", name)
		}
	}
}

func TestR3AnswersShareNothing(t *testing.T) {
	a := room()
	calls := map[string]func() api.Cell{
		"Put":            func() api.Cell { return bag.Put(a, 4, dot(2, 2)) },
		"Put what is in": func() api.Cell { return bag.Put(a, 4, dot(2, 1)) },
		"Take":           func() api.Cell { return bag.Take(a, 4, dot(1, 1), nil) },
		"Join":           func() api.Cell { return bag.Join(a, a, nil, nil) },
	}
	for name, call := range calls {
		first, again := call(), call()
		was := slices.Clone(again.Parts)
		if spoil(first, nil); !slices.Equal(again.Parts, was) || !slices.Equal(a.Parts, room().Parts) {
			t.Errorf("R3: two answers of %s share memory", name)
		}
	}
	l, k := bag.Numbers(a), bag.Numbers(a)
	if l[0] = 77; k[0] != 4 || !same(a, room()) {
		t.Error("R3: two lists of numbers share memory")
	}
}

func TestR4TheSameAgain(t *testing.T) {
	a, b := cells()[20], cells()[33]
	for range 50 {
		if !same(bag.Join(a, b, nil, nil), join(a, b, nil, nil)) {
			t.Error("R4: Join answers else")
		}
	}
}
