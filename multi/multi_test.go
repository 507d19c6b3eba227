package multi_test

import (
	"math"
	"slices"
	"strings"
	"testing"

	"homestead/api"
	"homestead/multi"
)

func num(n int) api.Value { return api.Value{Kind: api.VInt, N: n} }

func text(s string) api.Value { return api.Value{Kind: api.VText, S: s} }

func dot(dev, seq int) api.Dot { return api.Dot{Dev: dev, Seq: seq} }

func part(v api.Value, dev, seq int) api.Part { return api.Part{Val: v, Dot: dot(dev, seq)} }

func cell(parts ...api.Part) api.Cell { return api.Cell{Kind: api.CMulti, Parts: parts} }

func same(a, b api.Cell) bool {
	return a.Kind == b.Kind && a.Val == b.Val && slices.Equal(a.Parts, b.Parts)
}

// less is P2.2 by its words.
func less(a, b api.Value) bool {
	if a.Kind != b.Kind {
		return a.Kind < b.Kind
	}
	if a.N != b.N {
		return a.N < b.N
	}
	return strings.Compare(a.S, b.S) < 0
}

// above tells whether d stands behind e: by Dev, then by Seq.
func above(d, e api.Dot) bool {
	if d.Dev == e.Dev {
		return d.Seq > e.Seq
	}
	return d.Dev > e.Dev
}

// has is P5.1's Has by its words.
func has(v api.Vector, d api.Dot) bool {
	for i, n := range v {
		if i+1 == d.Dev {
			return 1 <= d.Seq && d.Seq <= n
		}
	}
	return false
}

func hasDot(parts []api.Part, d api.Dot) bool {
	for _, p := range parts {
		if p.Dot == d {
			return true
		}
	}
	return false
}

// write is Write by the words of P7.2.
func write(c api.Cell, v api.Value, d api.Dot, knew api.Vector) api.Cell {
	left := []api.Part{}
	for _, p := range c.Parts {
		if p.Dot == d || has(knew, p.Dot) {
			continue
		}
		left = append(left, p)
	}
	parts, in := []api.Part{}, false
	for _, p := range left {
		if above(p.Dot, d) && !in {
			parts, in = append(parts, api.Part{Val: v, Dot: d}), true
		}
		parts = append(parts, p)
	}
	if !in {
		parts = append(parts, api.Part{Val: v, Dot: d})
	}
	return api.Cell{Kind: c.Kind, Val: c.Val, Parts: parts}
}

// join is Join by the words of P7.3.
func join(a, b api.Cell, knewA, knewB api.Vector) api.Cell {
	parts := []api.Part{}
	in := func(p api.Part) {
		i := len(parts)
		for i > 0 && above(parts[i-1].Dot, p.Dot) {
			i--
		}
		parts = slices.Insert(parts, i, p)
	}
	for _, p := range a.Parts {
		if hasDot(b.Parts, p.Dot) || !has(knewB, p.Dot) {
			in(p)
		}
	}
	for _, p := range b.Parts {
		if !hasDot(a.Parts, p.Dot) && !has(knewA, p.Dot) {
			in(p)
		}
	}
	return api.Cell{Kind: api.CMulti, Parts: parts}
}

// dots are small ones, and those that may not be.
func dots() []api.Dot {
	return []api.Dot{dot(1, 1), dot(1, 2), dot(2, 1), dot(3, 2), dot(0, 1), dot(2, 0), dot(-1, -2), dot(api.MaxDev+1, 1), dot(math.MinInt, 2), dot(math.MaxInt, 1)}
}

// knowns are what a writer or a copy may have known.
func knowns() []api.Vector {
	return []api.Vector{nil, {1}, {2}, {0, 1}, {1, 1}, {2, 0, 2}, {0, 0, 1}, {2, 5, 9}, {-1, 7}, {0, math.MaxInt, 0, 0}}
}

// cells are all of two parts at most by these dots, in whichever order, and some of three.
func cells() []api.Cell {
	l := []api.Cell{cell()}
	for i, d := range dots() {
		one := part(num(i), d.Dev, d.Seq)
		l = append(l, cell(one))
		for j, e := range dots() {
			two := part(text(strings.Repeat("a", j)), e.Dev, e.Seq)
			l = append(l, cell(one, two))
			if i+j < 6 {
				l = append(l, cell(two, part(num(9), 2, 1), one))
			}
		}
	}
	return l
}

// faults turn a part by (1, 1) into one that may not be.
func faults() map[string]func(p *api.Part) {
	return map[string]func(p *api.Part){
		"Dev 0":          func(p *api.Part) { p.Dot.Dev = 0 },
		"Dev -1":         func(p *api.Part) { p.Dot.Dev = -1 },
		"Dev MaxDev+1":   func(p *api.Part) { p.Dot.Dev = api.MaxDev + 1 },
		"Dev MinInt":     func(p *api.Part) { p.Dot.Dev = math.MinInt },
		"Dev MaxInt":     func(p *api.Part) { p.Dot.Dev = math.MaxInt },
		"Seq 0":          func(p *api.Part) { p.Dot.Seq = 0 },
		"Seq -1":         func(p *api.Part) { p.Dot.Seq = -1 },
		"Seq MaxSeq+1":   func(p *api.Part) { p.Dot.Seq = api.MaxSeq + 1 },
		"Seq MinInt":     func(p *api.Part) { p.Dot.Seq = math.MinInt },
		"Seq MaxInt":     func(p *api.Part) { p.Dot.Seq = math.MaxInt },
		"a great number": func(p *api.Part) { p.Val = num(api.MaxNum + 1) },
		"a low number":   func(p *api.Part) { p.Val = num(-api.MaxNum - 1) },
		"a long text":    func(p *api.Part) { p.Val = text(strings.Repeat("x", api.MaxText+1)) },
		"Kind 3":         func(p *api.Part) { p.Val = api.Value{Kind: 3} },
		"Kind -1":        func(p *api.Part) { p.Val = api.Value{Kind: -1} },
		"nothing of 1":   func(p *api.Part) { p.Val = api.Value{N: 1} },
		"a number of S":  func(p *api.Part) { p.Val.S = "x" },
		"At":             func(p *api.Part) { p.At = 1 },
		"Time":           func(p *api.Part) { p.Time = 1 },
		"After.Dev":      func(p *api.Part) { p.After.Dev = 1 },
		"After.Seq":      func(p *api.Part) { p.After.Seq = 1 },
		"AfterAt":        func(p *api.Part) { p.AfterAt = -1 },
		"Gone":           func(p *api.Part) { p.Gone = true },
	}
}

func TestP7_1Right(t *testing.T) {
	for _, c := range []api.Cell{
		cell(),
		{Kind: api.CMulti, Parts: []api.Part{}},
		cell(part(api.Value{}, 1, 1)),
		cell(part(num(5), api.MaxDev, api.MaxSeq)),
		cell(part(num(api.MaxNum), 1, api.MaxSeq), part(num(-api.MaxNum), api.MaxDev, 1)),
		cell(part(text(strings.Repeat("x", api.MaxText)), 1, 1), part(text(""), 1, 2), part(text("\xff"), 1, 3)),
		cell(part(num(5), 1, 1), part(num(5), 2, 1), part(num(5), 2, 2), part(num(5), 3, 1)),
		cell(part(num(5), 1, 9), part(num(4), 2, 1)),
	} {
		if !multi.Right(c) {
			t.Errorf("P7.1: %v isn't Right", c)
		}
	}
	for _, c := range []api.Cell{
		{},
		{Kind: api.CReg},
		{Kind: api.CCount},
		{Kind: api.CSet},
		{Kind: api.CText},
		{Kind: -1},
		{Kind: 5},
		{Kind: api.CSet, Parts: []api.Part{part(num(5), 1, 1)}},
		{Kind: api.CMulti, Val: num(0)},
		{Kind: api.CMulti, Val: api.Value{N: 1}},
		{Kind: api.CMulti, Val: api.Value{S: "x"}, Parts: []api.Part{part(num(5), 1, 1)}},
		cell(part(num(5), 1, 1), part(num(5), 1, 1)),
		cell(part(num(5), 1, 1), part(num(6), 1, 1)),
		cell(part(num(5), 1, 2), part(num(6), 1, 1)),
		cell(part(num(5), 2, 1), part(num(6), 1, 2)),
		cell(part(num(5), 2, 1), part(num(6), 1, 1)),
		cell(part(num(5), 1, 1), part(num(5), 3, 1), part(num(5), 2, 1)),
		cell(part(num(5), 1, 1), part(num(5), 2, 1), part(num(5), 2, 1)),
		cell(part(num(5), 1, 2), part(num(5), 1, 1), part(num(5), 2, 1)),
	} {
		if multi.Right(c) {
			t.Errorf("P7.1: %v is Right", c)
		}
	}
}

func TestP7_1RightOfEachPart(t *testing.T) {
	for name, spoil := range faults() {
		// Alone, it is not refused for how its dot stands beside others.
		c := cell(part(num(1), 1, 1))
		if spoil(&c.Parts[0]); multi.Right(c) {
			t.Errorf("P7.1: one with %s in its only part is Right", name)
		}
		for at := range 3 {
			c := cell(part(num(1), 1, 1), part(num(2), 2, 2), part(num(3), 3, 3))
			if spoil(&c.Parts[at]); multi.Right(c) {
				t.Errorf("P7.1: one with %s at the place %d is Right", name, at)
			}
		}
	}
}

func TestP7_2Write(t *testing.T) {
	for _, c := range cells() {
		for _, d := range dots() {
			for _, knew := range knowns() {
				if w, want := multi.Write(c, num(77), d, knew), write(c, num(77), d, knew); !same(w, want) {
					t.Fatalf("P7.2: Write(%v, 77, %v, %v) = %v, want %v", c, d, knew, w, want)
				}
			}
		}
	}
}

func TestP7_2WriteByItsExample(t *testing.T) {
	c := cell()
	for i, x := range []struct {
		v    int
		d    api.Dot
		knew api.Vector
		want api.Cell
	}{
		{5, dot(1, 1), nil, cell(part(num(5), 1, 1))},
		{7, dot(2, 1), nil, cell(part(num(5), 1, 1), part(num(7), 2, 1))},
		{6, dot(1, 2), api.Vector{1}, cell(part(num(6), 1, 2), part(num(7), 2, 1))},
		// A dot is put anew in its own place, whatever its writer knew.
		{8, dot(1, 2), api.Vector{2}, cell(part(num(8), 1, 2), part(num(7), 2, 1))},
		{9, dot(2, 1), nil, cell(part(num(8), 1, 2), part(num(9), 2, 1))},
		// Nothing is written as any other value is.
		{0, dot(1, 3), api.Vector{0, 1}, cell(part(num(8), 1, 2), part(num(0), 1, 3))},
		{1, dot(3, 1), api.Vector{3, 1}, cell(part(num(1), 3, 1))},
	} {
		if c = multi.Write(c, num(x.v), x.d, x.knew); !same(c, x.want) || !multi.Right(c) {
			t.Errorf("P7.2: step %d: %v, want %v", i, c, x.want)
		}
	}
	if c := multi.Write(cell(part(num(5), 1, 1)), api.Value{}, dot(2, 1), api.Vector{1}); !same(c, cell(part(api.Value{}, 2, 1))) {
		t.Errorf("P7.2: nothing is written: %v", c)
	}
}

func TestP7_2WriteIntoAnyCell(t *testing.T) {
	odd := api.Part{Val: api.Value{Kind: 7, N: 1, S: "x"}, Dot: dot(4, -1), At: 3, Time: 4, After: dot(5, 6), AfterAt: 7, Gone: true}
	for _, kind := range []int{api.CReg, api.CMulti, api.CSet, -3} {
		c := api.Cell{Kind: kind, Val: text("kept"), Parts: []api.Part{part(num(1), 6, 1), odd, part(num(2), 1, 1), odd}}
		v := api.Value{Kind: -1, N: math.MaxInt, S: strings.Repeat("y", api.MaxText+1)}
		// The first one above (3, 1) of those that are left is the odd one.
		want := api.Cell{Kind: kind, Val: text("kept"), Parts: []api.Part{{Val: v, Dot: dot(3, 1)}, odd, part(num(2), 1, 1), odd}}
		if w := multi.Write(c, v, dot(3, 1), api.Vector{0, 0, 0, 0, 0, 1}); !same(w, want) {
			t.Errorf("P7.2: %v, want %v", w, want)
		}
		want.Parts = []api.Part{part(num(1), 6, 1), odd, part(num(2), 1, 1), odd, {Val: v, Dot: dot(6, 1)}}
		if w := multi.Write(api.Cell{Kind: kind, Val: text("kept"), Parts: want.Parts[:4]}, v, dot(6, 2), nil); w.Parts[4] != (api.Part{Val: v, Dot: dot(6, 2)}) {
			t.Errorf("P7.2: %v: the new one isn't the last one", w)
		}
	}
}

func TestP7_3Join(t *testing.T) {
	l, knew := cells(), knowns()
	for i, a := range l {
		for j, b := range l {
			for k, knewA := range knew {
				knewB := knew[(i+j*3+k*7)%len(knew)]
				if c, want := multi.Join(a, b, knewA, knewB), join(a, b, knewA, knewB); !same(c, want) {
					t.Fatalf("P7.3: Join(%v, %v, %v, %v) = %v, want %v", a, b, knewA, knewB, c, want)
				}
			}
		}
	}
}

func TestP7_3JoinOfFew(t *testing.T) {
	five, six, seven := part(num(5), 1, 1), part(num(6), 1, 2), part(num(7), 2, 1)
	for i, x := range []struct {
		a, b         api.Cell
		knewA, knewB api.Vector
		want         api.Cell
	}{
		{cell(), cell(), nil, nil, cell()},
		{cell(five), cell(), api.Vector{1}, nil, cell(five)},
		{cell(five), cell(), api.Vector{1}, api.Vector{1}, cell()},
		{cell(five), cell(five), api.Vector{1}, api.Vector{1}, cell(five)},
		{cell(five), cell(six), api.Vector{1}, api.Vector{2}, cell(six)},
		{cell(five, seven), cell(six), api.Vector{1, 1}, api.Vector{2}, cell(six, seven)},
		{cell(seven), cell(five), api.Vector{0, 1}, api.Vector{1}, cell(five, seven)},
		{cell(seven), cell(five), api.Vector{1, 1}, api.Vector{1}, cell(seven)},
		{cell(five, seven), cell(six, seven), api.Vector{1, 1}, api.Vector{2, 1}, cell(six, seven)},
	} {
		if c := multi.Join(x.a, x.b, x.knewA, x.knewB); !same(c, x.want) {
			t.Errorf("P7.3: %d: %v, want %v", i, c, x.want)
		}
		if c := multi.Join(x.b, x.a, x.knewB, x.knewA); !same(c, x.want) {
			t.Errorf("P7.3: %d turned: %v, want %v", i, c, x.want)
		}
	}
	// The same dot: what a has of it stays. The kind is CMulti and the value nothing, whatever both had.
	a := api.Cell{Kind: api.CReg, Val: num(3), Parts: []api.Part{five}}
	b := api.Cell{Kind: api.CText, Val: num(4), Parts: []api.Part{part(num(8), 1, 1)}}
	if c := multi.Join(a, b, nil, nil); !same(c, cell(five)) {
		t.Errorf("P7.3: the same dot: %v", c)
	}
}

func TestP7_4ShowAndValues(t *testing.T) {
	low := api.Value{Kind: -1, N: 5, S: "below nothing"}
	for i, x := range []struct {
		in, want []api.Value
	}{
		{nil, nil},
		{[]api.Value{{}}, []api.Value{{}}},
		{[]api.Value{num(5)}, []api.Value{num(5)}},
		{[]api.Value{num(5), num(7)}, []api.Value{num(5), num(7)}},
		{[]api.Value{num(7), num(5)}, []api.Value{num(5), num(7)}},
		{[]api.Value{num(6), num(7)}, []api.Value{num(6), num(7)}},
		{[]api.Value{num(7), num(7), num(7)}, []api.Value{num(7)}},
		{[]api.Value{num(7), num(5), num(7), {}, num(5)}, []api.Value{{}, num(5), num(7)}},
		{[]api.Value{text("b"), num(9), text("a"), text("ab"), text(""), num(-9), {}}, []api.Value{{}, num(-9), num(9), text(""), text("a"), text("ab"), text("b")}},
		{[]api.Value{low}, []api.Value{low}},
		{[]api.Value{low, {Kind: -2}, low}, []api.Value{{Kind: -2}, low}},
		{[]api.Value{{N: 1}, {}, {S: "x"}, {N: 1, S: "x"}, {N: -1}}, []api.Value{{N: -1}, {}, {S: "x"}, {N: 1}, {N: 1, S: "x"}}},
		{[]api.Value{{Kind: 9}, num(math.MaxInt), num(math.MinInt), text("z")}, []api.Value{num(math.MinInt), num(math.MaxInt), text("z"), {Kind: 9}}},
	} {
		for _, kind := range []int{api.CMulti, api.CReg, 8} {
			c := api.Cell{Kind: kind, Val: num(99)}
			for j, v := range x.in {
				c.Parts = append(c.Parts, api.Part{Val: v, Dot: dot(3-j, j%2), At: j, Gone: j%2 == 0})
			}
			if l := multi.Values(c); !slices.Equal(l, x.want) {
				t.Errorf("P7.4: %d: Values: %v, want %v", i, l, x.want)
			}
			var top api.Value
			if len(x.want) > 0 {
				top = x.want[len(x.want)-1]
			}
			if v := multi.Show(c); v != top {
				t.Errorf("P7.4: %d: Show: %v, want %v", i, v, top)
			}
		}
	}
}

func TestP7_4ValuesOfMany(t *testing.T) {
	next := numbers(3)
	for range 300 {
		c := cell()
		for range next(30) {
			v := []api.Value{{}, num(next(9) - 4), text(strings.Repeat("ab", next(3)))}[next(3)]
			c.Parts = append(c.Parts, api.Part{Val: v, Dot: dot(next(5), next(5))})
		}
		l := multi.Values(c)
		for i, v := range l {
			if i > 0 && !less(l[i-1], v) {
				t.Fatalf("P7.4: %v doesn't rise", l)
			}
			if !slices.ContainsFunc(c.Parts, func(p api.Part) bool { return p.Val == v }) {
				t.Fatalf("P7.4: %v isn't in %v", v, c)
			}
		}
		top := api.Value{}
		for _, p := range c.Parts {
			if !slices.Contains(l, p.Val) {
				t.Fatalf("P7.4: %v isn't in %v", p.Val, l)
			}
			if less(top, p.Val) {
				top = p.Val
			}
		}
		if multi.Show(c) != top {
			t.Fatalf("P7.4: Show(%v) = %v, want %v", c, multi.Show(c), top)
		}
	}
}

// numbers tells one number after another, below what is asked, the same ones each time.
func numbers(seed uint64) func(below int) int {
	return func(below int) int {
		seed = seed*6364136223846793005 + 1442695040888963407
		return int(seed >> 33 % uint64(below))
	}
}

// written is a write, and what its writer knew.
type written struct {
	val  api.Value
	dot  api.Dot
	knew api.Vector
}

// history is what a few devices wrote, each of which heard of others on its way; behind each write stand those that knew of it.
func history(next func(int) int, devices, writes int) []written {
	known := make([]api.Vector, devices)
	for i := range known {
		known[i] = make(api.Vector, devices)
	}
	var l []written
	for len(l) < writes {
		at := next(devices)
		if from := next(devices); next(2) == 0 {
			for i, n := range known[from] {
				known[at][i] = max(known[at][i], n)
			}
			continue
		}
		w := written{num(next(4)), dot(at+1, known[at][at]+1), slices.Clone(known[at])}
		known[at][at]++
		l = append(l, w)
	}
	return l
}

// closed is what a few of the writes of a history, and all that they knew of, are.
func closed(next func(int) int, l []written) ([]written, api.Vector) {
	v := make(api.Vector, 4)
	for _, w := range l {
		if next(3) > 0 {
			continue
		}
		v[w.dot.Dev-1] = max(v[w.dot.Dev-1], w.dot.Seq)
		for i, n := range w.knew {
			v[i] = max(v[i], n)
		}
	}
	var in []written
	for _, w := range l {
		if has(v, w.dot) {
			in = append(in, w)
		}
	}
	return in, v
}

// shuffled puts writes in another order in which each stands behind those that its writer knew.
func shuffled(next func(int) int, l []written) []written {
	var out []written
	got, left := api.Vector{0, 0, 0, 0}, slices.Clone(l)
	for len(left) > 0 {
		i := next(len(left))
		ready := true
		for j, n := range left[i].knew {
			ready = ready && n <= got[j]
		}
		if ready {
			got[left[i].dot.Dev-1]++
			out, left = append(out, left[i]), slices.Delete(left, i, i+1)
		}
	}
	return out
}

func made(l []written) api.Cell {
	c := cell()
	for _, w := range l {
		c = multi.Write(c, w.val, w.dot, w.knew)
	}
	return c
}

// stand are the parts of those writes of which none of the others knew.
func stand(l []written) api.Cell {
	c := cell()
	for _, w := range l {
		if !slices.ContainsFunc(l, func(x written) bool { return has(x.knew, w.dot) }) {
			c.Parts = append(c.Parts, api.Part{Val: w.val, Dot: w.dot})
		}
	}
	slices.SortFunc(c.Parts, func(p, q api.Part) int {
		if above(p.Dot, q.Dot) {
			return 1
		}
		return -1
	})
	return c
}

func TestP7_5WritesStandSideBySide(t *testing.T) {
	next := numbers(7)
	for range 300 {
		l := history(next, 1+next(4), next(12))
		want := stand(l)
		if !multi.Right(want) {
			t.Fatalf("P7.5: %v isn't Right", want)
		}
		for range 4 {
			if c := made(shuffled(next, l)); !same(c, want) {
				t.Fatalf("P7.5: %v make %v, want %v", l, c, want)
			}
		}
		knew := make(api.Vector, 4)
		for _, w := range l {
			knew[w.dot.Dev-1] = max(knew[w.dot.Dev-1], w.dot.Seq)
		}
		if c := multi.Write(made(l), num(8), dot(9, 1), knew); !same(c, cell(part(num(8), 9, 1))) {
			t.Fatalf("P7.5: behind a write by one who knew of all: %v", c)
		}
	}
}

func TestP7_5CopiesJoin(t *testing.T) {
	next := numbers(11)
	for range 600 {
		l := history(next, 1+next(4), next(14))
		inA, knewA := closed(next, l)
		inB, knewB := closed(next, l)
		var all []written
		for _, w := range l {
			if has(knewA, w.dot) || has(knewB, w.dot) {
				all = append(all, w)
			}
		}
		a, b, want := made(shuffled(next, inA)), made(shuffled(next, inB)), made(all)
		if c := multi.Join(a, b, knewA, knewB); !same(c, want) {
			t.Fatalf("P7.5: Join(%v, %v, %v, %v) = %v, want %v", a, b, knewA, knewB, c, want)
		}
		if c := multi.Join(b, a, knewB, knewA); !same(c, want) {
			t.Fatalf("P7.5: Join(%v, %v, %v, %v) = %v, want %v", b, a, knewB, knewA, c, want)
		}
	}
}

// TestR1OfMany: parts may be many; nothing asks each one of them for each other one.
func TestR1OfMany(t *testing.T) {
	const many = 100000
	a, b := cell(), cell()
	for i := range many {
		a.Parts = append(a.Parts, part(num(many-i), 1, 2*i+1))
		b.Parts = append(b.Parts, part(num(i), 1, 2*i+2))
	}
	c := multi.Join(a, b, nil, nil)
	if len(c.Parts) != 2*many || !multi.Right(c) {
		t.Errorf("R1: %d parts", len(c.Parts))
	}
	if l := multi.Values(c); len(l) != many+1 || multi.Show(c) != num(many) {
		t.Errorf("R1: %d values", len(l))
	}
	if w := multi.Write(c, num(1), dot(2, 1), api.Vector{2*many - 1}); len(w.Parts) != 2 {
		t.Errorf("R1: %d parts behind a write", len(w.Parts))
	}
}

// spoil writes into all that a cell and a vector have.
func spoil(c api.Cell, v api.Vector) {
	parts := c.Parts[:cap(c.Parts)]
	for i := range parts {
		parts[i] = part(num(-1), 60, 60)
	}
	for i := range v {
		v[i] = -60
	}
}

func TestR3NothingIsShared(t *testing.T) {
	// Each list has room behind its end, where nothing may be written either.
	room := func() api.Cell {
		parts := append(make([]api.Part, 0, 9), part(num(5), 1, 1), part(num(4), 2, 1), part(num(3), 2, 2))
		return api.Cell{Kind: api.CMulti, Parts: parts}
	}
	knew := func() api.Vector { return append(make(api.Vector, 0, 9), 0, 0, 1) }
	calls := map[string]func(a, b api.Cell, v, w api.Vector) []api.Part{
		"Write": func(a, _ api.Cell, v, _ api.Vector) []api.Part {
			return multi.Write(a, num(6), dot(1, 2), v).Parts
		},
		"Write behind all": func(a, _ api.Cell, v, _ api.Vector) []api.Part {
			return multi.Write(a, num(6), dot(3, 2), v).Parts
		},
		"Join":         func(a, b api.Cell, v, w api.Vector) []api.Part { return multi.Join(a, b, v, w).Parts },
		"Join, turned": func(a, b api.Cell, v, w api.Vector) []api.Part { return multi.Join(b, a, w, v).Parts },
		"Join with none": func(a, _ api.Cell, v, w api.Vector) []api.Part {
			return multi.Join(a, cell(), v, w).Parts
		},
		"Join of none": func(_, b api.Cell, v, w api.Vector) []api.Part {
			return multi.Join(cell(), b, v, w).Parts
		},
		"Values": func(a, _ api.Cell, _, _ api.Vector) []api.Part {
			var l []api.Part
			for _, v := range multi.Values(a) {
				l = append(l, api.Part{Val: v})
			}
			return l
		},
	}
	for name, call := range calls {
		a, b, v, w := room(), room(), knew(), knew()
		b.Parts[0].Dot = dot(1, 9)
		wantA, wantB := slices.Clone(a.Parts[:9]), slices.Clone(b.Parts[:9])
		got := call(a, b, v, w)
		if !slices.Equal(a.Parts[:9], wantA) || !slices.Equal(b.Parts[:9], wantB) {
			t.Errorf("R3: %s writes into a cell", name)
		}
		if !slices.Equal(v[:9], knew()[:9]) || !slices.Equal(w[:9], knew()[:9]) {
			t.Errorf("R3: %s writes into a vector", name)
		}
		was := slices.Clone(got)
		spoil(a, v)
		spoil(b, w)
		if !slices.Equal(got, was) {
			t.Errorf("R3: what %s answers is changed by a later write into what was handed in", name)
		}
	}
	a := room()
	first, again := multi.Write(a, num(6), dot(1, 2), nil), multi.Write(a, num(6), dot(1, 2), nil)
	if spoil(first, nil); !same(again, write(room(), num(6), dot(1, 2), nil)) {
		t.Error("R3: two answers share memory")
	}
	l, k := multi.Values(a), multi.Values(a)
	if l[0] = num(77); k[0] != num(3) || multi.Show(a) != num(5) {
		t.Error("R3: two lists of values share memory")
	}
}

func TestR4TheSameAgain(t *testing.T) {
	a, b := cells()[20], cells()[33]
	for range 50 {
		if !same(multi.Join(a, b, nil, nil), join(a, b, nil, nil)) {
			t.Error("R4: Join answers else")
		}
	}
}
