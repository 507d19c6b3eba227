package count_test

import (
	"cmp"
	"math"
	"math/big"
	"slices"
	"testing"

	"homestead/api"
	"homestead/count"
)

func of(n int) api.Cell {
	return api.Cell{Kind: api.CCount, Val: api.Value{Kind: api.VInt, N: n}}
}

func num(n int) api.Value { return api.Value{Kind: api.VInt, N: n} }

func same(a, b api.Cell) bool {
	return a.Kind == b.Kind && a.Val == b.Val && slices.Equal(a.Parts, b.Parts)
}

// within are numbers that a counter may have: few, and those at its ends.
func within() []int {
	l := []int{0, 1, -1, 2, -7, 1000, -1000}
	for _, n := range []int{api.MaxNum, api.MaxNum - 1, api.MaxNum / 2, api.MaxNum/2 + 1} {
		l = append(l, n, -n)
	}
	return l
}

// outside are numbers that it may not have.
func outside() []int {
	return []int{api.MaxNum + 1, -api.MaxNum - 1, 2 * api.MaxNum, -2 * api.MaxNum, 3 * api.MaxNum, -3 * api.MaxNum, math.MaxInt - api.MaxNum, math.MinInt + api.MaxNum, math.MaxInt, math.MaxInt - 1, math.MinInt, math.MinInt + 1}
}

// wrong is a cell that isn't Right, and why.
type wrong struct {
	c api.Cell
	e api.Errno
}

// wrongs have one fault or several, of which the first one is told.
func wrongs() []wrong {
	part := []api.Part{{}}
	l := []wrong{
		{api.Cell{}, api.ErrType},
		{api.Cell{Kind: api.CCount}, api.ErrType},
		{api.Cell{Val: num(5)}, api.ErrType},
		{api.Cell{Kind: api.CCount, Val: api.Value{Kind: api.VText}}, api.ErrType},
		{api.Cell{Kind: api.CCount, Val: api.Value{Kind: -1}}, api.ErrType},
		{api.Cell{Kind: api.CCount, Val: api.Value{Kind: 3, N: 4}}, api.ErrType},
		{api.Cell{Kind: api.CCount, Val: api.Value{Kind: api.VText, S: "a"}, Parts: part}, api.ErrType},
		{api.Cell{Kind: api.CCount, Val: api.Value{N: api.MaxNum + 1}}, api.ErrType},
		{api.Cell{Kind: api.CCount, Val: api.Value{Kind: api.VInt, S: "a"}}, api.ErrArg},
		{api.Cell{Kind: api.CCount, Val: api.Value{Kind: api.VInt, S: " "}}, api.ErrArg},
		{api.Cell{Kind: api.CCount, Val: num(0), Parts: part}, api.ErrArg},
		{api.Cell{Kind: api.CCount, Val: api.Value{Kind: api.VInt, N: 5, S: "a"}, Parts: part}, api.ErrArg},
	}
	for _, kind := range []int{api.CReg, api.CMulti, api.CSet, api.CText, 5, -1, math.MinInt, math.MaxInt} {
		l = append(l, wrong{api.Cell{Kind: kind, Val: num(5)}, api.ErrType})
		l = append(l, wrong{api.Cell{Kind: kind, Val: api.Value{Kind: api.VInt, N: api.MaxNum + 1, S: "a"}, Parts: part}, api.ErrType})
	}
	for _, n := range outside() {
		l = append(l, wrong{of(n), api.ErrOver})
		l = append(l, wrong{api.Cell{Kind: api.CCount, Val: api.Value{Kind: api.VInt, N: n, S: "a"}}, api.ErrArg})
		l = append(l, wrong{api.Cell{Kind: api.CCount, Val: num(n), Parts: part}, api.ErrArg})
	}
	return l
}

// bounded is what a number of any size makes: a counter, or ErrOver.
func bounded(n *big.Int) (api.Cell, api.Errno) {
	if n.CmpAbs(big.NewInt(api.MaxNum)) > 0 {
		return api.Cell{}, api.ErrOver
	}
	return of(int(n.Int64())), api.OK
}

// add is Add by the words of P8.2, of a counter that is Right.
func add(c, n int) (api.Cell, api.Errno) {
	if _, e := bounded(big.NewInt(int64(n))); e != api.OK {
		return api.Cell{}, e
	}
	return bounded(new(big.Int).Add(big.NewInt(int64(c)), big.NewInt(int64(n))))
}

// merge is Merge by the words of P8.3, of counters that are Right.
func merge(a, b, old int) (api.Cell, api.Errno) {
	more := func(n int) *big.Int { return new(big.Int).Sub(big.NewInt(int64(n)), big.NewInt(int64(old))) }
	n := new(big.Int).Add(more(a), more(b))
	return bounded(n.Add(n, big.NewInt(int64(old))))
}

func TestP8_1New(t *testing.T) {
	c := count.New()
	if !same(c, of(0)) || c.Val.S != "" || len(c.Parts) != 0 {
		t.Errorf("P8.1: New() = %v", c)
	}
	if e := count.Right(c); e != api.OK {
		t.Errorf("P8.1: Right(New()) = %v", e)
	}
}

func TestP8_1Right(t *testing.T) {
	for _, n := range within() {
		if e := count.Right(of(n)); e != api.OK {
			t.Errorf("P8.1: Right of %d = %v", n, e)
		}
	}
	// A list without elements is no Parts.
	c := of(3)
	if c.Parts = make([]api.Part, 0, 4); count.Right(c) != api.OK {
		t.Errorf("P8.1: Right(%v) = %v", c, count.Right(c))
	}
	for _, x := range wrongs() {
		if e := count.Right(x.c); e != x.e {
			t.Errorf("P8.1: Right(%v) = %v, want %v", x.c, e, x.e)
		}
	}
}

func TestP8_2Add(t *testing.T) {
	for _, c := range within() {
		for _, n := range append(within(), outside()...) {
			want, e := add(c, n)
			if got, err := count.Add(of(c), n); err != e || !same(got, want) {
				t.Errorf("P8.2: Add(%d, %d) = %v, %v, want %v, %v", c, n, got, err, want, e)
			}
		}
	}
}

func TestP8_2AddByItsExample(t *testing.T) {
	c := count.New()
	for _, x := range []struct{ n, want int }{{5, 5}, {-7, -2}, {0, -2}, {2, 0}, {api.MaxNum, api.MaxNum}, {-api.MaxNum, 0}, {-api.MaxNum, -api.MaxNum}} {
		var e api.Errno
		if c, e = count.Add(c, x.n); e != api.OK || !same(c, of(x.want)) || count.Show(c) != num(x.want) {
			t.Fatalf("P8.2: added %d: %v, %v, want %d", x.n, c, e, x.want)
		}
	}
}

func TestP8_2AddToWrongOnes(t *testing.T) {
	for _, x := range wrongs() {
		// The cell's error is told first; nothing that is added makes it right.
		for _, n := range append([]int{-x.c.Val.N}, append(within(), outside()...)...) {
			if c, e := count.Add(x.c, n); e != x.e || !same(c, api.Cell{}) {
				t.Errorf("P8.2: Add(%v, %d) = %v, %v, want %v", x.c, n, c, e, x.e)
			}
		}
	}
}

func TestP8_2Show(t *testing.T) {
	for _, n := range within() {
		if v := count.Show(of(n)); v != num(n) {
			t.Errorf("P8.2: Show of %d = %v", n, v)
		}
	}
	for _, x := range wrongs() {
		if v := count.Show(x.c); v != (api.Value{}) {
			t.Errorf("P8.2: Show(%v) = %v", x.c, v)
		}
	}
}

func TestP8_3Merge(t *testing.T) {
	for _, a := range within() {
		for _, b := range within() {
			for _, old := range within() {
				want, e := merge(a, b, old)
				if c, err := count.Merge(of(a), of(b), of(old)); err != e || !same(c, want) {
					t.Errorf("P8.3: Merge(%d, %d, %d) = %v, %v, want %v, %v", a, b, old, c, err, want, e)
				}
			}
		}
	}
}

func TestP8_3MergeOfFew(t *testing.T) {
	const most = api.MaxNum
	for _, x := range []struct {
		a, b, old, want int
		e               api.Errno
	}{
		{8, 3, 5, 6, api.OK},
		{3, 8, 5, 6, api.OK},
		{0, 0, 0, 0, api.OK},
		{5, 5, 5, 5, api.OK},
		{5, 5, 0, 10, api.OK},
		{-2, -3, 5, -10, api.OK},
		{most, most, most, most, api.OK},
		{most, most, most - 1, 0, api.ErrOver},
		{-most, -most, -most + 1, 0, api.ErrOver},
		{-most, -most, -most, -most, api.OK},
		// What one side has more may be beyond MaxNum, if what follows isn't.
		{most, -most, -most, most, api.OK},
		{-most, most, most, -most, api.OK},
		{most, -most, 0, 0, api.OK},
		{most, most, -most, 0, api.ErrOver},
		{-most, -most, most, 0, api.ErrOver},
		{most, 1, 0, 0, api.ErrOver},
		{-most, -1, 0, 0, api.ErrOver},
		{most, 0, 0, most, api.OK},
		{0, 0, most, -most, api.OK},
		{-1, 0, most, 0, api.ErrOver},
	} {
		want := api.Cell{}
		if x.e == api.OK {
			want = of(x.want)
		}
		if c, e := count.Merge(of(x.a), of(x.b), of(x.old)); e != x.e || !same(c, want) {
			t.Errorf("P8.3: Merge(%d, %d, %d) = %v, %v, want %v, %v", x.a, x.b, x.old, c, e, want, x.e)
		}
	}
}

func TestP8_3MergeOfWrongOnes(t *testing.T) {
	// Two that have most make what is beyond MaxNum: an error of Right is told ahead of that.
	l, olds := []wrong{{of(api.MaxNum), api.OK}}, []wrong{{of(0), api.OK}}
	for i, x := range wrongs() {
		if i%3 == 0 {
			l, olds = append(l, x), append(olds, x)
		}
	}
	for _, a := range l {
		for _, b := range l {
			for _, old := range olds {
				want := cmp.Or(a.e, b.e, old.e, api.ErrOver)
				if c, e := count.Merge(a.c, b.c, old.c); e != want || !same(c, api.Cell{}) {
					t.Fatalf("P8.3: Merge(%v, %v, %v) = %v, %v, want %v", a.c, b.c, old.c, c, e, want)
				}
			}
		}
	}
}

// numbers tells one number after another, below what is asked, the same ones each time.
func numbers(seed uint64) func(below int) int {
	return func(below int) int {
		seed = seed*6364136223846793005 + 1442695040888963407
		return int(seed >> 33 % uint64(below))
	}
}

// some are a few numbers that are added, either way.
func some(next func(int) int) []int {
	l := make([]int, next(9))
	for i := range l {
		l[i] = next(2001) - 1000
	}
	return l
}

// shuffled has the same numbers, in another order.
func shuffled(next func(int) int, l []int) []int {
	l = slices.Clone(l)
	for i := range l {
		j := i + next(len(l)-i)
		l[i], l[j] = l[j], l[i]
	}
	return l
}

// added is a counter behind those numbers.
func added(t *testing.T, c api.Cell, l []int) api.Cell {
	for _, n := range l {
		var e api.Errno
		if c, e = count.Add(c, n); e != api.OK {
			t.Fatalf("P8.4: Add: %v", e)
		}
	}
	return c
}

func TestP8_4Order(t *testing.T) {
	next := numbers(5)
	for range 300 {
		l := some(next)
		total := 0
		for _, n := range l {
			total += n
		}
		for range 4 {
			if c := added(t, count.New(), shuffled(next, l)); !same(c, of(total)) {
				t.Fatalf("P8.4: %v make %v, want %d", l, c, total)
			}
		}
	}
	// The order plays its part where one on the way is too great.
	if _, e := count.Add(added(t, count.New(), []int{api.MaxNum}), 1); e != api.ErrOver {
		t.Errorf("P8.4: one on the way is too great: %v", e)
	}
	if c := added(t, count.New(), []int{api.MaxNum, -1, 1}); !same(c, of(api.MaxNum)) {
		t.Errorf("P8.4: none on the way is too great: %v", c)
	}
}

func TestP8_4BothSides(t *testing.T) {
	next := numbers(9)
	for range 300 {
		old, left, right := added(t, count.New(), some(next)), some(next), some(next)
		a, b := added(t, old, left), added(t, old, right)
		want := added(t, old, shuffled(next, append(slices.Clone(left), right...)))
		if c, e := count.Merge(a, b, old); e != api.OK || !same(c, want) {
			t.Fatalf("P8.4: Merge(%v, %v, %v) = %v, %v, want %v", a, b, old, c, e, want)
		}
		if c, e := count.Merge(b, a, old); e != api.OK || !same(c, want) {
			t.Fatalf("P8.4: Merge(%v, %v, %v) = %v, %v, want %v", b, a, old, c, e, want)
		}
	}
}

func TestR3NothingIsShared(t *testing.T) {
	room := func() api.Cell {
		c := of(5)
		c.Parts = make([]api.Part, 0, 2)
		return c
	}
	calls := map[string]func(c api.Cell) api.Cell{
		"Add": func(c api.Cell) api.Cell {
			got, _ := count.Add(c, 1)
			return got
		},
		"Merge": func(c api.Cell) api.Cell {
			got, _ := count.Merge(c, c, c)
			return got
		},
		"New": func(api.Cell) api.Cell { return count.New() },
	}
	for name, call := range calls {
		c := room()
		first, again := call(c), call(c)
		first.Parts = append(first.Parts, api.Part{At: 1})
		again.Parts = append(again.Parts, api.Part{At: 2})
		if first.Parts[0].At != 1 || c.Parts[:2][0] != (api.Part{}) || c.Parts[:2][1] != (api.Part{}) {
			t.Errorf("R3: what %s answers shares memory", name)
		}
	}
}
