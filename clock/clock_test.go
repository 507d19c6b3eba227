package clock_test

import (
	"math"
	"math/big"
	"slices"
	"testing"

	"homestead/api"
	"homestead/clock"
)

func stamp(time, dev, seq int) api.Stamp { return api.Stamp{Time: time, Dev: dev, Seq: seq} }

// stamps are all of a few numbers, small ones and those at the ends.
func stamps() []api.Stamp {
	var l []api.Stamp
	nums := []int{math.MinInt, -1, 0, 1, 2, math.MaxInt}
	for _, time := range nums {
		for _, dev := range nums {
			for _, seq := range nums {
				l = append(l, stamp(time, dev, seq))
			}
		}
	}
	return l
}

// edges are numbers near those that a promise names, and far from them.
func edges() []int {
	var l []int
	for _, n := range []int{0, 5, 1000, api.MaxJump, 2 * api.MaxJump, api.MaxTime - api.MaxJump, api.MaxTime, api.MaxTime + api.MaxJump} {
		l = append(l, n-2, n-1, n, n+1, n+2)
	}
	return append(l, math.MinInt, math.MinInt+1, -api.MaxTime, -api.MaxJump, math.MaxInt-api.MaxJump, math.MaxInt-1, math.MaxInt)
}

// less is Less by the words of P4.1.
func less(a, b api.Stamp) bool {
	if a.Time != b.Time {
		return a.Time < b.Time
	}
	if a.Dev != b.Dev {
		return a.Dev < b.Dev
	}
	return a.Seq < b.Seq
}

// right is Right by the words of P4.2, with numbers of any size.
func right(t, past *big.Int) api.Errno {
	most := big.NewInt(api.MaxTime)
	jump := new(big.Int).Add(past, big.NewInt(api.MaxJump))
	if past.Sign() < 0 || past.Cmp(t) >= 0 || t.Cmp(most) > 0 || t.Cmp(jump) > 0 {
		return api.ErrClock
	}
	return api.OK
}

// next is Next by the words of P4.3, with numbers of any size.
func next(known, now int) (int, api.Errno) {
	past := big.NewInt(int64(known))
	t := new(big.Int).Add(past, big.NewInt(1))
	if b := big.NewInt(int64(now)); b.Cmp(t) > 0 {
		t = b
	}
	if err := right(t, past); err != api.OK {
		return 0, api.ErrClock
	}
	return int(t.Int64()), api.OK
}

func TestP4_1Less(t *testing.T) {
	for _, a := range stamps() {
		for _, b := range stamps() {
			if clock.Less(a, b) != less(a, b) {
				t.Errorf("P4.1: Less(%v, %v) = %v", a, b, !less(a, b))
			}
		}
	}
}

func TestP4_1LessByTimeThenDevThenSeq(t *testing.T) {
	rising := []api.Stamp{stamp(1, 1, 1), stamp(1, 1, 2), stamp(1, 2, 1), stamp(1, 10, 0), stamp(2, 1, 1), stamp(10, 0, 0)}
	for i, a := range rising {
		for j, b := range rising {
			if clock.Less(a, b) != (i < j) {
				t.Errorf("P4.1: Less(%v, %v) = %v", a, b, i >= j)
			}
		}
	}
}

func TestP4_2Right(t *testing.T) {
	for _, time := range edges() {
		for _, past := range edges() {
			want := right(big.NewInt(int64(time)), big.NewInt(int64(past)))
			if err := clock.Right(time, past); err != want {
				t.Errorf("P4.2: Right(%d, %d) = %d, want %d", time, past, err, want)
			}
		}
	}
}

func TestP4_2RightAtItsBounds(t *testing.T) {
	for _, x := range []struct {
		t, past int
		want    api.Errno
	}{
		{1, 0, api.OK}, {0, 0, api.ErrClock}, {0, -1, api.ErrClock}, {-1, -2, api.ErrClock}, {5, 6, api.ErrClock}, {6, 6, api.ErrClock},
		{7 + api.MaxJump, 7, api.OK}, {8 + api.MaxJump, 7, api.ErrClock}, {api.MaxJump - 1, -1, api.ErrClock},
		{api.MaxTime, api.MaxTime - api.MaxJump, api.OK}, {api.MaxTime + 1, api.MaxTime, api.ErrClock}, {api.MaxTime + 1, api.MaxTime - 5, api.ErrClock},
		{math.MinInt, math.MaxInt, api.ErrClock}, {math.MaxInt, math.MinInt, api.ErrClock}, {math.MaxInt, math.MaxInt - 1, api.ErrClock},
	} {
		if err := clock.Right(x.t, x.past); err != x.want {
			t.Errorf("P4.2: Right(%d, %d) = %d, want %d", x.t, x.past, err, x.want)
		}
	}
}

func TestP4_3Examples(t *testing.T) {
	for _, x := range []struct {
		known, now, want int
		err              api.Errno
	}{{5, 3, 6, api.OK}, {5, 9, 9, api.OK}, {5, 5 + api.MaxJump + 1, 0, api.ErrClock}, {5, 5 + api.MaxJump, 5 + api.MaxJump, api.OK}} {
		if n, err := clock.Next(x.known, x.now); n != x.want || err != x.err {
			t.Errorf("P4.3: Next(%d, %d) = %d, %d, want %d, %d", x.known, x.now, n, err, x.want, x.err)
		}
	}
}

func TestP4_3Next(t *testing.T) {
	for _, known := range edges() {
		for _, now := range edges() {
			want, wantErr := next(known, now)
			if n, err := clock.Next(known, now); n != want || err != wantErr {
				t.Errorf("P4.3: Next(%d, %d) = %d, %d, want %d, %d", known, now, n, err, want, wantErr)
			}
		}
	}
}

// wantOrder holds Order against P4.4: each place once, none ahead of one that is less, and of those that are alike the first one first.
func wantOrder(t *testing.T, l []api.Stamp) {
	t.Helper()
	places := clock.Order(l)
	each := slices.Clone(places)
	slices.Sort(each)
	for i, p := range each {
		if i != p {
			t.Fatalf("P4.4: Order(%v) = %v, not all places", l, places)
		}
	}
	if len(places) != len(l) {
		t.Fatalf("P4.4: Order(%v) = %v, not all places", l, places)
	}
	for i := 1; i < len(places); i++ {
		a, b := places[i-1], places[i]
		if less(l[b], l[a]) || l[a] == l[b] && a > b {
			t.Fatalf("P4.4: Order(%v) = %v: %d ahead of %d", l, places, a, b)
		}
	}
}

func TestP4_4OrderOfFew(t *testing.T) {
	for _, x := range []struct {
		l    []api.Stamp
		want []int
	}{
		{nil, nil},
		{[]api.Stamp{}, nil},
		{[]api.Stamp{stamp(9, 9, 9)}, []int{0}},
		{[]api.Stamp{stamp(3, 1, 1), stamp(2, 1, 1), stamp(1, 1, 1)}, []int{2, 1, 0}},
		{[]api.Stamp{stamp(1, 2, 1), stamp(1, 1, 2), stamp(1, 2, 1), stamp(1, 1, 1), stamp(0, 7, 7), stamp(1, 1, 2)}, []int{4, 3, 1, 5, 0, 2}},
		{[]api.Stamp{{}, {}, {}, {}}, []int{0, 1, 2, 3}},
	} {
		if places := clock.Order(x.l); !slices.Equal(places, x.want) {
			t.Errorf("P4.4: Order(%v) = %v, want %v", x.l, places, x.want)
		}
	}
}

func TestP4_4OrderOfMany(t *testing.T) {
	wantOrder(t, stamps())
	wantOrder(t, append(stamps(), stamps()...))
	seed := uint32(7)
	roll := func(n int) int {
		seed = seed*1664525 + 1013904223
		return int(seed>>16) % n
	}
	for range 200 {
		l := make([]api.Stamp, roll(80))
		for i := range l {
			l[i] = stamp(roll(4), roll(3), roll(3)) // many of them alike
		}
		wantOrder(t, l)
	}
	alike := make([]api.Stamp, 3000)
	wantOrder(t, alike)
}

func TestP4_5JustOneOfTwoUnlikeIsLess(t *testing.T) {
	for _, a := range stamps() {
		for _, b := range stamps() {
			if (clock.Less(a, b) != clock.Less(b, a)) != (a != b) {
				t.Errorf("P4.5: Less(%v, %v) and Less(%v, %v) are alike", a, b, b, a)
			}
		}
	}
}

func TestP4_5NextIsRightBehindWhatWasKnown(t *testing.T) {
	for _, known := range edges() {
		for _, now := range edges() {
			n, err := clock.Next(known, now)
			if err == api.OK && clock.Right(n, known) != api.OK {
				t.Errorf("P4.5: Next(%d, %d) = %d isn't Right", known, now, n)
			}
		}
	}
}

func TestP4_5TimesRiseBehindAClockThatStandsOrGoesBack(t *testing.T) {
	for _, now := range []func(i int) int{
		func(int) int { return 7 },
		func(i int) int { return 50 - i },
		func(i int) int { return -i },
	} {
		known := 0
		for i := range 100 {
			n, err := clock.Next(known, now(i))
			if err != api.OK || n <= known {
				t.Fatalf("P4.5: Next(%d, %d) = %d, %d", known, now(i), n, err)
			}
			known = n
		}
	}
}

func TestR3NothingIsShared(t *testing.T) {
	l := []api.Stamp{stamp(3, 1, 1), stamp(2, 1, 1), stamp(1, 1, 1)}
	was := slices.Clone(l)
	first := clock.Order(l)
	if !slices.Equal(l, was) {
		t.Errorf("R3: Order turned its argument: %v", l)
	}
	first[0] = 99
	if second := clock.Order(l); !slices.Equal(second, []int{2, 1, 0}) {
		t.Errorf("R3: Order = %v behind a change of what it answered", second)
	}
}
