package vector_test

import (
	"math"
	"slices"
	"testing"

	"homestead/api"
	"homestead/vector"
)

// small are all vectors of at most three places with numbers from 0 to 2, those with noughts at the end too.
func small() []api.Vector {
	l := []api.Vector{{}}
	for i := 0; i < len(l); i++ {
		if len(l[i]) == 3 {
			break
		}
		for n := range 3 {
			l = append(l, append(slices.Clone(l[i]), n))
		}
	}
	return l
}

// long has n at the place of a device, and as many noughts around it as it needs to have so many places.
func long(places, dev, n int) api.Vector {
	v := make(api.Vector, places)
	v[dev-1] = n
	return v
}

// edges are vectors near the bounds, right ones and others.
func edges() []api.Vector {
	return []api.Vector{
		nil,
		{api.MaxSeq},
		{api.MaxSeq - 1, 0, api.MaxSeq},
		{api.MaxSeq + 1},
		{0, api.MaxSeq + 1, 0},
		{-1},
		{0, -1},
		{2, -3, 4, 0},
		{-2, 1, -4},
		{math.MinInt, math.MaxInt},
		{math.MaxInt, math.MinInt, 0, 0},
		make(api.Vector, api.MaxDev),
		make(api.Vector, api.MaxDev+1),
		make(api.Vector, 3*api.MaxDev),
		long(api.MaxDev, api.MaxDev, 7),
		long(api.MaxDev, 1, 7),
		long(api.MaxDev+1, api.MaxDev+1, 7),
		long(api.MaxDev+1, api.MaxDev, 5),
		long(api.MaxDev+1, api.MaxDev+1, -7),
		long(2*api.MaxDev, 2*api.MaxDev-1, 1),
	}
}

func vectors() []api.Vector { return append(small(), edges()...) }

// right is Right by the words of P5.1.
func right(v api.Vector) bool {
	for _, n := range v {
		if n < 0 || n > api.MaxSeq {
			return false
		}
	}
	return len(v) <= api.MaxDev
}

// of is what a vector has of a device, by the words of P5.1.
func of(v api.Vector, dev int) int {
	for i, n := range v {
		if i+1 == dev {
			return n
		}
	}
	return 0
}

// devs is above the devices of which one of these tests' vectors has something.
const devs = 3*api.MaxDev + 2

// wantOf holds what a vector has of each device against what it should, and that it is trimmed.
func wantOf(t *testing.T, promise string, v api.Vector, want func(dev int) int) {
	t.Helper()
	for dev := 1; dev <= devs; dev++ {
		if n := of(v, dev); n != want(dev) {
			t.Errorf("%s: %v has %d of %d, want %d", promise, v, n, dev, want(dev))
		}
	}
	if len(v) > 0 && v[len(v)-1] == 0 {
		t.Errorf("%s: %v isn't trimmed", promise, v)
	}
}

func TestP5_1Right(t *testing.T) {
	for _, v := range vectors() {
		if vector.Right(v) != right(v) {
			t.Errorf("P5.1: Right(%v) = %v", v, !right(v))
		}
	}
}

func TestP5_1RightAtItsBounds(t *testing.T) {
	full := make(api.Vector, api.MaxDev)
	for i := range full {
		full[i] = api.MaxSeq
	}
	if !vector.Right(full) {
		t.Error("P5.1: the fullest one isn't Right")
	}
	if vector.Right(append(slices.Clone(full), 0)) {
		t.Error("P5.1: one of MaxDev + 1 places is Right")
	}
	for i := range full {
		for _, n := range []int{-1, api.MaxSeq + 1, math.MinInt, math.MaxInt} {
			v := slices.Clone(full)
			v[i] = n
			if vector.Right(v) {
				t.Errorf("P5.1: one with %d at the place %d is Right", n, i)
			}
		}
	}
}

func TestP5_1Of(t *testing.T) {
	for _, v := range vectors() {
		for dev := -2; dev <= devs; dev++ {
			if n := vector.Of(v, dev); n != of(v, dev) {
				t.Errorf("P5.1: Of(%v, %d) = %d, want %d", v, dev, n, of(v, dev))
			}
		}
		for _, dev := range []int{math.MinInt, math.MinInt + 1, math.MaxInt - 1, math.MaxInt} {
			if n := vector.Of(v, dev); n != 0 {
				t.Errorf("P5.1: Of(%v, %d) = %d", v, dev, n)
			}
		}
	}
}

// forall tells whether what two vectors have of each device holds.
func forall(a, b api.Vector, holds func(x, y int) bool) bool {
	for dev := 1; dev <= devs; dev++ {
		if !holds(of(a, dev), of(b, dev)) {
			return false
		}
	}
	return true
}

func TestP5_1SameAndUpto(t *testing.T) {
	for _, a := range vectors() {
		for _, b := range vectors() {
			same := forall(a, b, func(x, y int) bool { return x == y })
			if vector.Same(a, b) != same {
				t.Errorf("P5.1: Same(%v, %v) = %v", a, b, !same)
			}
			upto := forall(a, b, func(x, y int) bool { return !(x > y) })
			if vector.Upto(a, b) != upto {
				t.Errorf("P5.1: Upto(%v, %v) = %v", a, b, !upto)
			}
		}
	}
}

func TestP5_1SameAndUptoOfFew(t *testing.T) {
	for _, x := range []struct {
		a, b       api.Vector
		same, upto bool
	}{
		{nil, api.Vector{}, true, true},
		{nil, api.Vector{0, 0}, true, true},
		{api.Vector{0, 0}, nil, true, true},
		{api.Vector{1, 2}, api.Vector{1, 2}, true, true},
		{api.Vector{1, 2}, api.Vector{1, 2, 0, 0}, true, true},
		{api.Vector{1, 2, 0, 0}, api.Vector{1, 2}, true, true},
		{api.Vector{1, 2}, api.Vector{1, 2, 0, 1}, false, true},
		{api.Vector{1, 2, 0, 1}, api.Vector{1, 2}, false, false},
		{api.Vector{1, 2}, api.Vector{2, 1}, false, false},
		{api.Vector{0, -1}, nil, false, true}, // behind the end of the other one there are 0
		{nil, api.Vector{0, -1}, false, false},
	} {
		if s, u := vector.Same(x.a, x.b), vector.Upto(x.a, x.b); s != x.same || u != x.upto {
			t.Errorf("P5.1: Same and Upto(%v, %v) = %v, %v", x.a, x.b, s, u)
		}
	}
}

func TestP5_1Has(t *testing.T) {
	for _, v := range vectors() {
		for dev := -1; dev <= devs; dev++ {
			for _, seq := range []int{math.MinInt, -4, -1, 0, 1, 2, 3, 5, 7, 8, api.MaxSeq - 1, api.MaxSeq, api.MaxSeq + 1, api.MaxSeq + 2, math.MaxInt} {
				want := seq >= 1 && seq <= of(v, dev)
				if is := vector.Has(v, api.Dot{Dev: dev, Seq: seq}); is != want {
					t.Errorf("P5.1: Has(%v, %d.%d) = %v", v, dev, seq, is)
				}
			}
		}
	}
}

func TestP5_2Trim(t *testing.T) {
	for _, v := range vectors() {
		wantOf(t, "P5.2: Trim", vector.Trim(v), func(dev int) int { return of(v, dev) })
	}
	for _, x := range []struct{ v, want api.Vector }{
		{nil, nil}, {api.Vector{}, nil}, {api.Vector{0}, nil}, {api.Vector{0, 0, 0}, nil},
		{api.Vector{0, 1, 0, 0}, api.Vector{0, 1}}, {api.Vector{0, 1}, api.Vector{0, 1}}, {api.Vector{1, 0, 2}, api.Vector{1, 0, 2}}, {api.Vector{0, -1, 0}, api.Vector{0, -1}},
	} {
		if v := vector.Trim(x.v); !slices.Equal(v, x.want) {
			t.Errorf("P5.2: Trim(%v) = %v, want %v", x.v, v, x.want)
		}
	}
}

func TestP5_2JoinAndMeet(t *testing.T) {
	for _, a := range vectors() {
		for _, b := range vectors() {
			wantOf(t, "P5.2: Join", vector.Join(a, b), func(dev int) int {
				if of(a, dev) > of(b, dev) {
					return of(a, dev)
				}
				return of(b, dev)
			})
			wantOf(t, "P5.2: Meet", vector.Meet(a, b), func(dev int) int {
				if of(a, dev) < of(b, dev) {
					return of(a, dev)
				}
				return of(b, dev)
			})
		}
	}
}

func TestP5_2JoinAndMeetOfFew(t *testing.T) {
	for _, x := range []struct{ a, b, join, meet api.Vector }{
		{api.Vector{2, 0, 5}, api.Vector{1, 3}, api.Vector{2, 3, 5}, api.Vector{1}}, // the document's example
		{nil, nil, nil, nil},
		{api.Vector{0, 0}, api.Vector{0}, nil, nil},
		{api.Vector{1}, nil, api.Vector{1}, nil},
		{api.Vector{1, 0, 0}, api.Vector{2, 0}, api.Vector{2}, api.Vector{1}},
		{api.Vector{0, 2}, api.Vector{2}, api.Vector{2, 2}, nil},
		{api.Vector{-1, -2}, api.Vector{-3}, api.Vector{-1}, api.Vector{-3, -2}},
	} {
		if v := vector.Join(x.a, x.b); !slices.Equal(v, x.join) {
			t.Errorf("P5.2: Join(%v, %v) = %v, want %v", x.a, x.b, v, x.join)
		}
		if v := vector.Meet(x.a, x.b); !slices.Equal(v, x.meet) {
			t.Errorf("P5.2: Meet(%v, %v) = %v, want %v", x.a, x.b, v, x.meet)
		}
	}
}

func TestP5_2Set(t *testing.T) {
	for _, v := range vectors() {
		for set := 1; set <= api.MaxDev; set++ {
			for _, n := range []int{math.MinInt, -1, 0, 1, 9, api.MaxSeq, api.MaxSeq + 1, math.MaxInt} {
				wantOf(t, "P5.2: Set", vector.Set(v, set, n), func(dev int) int {
					if dev == set {
						return n
					}
					return of(v, dev)
				})
			}
		}
	}
}

func TestP5_2SetOfNoDeviceTrims(t *testing.T) {
	for _, v := range vectors() {
		for _, no := range []int{math.MinInt, -1, 0, api.MaxDev + 1, 2 * api.MaxDev, math.MaxInt} {
			wantOf(t, "P5.2: Set", vector.Set(v, no, 9), func(dev int) int { return of(v, dev) })
		}
	}
}

func TestP5_2SetOfFew(t *testing.T) {
	last := long(api.MaxDev, api.MaxDev, 3)
	for _, x := range []struct {
		v      api.Vector
		dev, n int
		want   api.Vector
	}{
		{nil, 1, 1, api.Vector{1}},
		{nil, 3, 1, api.Vector{0, 0, 1}},
		{nil, api.MaxDev, 0, nil},
		{nil, api.MaxDev, 3, last},
		{last, api.MaxDev, 0, nil},
		{api.Vector{2, 0, 5}, 1, 7, api.Vector{7, 0, 5}},
		{api.Vector{2, 0, 5}, 3, 0, api.Vector{2}},
		{api.Vector{2, 0, 5, 0, 0}, 2, 4, api.Vector{2, 4, 5}},
		{api.Vector{2, 0, 5}, 5, 1, api.Vector{2, 0, 5, 0, 1}},
		{api.Vector{2, 0, 5, 0}, 0, 9, api.Vector{2, 0, 5}},
		{api.Vector{2, 0, 5, 0}, api.MaxDev + 1, 9, api.Vector{2, 0, 5}},
	} {
		if v := vector.Set(x.v, x.dev, x.n); !slices.Equal(v, x.want) {
			t.Errorf("P5.2: Set(%v, %d, %d) = %v, want %v", x.v, x.dev, x.n, v, x.want)
		}
	}
}

func TestP5_3LacksOfFew(t *testing.T) {
	for _, x := range []struct {
		a, b api.Vector
		want []api.Dot
	}{
		{api.Vector{1, 3}, api.Vector{2, 0, 5}, []api.Dot{{Dev: 1, Seq: 2}, {Dev: 3, Seq: 1}, {Dev: 3, Seq: 2}, {Dev: 3, Seq: 3}, {Dev: 3, Seq: 4}, {Dev: 3, Seq: 5}}},
		{api.Vector{2, 0, 5}, api.Vector{1, 3}, []api.Dot{{Dev: 2, Seq: 1}, {Dev: 2, Seq: 2}, {Dev: 2, Seq: 3}}},
		{nil, nil, nil},
		{nil, api.Vector{0, 0}, nil},
		{api.Vector{4}, nil, nil},
		{api.Vector{4}, api.Vector{4, 0}, nil},
		{api.Vector{api.MaxSeq - 1}, api.Vector{api.MaxSeq}, []api.Dot{{Dev: 1, Seq: api.MaxSeq}}},
		{nil, long(api.MaxDev, api.MaxDev, 1), []api.Dot{{Dev: api.MaxDev, Seq: 1}}},
	} {
		if l := vector.Lacks(x.a, x.b); !slices.Equal(l, x.want) {
			t.Errorf("P5.3: Lacks(%v, %v) = %v, want %v", x.a, x.b, l, x.want)
		}
	}
}

func TestP5_3Lacks(t *testing.T) {
	for _, a := range small() {
		for _, b := range small() {
			var want []api.Dot
			for dev := 1; dev <= 4; dev++ {
				for seq := 1; seq <= 3; seq++ {
					if seq <= of(b, dev) && seq > of(a, dev) {
						want = append(want, api.Dot{Dev: dev, Seq: seq})
					}
				}
			}
			if l := vector.Lacks(a, b); !slices.Equal(l, want) {
				t.Errorf("P5.3: Lacks(%v, %v) = %v, want %v", a, b, l, want)
			}
		}
	}
}

func TestP5_3LacksNoneIfOneIsNotRight(t *testing.T) {
	for _, bad := range vectors() {
		if right(bad) {
			continue
		}
		for _, v := range []api.Vector{nil, {1, 2, 3}, long(api.MaxDev, api.MaxDev, 9), bad} {
			if l := vector.Lacks(v, bad); len(l) != 0 {
				t.Errorf("P5.3: Lacks(%v, %v) = %v", v, bad, l)
			}
			if l := vector.Lacks(bad, v); len(l) != 0 {
				t.Errorf("P5.3: Lacks(%v, %v) = %v", bad, v, l)
			}
		}
	}
}

func TestP5_3LacksOfMany(t *testing.T) {
	b := api.Vector{api.MaxSeq, 0, api.MaxSeq}
	l := vector.Lacks(api.Vector{3, 7}, b)
	if len(l) != 2*api.MaxSeq-3 {
		t.Fatalf("P5.3: %d dots", len(l))
	}
	for i, d := range l {
		want := api.Dot{Dev: 1, Seq: i + 4}
		if want.Seq > api.MaxSeq {
			want = api.Dot{Dev: 3, Seq: want.Seq - api.MaxSeq}
		}
		if d != want {
			t.Fatalf("P5.3: the dot at %d is %v, want %v", i, d, want)
		}
	}
}

func TestP5_4OrderPlaysNoPart(t *testing.T) {
	for _, a := range vectors() {
		for _, b := range vectors() {
			if !slices.Equal(vector.Join(a, b), vector.Join(b, a)) || !slices.Equal(vector.Meet(a, b), vector.Meet(b, a)) {
				t.Errorf("P5.4: Join or Meet of %v and %v hangs on their order", a, b)
			}
		}
	}
}

func TestP5_4HowThreeArePutTogetherPlaysNoPart(t *testing.T) {
	for _, a := range vectors() {
		for _, b := range vectors() {
			for _, c := range edges() {
				if !slices.Equal(vector.Join(vector.Join(a, b), c), vector.Join(a, vector.Join(b, c))) {
					t.Errorf("P5.4: Join of %v, %v and %v", a, b, c)
				}
				if !slices.Equal(vector.Meet(vector.Meet(a, b), c), vector.Meet(a, vector.Meet(b, c))) {
					t.Errorf("P5.4: Meet of %v, %v and %v", a, b, c)
				}
			}
		}
	}
}

func TestP5_4UptoAndJoinAndMeet(t *testing.T) {
	for _, a := range vectors() {
		for _, b := range vectors() {
			join := vector.Join(a, b)
			if !vector.Upto(a, join) || !vector.Upto(vector.Meet(a, b), a) {
				t.Errorf("P5.4: %v isn't up to its Join with %v, or its Meet with that isn't up to it", a, b)
			}
			if vector.Upto(a, b) != vector.Same(join, b) {
				t.Errorf("P5.4: Upto(%v, %v) = %v, their Join is %v", a, b, vector.Upto(a, b), join)
			}
		}
	}
}

func TestP5_4DotsOfJoinAndMeet(t *testing.T) {
	for _, a := range vectors() {
		for _, b := range vectors() {
			join, meet := vector.Join(a, b), vector.Meet(a, b)
			for dev := range 6 {
				for seq := -1; seq < 5; seq++ {
					d := api.Dot{Dev: dev, Seq: seq}
					inA, inB := vector.Has(a, d), vector.Has(b, d)
					if vector.Has(join, d) != (inA || inB) || vector.Has(meet, d) != (inA && inB) {
						t.Errorf("P5.4: %v in the Join or the Meet of %v and %v", d, a, b)
					}
				}
			}
		}
	}
}

func TestP5_4WhatOneLacksAndItMakeTheJoin(t *testing.T) {
	few := append(small(), nil, make(api.Vector, api.MaxDev), long(api.MaxDev, api.MaxDev, 7), long(api.MaxDev, 1, 7), api.Vector{0, 300})
	for _, a := range few {
		for _, b := range few {
			v := vector.Trim(a)
			for _, d := range vector.Lacks(a, b) {
				if vector.Of(v, d.Dev) != d.Seq-1 {
					t.Errorf("P5.4: Lacks(%v, %v) tells %v behind %v", a, b, d, v)
				}
				v = vector.Set(v, d.Dev, d.Seq)
			}
			if !slices.Equal(v, vector.Join(a, b)) {
				t.Errorf("P5.4: what %v lacks of %v, and it, make %v", a, b, v)
			}
		}
	}
}

// wantNotShared holds that a call turns neither of its arguments, with room behind them, and that its answer is new memory.
func wantNotShared(t *testing.T, name string, call func(a, b api.Vector) api.Vector) {
	t.Helper()
	room := func(l ...int) api.Vector { return append(make(api.Vector, 0, 90), l...) }
	for _, x := range [][2]api.Vector{{room(2, 0, 5), room(1, 3, 0)}, {room(4, 4), nil}, {nil, room(4, 4)}, {room(1, 2), room(1, 2)}, {room(0, 0), room(0)}, {room(2, 2, 2), room(1)}, {room(1), room(2, 2, 2)}} {
		a, b := x[0], x[1]
		wasA, wasB := slices.Clone(a[:cap(a)]), slices.Clone(b[:cap(b)])
		v := call(a, b)
		want := slices.Clone(v)
		for i := range v {
			v[i] += 50
		}
		_ = append(v, 70, 71)
		if !slices.Equal(a[:cap(a)], wasA) || !slices.Equal(b[:cap(b)], wasB) {
			t.Errorf("R3: %s turned what it was handed, %v and %v", name, wasA[:len(a)], wasB[:len(b)])
		}
		if w := call(a, b); !slices.Equal(w, want) {
			t.Errorf("R3: %s = %v behind a change of what it answered, %v ahead", name, w, want)
		}
	}
}

func TestR3NothingIsShared(t *testing.T) {
	wantNotShared(t, "Join", vector.Join)
	wantNotShared(t, "Meet", vector.Meet)
	wantNotShared(t, "Trim", func(a, _ api.Vector) api.Vector { return vector.Trim(a) })
	for _, dev := range []int{0, 1, 2, 5, api.MaxDev, api.MaxDev + 1} {
		wantNotShared(t, "Set", func(a, _ api.Vector) api.Vector { return vector.Set(a, dev, 9) })
	}
	a, b := api.Vector{1, 0}, api.Vector{2, 3, 0}
	vector.Lacks(a, b)
	if !slices.Equal(a, api.Vector{1, 0}) || !slices.Equal(b, api.Vector{2, 3, 0}) {
		t.Errorf("R3: Lacks turned what it was handed: %v, %v", a, b)
	}
}
