package mix_test

import (
	"bytes"
	"math"
	"math/big"
	"slices"
	"strings"
	"testing"

	"homestead/mix"
)

const golden = 11400714819323198485

// whole is a number of any size, modulo 2^64.
func whole(n *big.Int) *big.Int {
	return new(big.Int).Mod(n, new(big.Int).Lsh(big.NewInt(1), 64))
}

// of is Of by the words of P6.1, with numbers of any size.
func of(n uint64) uint64 {
	big64 := func(n uint64) *big.Int { return new(big.Int).SetUint64(n) }
	itself := func(z *big.Int, k uint) *big.Int {
		shifted := new(big.Int).Quo(z, new(big.Int).Lsh(big.NewInt(1), k))
		return new(big.Int).Xor(z, shifted)
	}
	z := whole(new(big.Int).Add(big64(n), big64(golden)))
	z = whole(new(big.Int).Mul(itself(z, 30), big64(13787848793156543929)))
	z = whole(new(big.Int).Mul(itself(z, 27), big64(10723151780598845931)))
	return itself(z, 31).Uint64()
}

// then is Then by the words of P6.2.
func then(c uint64, b []byte) uint64 {
	for i := range b {
		c = of(c ^ uint64(b[i]))
	}
	return c
}

// sum is Sum by the words of P6.2.
func sum(b []byte) uint64 {
	return of(then(0, b) ^ uint64(len(b)))
}

// numbers are small ones, those at the ends, those near each power of two, those that the promise names, and some far from all that.
func numbers() []uint64 {
	l := []uint64{golden, 13787848793156543929, 10723151780598845931, math.MaxInt64, math.MaxUint64}
	for k := range 64 {
		power := uint64(1) << k
		l = append(l, power-1, power, power+1, -power, ^power, golden+power, golden-power, power*golden, -power*golden)
	}
	for k := range uint64(300) {
		l = append(l, k, -k, k*k*golden+k, k<<32|k)
	}
	return l
}

// texts are bytes of many kinds and lengths.
func texts() [][]byte {
	l := [][]byte{nil, {}, []byte("a"), []byte("ab"), []byte("ba"), []byte("\x00ab"), []byte("ab\x00"), []byte("Zürich \xff\x80")}
	for n := range 100 {
		l = append(l, make([]byte, n), bytes.Repeat([]byte{255}, n), []byte(strings.Repeat("xyz", n)[n:]))
	}
	for x := range 256 {
		l = append(l, []byte{byte(x)}, []byte{byte(x), byte(255 - x)})
	}
	return append(l, make([]byte, 1<<13), []byte(strings.Repeat("as long as a page, and more ", 300)))
}

func TestP6_1Examples(t *testing.T) {
	for _, c := range []struct{ n, want uint64 }{
		{0, 16294208416658607535},
		{1, 10451216379200822465},
		{math.MaxUint64, 16490336266968443936},
	} {
		if got := mix.Of(c.n); got != c.want {
			t.Errorf("Of(%d) = %d, want %d", c.n, got, c.want)
		}
		if got := mix.Back(c.want); got != c.n {
			t.Errorf("Back(%d) = %d, want %d", c.want, got, c.n)
		}
	}
}

// The numbers of the promise are those of a known sequence, whose first terms from 1234567 on are published.
func TestP6_1Sequence(t *testing.T) {
	n := uint64(1234567)
	for _, want := range []uint64{6457827717110365317, 3203168211198807973, 9817491932198370423, 4593380528125082431, 16408922859458223821} {
		if got := mix.Of(n); got != want {
			t.Errorf("Of(%d) = %d, want %d", n, got, want)
		}
		n += golden
	}
}

func TestP6_1ByItsWords(t *testing.T) {
	for _, n := range numbers() {
		if got, want := mix.Of(n), of(n); got != want {
			t.Errorf("Of(%d) = %d, want %d", n, got, want)
		}
	}
}

func TestP6_1BackIsTheNumberOfWhichOfIsIt(t *testing.T) {
	for _, n := range numbers() {
		if got := of(mix.Back(n)); got != n {
			t.Errorf("Of(Back(%d)) = %d", n, got)
		}
		if got := mix.Back(of(n)); got != n {
			t.Errorf("Back(Of(%d)) = %d", n, got)
		}
	}
}

func TestP6_2Examples(t *testing.T) {
	for s, want := range map[string]uint64{"": 16294208416658607535, "a": 1303865553363498507, "ab": 14337718687949505752} {
		if got := mix.Sum([]byte(s)); got != want {
			t.Errorf("Sum(%q) = %d, want %d", s, got, want)
		}
	}
}

func TestP6_2ThenByItsWords(t *testing.T) {
	for _, b := range texts() {
		for _, c := range []uint64{0, 1, 255, 256, golden, math.MaxUint64} {
			if got, want := mix.Then(c, b), then(c, b); got != want {
				t.Errorf("Then(%d, %d bytes) = %d, want %d", c, len(b), got, want)
			}
			if len(b) > 1000 {
				break
			}
		}
	}
}

func TestP6_2ThenOfNoBytesIsWhatThereIs(t *testing.T) {
	for _, c := range numbers() {
		if mix.Then(c, nil) != c || mix.Then(c, []byte{}) != c {
			t.Errorf("Then(%d, none) = %d, %d", c, mix.Then(c, nil), mix.Then(c, []byte{}))
		}
	}
}

func TestP6_2SumByItsWords(t *testing.T) {
	for _, b := range texts() {
		if got, want := mix.Sum(b), sum(b); got != want {
			t.Errorf("Sum(%d bytes) = %d, want %d", len(b), got, want)
		}
	}
	if mix.Sum(nil) != mix.Of(0) {
		t.Error("Sum of no bytes isn't Of of 0")
	}
}

func TestP6_3UnlikeNumbersAreMixedToUnlikeOnes(t *testing.T) {
	from := make(map[uint64]uint64)
	check := func(n uint64) {
		m := mix.Of(n)
		if other, ok := from[m]; ok && other != n {
			t.Errorf("%d and %d are both mixed to %d", n, other, m)
		}
		from[m] = n
	}
	for _, n := range numbers() {
		check(n)
	}
	for n := range uint64(1 << 16) {
		check(n)
		check(n << 48)
	}
}

func TestP6_3EachNumberIsOneThatIsMixed(t *testing.T) {
	from := make(map[uint64]uint64)
	for n := range uint64(1 << 16) {
		for _, m := range []uint64{n, -n} {
			b := mix.Back(m)
			if mix.Of(b) != m {
				t.Fatalf("Of(%d) = %d, want %d", b, mix.Of(b), m)
			}
			if other, ok := from[b]; ok && other != m {
				t.Fatalf("%d and %d are both taken back to %d", m, other, b)
			}
			from[b] = m
		}
	}
}

func TestP6_3AnotherByteAnotherSum(t *testing.T) {
	for _, s := range []string{"a", "ab", "\x00\x00\x00", "a text of some bytes, \xff"} {
		was := mix.Sum([]byte(s))
		for i := range len(s) {
			sums := map[uint64]bool{was: true}
			for x := range 256 {
				b := []byte(s)
				if b[i] == byte(x) {
					continue
				}
				b[i] = byte(x)
				if sums[mix.Sum(b)] {
					t.Errorf("%q and %q, or another one of such, have one sum", s, b)
				}
				sums[mix.Sum(b)] = true
			}
		}
	}
}

func TestP6_3BytesBehindBytes(t *testing.T) {
	for _, s := range []string{"", "a", "ab", "\x00\xff", "a text of some bytes"} {
		for cut := range len(s) + 1 {
			for _, c := range []uint64{0, 5, golden, math.MaxUint64} {
				got := mix.Then(mix.Then(c, []byte(s[:cut])), []byte(s[cut:]))
				if want := mix.Then(c, []byte(s)); got != want {
					t.Errorf("%q cut at %d behind %d: %d, want %d", s, cut, c, got, want)
				}
			}
		}
	}
}

func TestR3BytesAreNotWrittenInto(t *testing.T) {
	for _, b := range texts() {
		was := slices.Clone(b)
		roomy := append(slices.Clone(b), "behind"...)
		mix.Then(7, roomy[:len(b)])
		mix.Sum(roomy[:len(b)])
		if !bytes.Equal(roomy[:len(b)], was) || string(roomy[len(b):]) != "behind" {
			t.Errorf("%d bytes were written into", len(b))
		}
	}
}

func TestR4TheSameAgain(t *testing.T) {
	roomy := append(make([]byte, 0, 64), "bytes with room behind"...)
	tight := slices.Clip(slices.Clone(roomy))
	for range 3 {
		if mix.Sum(roomy) != sum(tight) || mix.Sum(tight) != sum(tight) || mix.Then(9, roomy) != then(9, tight) {
			t.Error("another answer to the same bytes")
		}
	}
}
