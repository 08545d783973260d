package hash

import (
	"math"
	"math/big"
	"strings"
	"testing"
)

const greatest = math.MaxUint64

// numbers are the edges of every width, what lies beside them, and some whose bits are spread.
func numbers() []uint64 {
	l := []uint64{0, greatest, greatest - 1, 0x0123456789abcdef, 0xfedcba9876543210, 0x9e3779b97f4a7c15, 0xaaaaaaaaaaaaaaaa, 0x5555555555555555}
	for shift := range 64 {
		n := uint64(1) << shift
		l = append(l, n-1, n, n+1, -n, ^n)
	}
	return l
}

// texts are of no byte, of one, of all, of noughts, of marks beyond 127, and long ones.
func texts() []string {
	l := []string{"", "a", "b", "ab", "ba", "key", "\x00", "\x00\x00", "\x7f", "\x80", "\xff", "\xff\xff", "gr\u00fc\u00dfe, \u4e16\u754c"}
	all := make([]byte, 256)
	for i := range all {
		all[i] = byte(i)
	}
	return append(l, string(all), strings.Repeat("x", 250), strings.Repeat("\xe4\x00\r\n", 5000))
}

// round is a number of any length, gone round at 64 bits.
func round(n *big.Int) *big.Int {
	return n.And(n, new(big.Int).SetUint64(greatest))
}

// stirred is the exclusive or of a number and of what a shift leaves of it, times a factor, in numbers that go round only when told so.
func stirred(n *big.Int, shift uint, factor uint64) *big.Int {
	x := new(big.Int).Xor(n, new(big.Int).Rsh(n, shift))
	return round(x.Mul(x, new(big.Int).SetUint64(factor)))
}

func longMix(n *big.Int) *big.Int {
	n = stirred(n, 30, 0xbf58476d1ce4e5b9)
	n = stirred(n, 27, 0x94d049bb133111eb)
	return stirred(n, 31, 1)
}

func longOf(seed uint64, s string) uint64 {
	h := longMix(new(big.Int).SetUint64(seed))
	for _, b := range []byte(s) {
		h.Xor(h, big.NewInt(int64(b)))
		h = round(h.Mul(h, big.NewInt(0x100000001b3)))
	}
	return longMix(h).Uint64()
}

func wantMix(t *testing.T, n, want uint64) {
	t.Helper()
	if h := Mix(n); h != want {
		t.Errorf("Mix(%x) = %x; want %x", n, h, want)
	}
}

func wantOf(t *testing.T, seed uint64, s string, want uint64) {
	t.Helper()
	if h := Of(seed, s); h != want {
		t.Errorf("Of(%x, %.20q) = %x; want %x", seed, s, h, want)
	}
}

// P3.1
func TestMixAsWrittenOut(t *testing.T) {
	wantMix(t, 0, 0)
	wantMix(t, 1, 0x5692161d100b05e5)
	wantMix(t, 2, 0xdbd238973a2b148a)
	wantMix(t, 3, 0x1e535eede31428f0)
	wantMix(t, 1<<27, 0xf5e56547bf03e35f)
	wantMix(t, 1<<30, 0x2ba0091cc9e3ceff)
	wantMix(t, 1<<31, 0xec105bf588587c9f)
	wantMix(t, 1<<63, 0x25c26ea579cea98a)
	wantMix(t, greatest, 0xb4d055fcf2cbbd7b)
	wantMix(t, greatest-1, 0xda26e52fa3730902)
	wantMix(t, 0x0123456789abcdef, 0xb2c058e4ebb5112c)
	wantMix(t, 0xfedcba9876543210, 0xee128d82ce22fe61)
	wantMix(t, 0x9e3779b97f4a7c15, 0xe220a8397b1dcdaf)
}

// P3.1
func TestMixGoesRoundAt64Bits(t *testing.T) {
	for _, n := range numbers() {
		wantMix(t, n, longMix(new(big.Int).SetUint64(n)).Uint64())
	}
}

// P3.2
func TestOfAsWrittenOut(t *testing.T) {
	wantOf(t, 0, "", 0)
	wantOf(t, 1, "", 0x7ab40e090f363a7d)
	wantOf(t, greatest, "", 0x4bffd802ebfb15e4)
	wantOf(t, 0, "a", 0x6e65d20e2a315fa6)
	wantOf(t, 1, "a", 0x94c2ee3ccf0b8c30)
	wantOf(t, 2, "a", 0xa3bbc3a056f7522e)
	wantOf(t, 1, "b", 0x3f21027e7d4745c4)
	wantOf(t, 0, "\x00", 0)
	wantOf(t, 0, "\x00\x00", 0)
	wantOf(t, 7, "\x00", 0xb5507e35a514c71b)
	wantOf(t, 7, "\x7f", 0x4ed7462879a59e5f)
	wantOf(t, 9, "key", 0x0afd85ec46364818)
	wantOf(t, 1<<63, "key", 0xeec3e1940878a1ff)
	wantOf(t, greatest, "key", 0x618e64fdd0ef3c2f)
	wantOf(t, 1, strings.Repeat("x", 250), 0x12d5d6f4bffeae87)
	wantOf(t, 0x9e3779b97f4a7c15, "set k 7 0 2\r\nxy\r\n", 0x9e5e40980aed5104)
}

// P3.2
func TestOfTakesBytesNotRunes(t *testing.T) {
	wantOf(t, 7, "\x80", 0x8b64bbd303f2361a)
	wantOf(t, 7, "\xff", 0x238ebda547a6f200)
	wantOf(t, 0, "\xff\xff", 0x6e173683bb029ab3)
	wantOf(t, 12345, "gr\u00fc\u00dfe, \u4e16\u754c", 0x7bbf19f081509f64)
}

// P3.2
func TestOfTakesBytesInOrder(t *testing.T) {
	wantOf(t, 0, "ab", 0xf7171b910dcbd8de)
	wantOf(t, 0, "ba", 0xe6373946fb72bd32)
}

// P3.2
func TestOfGoesRoundAt64Bits(t *testing.T) {
	for b := range 256 {
		s := string([]byte{byte(b)})
		wantOf(t, 5, s, longOf(5, s))
	}
	for _, s := range texts() {
		wantOf(t, 3, s, longOf(3, s))
	}
	for _, seed := range numbers() {
		wantOf(t, seed, "", longOf(seed, ""))
		wantOf(t, seed, "k\xfc\x00y", longOf(seed, "k\xfc\x00y"))
	}
}

// wantSeveral asks that the hashes come in order and with their numbers, and that they are as many as asked for, or as were taken.
func wantSeveral(t *testing.T, seed uint64, s string, many, taken int) {
	t.Helper()
	n := 0
	for i, h := range Several(seed, s, many) {
		if want := longOf(seed+uint64(n), s); i != n || h != want {
			t.Errorf("Several(%x, %.20q, %d): %d, %x; want %d, %x", seed, s, many, i, h, n, want)
		}
		n++
		if n == taken {
			break
		}
	}
	if want := max(min(many, taken), 0); n != want {
		t.Errorf("Several(%x, %.20q, %d): %d hashes; want %d", seed, s, many, n, want)
	}
}

// P3.3
func TestSeveralAsWrittenOut(t *testing.T) {
	want := []uint64{0x618e64fdd0ef3c2f, Of(0, "key"), Of(1, "key"), Of(2, "key")}
	n := 0
	for i, h := range Several(greatest, "key", len(want)) {
		if i != n || i >= len(want) || h != want[i] {
			t.Fatalf("%d, %x behind %d", i, h, n)
		}
		n++
	}
	if n != len(want) {
		t.Errorf("%d hashes", n)
	}
}

// P3.3
func TestSeveralAreAsManyAsAskedFor(t *testing.T) {
	for _, many := range []int{1, 2, 3, 4, 7, 300} {
		wantSeveral(t, 9, "key", many, many+1)
	}
	for _, s := range texts() {
		wantSeveral(t, 11, s, 5, 6)
	}
}

// P3.3
func TestSeveralSeedsGoRound(t *testing.T) {
	for _, seed := range numbers() {
		wantSeveral(t, seed, "k\xfc", 4, 5)
	}
}

// P3.3
func TestSeveralBelowOneAreNone(t *testing.T) {
	for _, many := range []int{0, -1, -2, -1000, math.MinInt, math.MinInt + 1} {
		wantSeveral(t, 9, "key", many, 1)
	}
}

// P3.3
func TestSeveralEndWhereOneLeavesThem(t *testing.T) {
	for taken := 1; taken <= 8; taken++ {
		wantSeveral(t, 9, "key", 8, taken)
		wantSeveral(t, 9, "key", math.MaxInt, taken)
	}
}

// P3.3: whoever says that it does not go on is not handed another one, even the last of them.
func TestSeveralHandNothingBehindTheEnd(t *testing.T) {
	for last := range 5 {
		calls := 0
		Several(9, "key", 5)(func(i int, h uint64) bool {
			calls++
			return i < last
		})
		if calls != last+1 {
			t.Errorf("%d calls; want %d", calls, last+1)
		}
	}
}

// P3.3, R5: nothing is kept from one going through to the next.
func TestSeveralBeginAgain(t *testing.T) {
	seq := Several(9, "key", 6)
	for taken := 1; taken <= 7; taken++ {
		n := 0
		for i, h := range seq {
			if i != n || h != Of(9+uint64(n), "key") {
				t.Fatalf("%d, %x behind %d", i, h, n)
			}
			n++
			if n == taken {
				break
			}
		}
		if n != min(taken, 6) {
			t.Errorf("%d hashes; want %d", n, min(taken, 6))
		}
	}
}

// P3.3, R5: two may go through the same hashes, the one within the other.
func TestSeveralWithinThemselves(t *testing.T) {
	seq := Several(3, "k", 4)
	pairs := 0
	for i, h := range seq {
		for j, g := range seq {
			if (i == j) != (h == g) {
				t.Errorf("%d has %x, %d has %x", i, h, j, g)
			}
			pairs++
		}
	}
	if pairs != 16 {
		t.Errorf("%d pairs", pairs)
	}
}

func wantBelow(t *testing.T, h uint64, n, want int) {
	t.Helper()
	if got := Below(h, n); got != want {
		t.Errorf("Below(%x, %d) = %d; want %d", h, n, got, want)
	}
}

// P3.4
func TestBelowIsTheRest(t *testing.T) {
	wantBelow(t, 7, 4, 3)
	wantBelow(t, 8, 4, 0)
	wantBelow(t, 3, 4, 3)
	wantBelow(t, 4, 4, 0)
	wantBelow(t, 0, 4, 0)
	wantBelow(t, 0, 1, 0)
	wantBelow(t, greatest, 1, 0)
	wantBelow(t, 1000, 64, 40)
	wantBelow(t, 1000, 512, 488)
	wantBelow(t, math.MaxInt, math.MaxInt, 0)
	wantBelow(t, math.MaxInt-1, math.MaxInt, math.MaxInt-1)
}

// P3.4: a hash is no number below nought, however high its bits.
func TestBelowOfTheHighestBit(t *testing.T) {
	wantBelow(t, 1<<63, 3, 2)
	wantBelow(t, 1<<63, 10, 8)
	wantBelow(t, 1<<63, 7, 1)
	wantBelow(t, greatest, 2, 1)
	wantBelow(t, greatest, 10, 5)
	wantBelow(t, greatest, 512, 511)
	wantBelow(t, greatest, 7, 1)
	wantBelow(t, 1<<63, math.MaxInt, 1)
	wantBelow(t, greatest, math.MaxInt, 1)
	wantBelow(t, greatest-1, math.MaxInt, 0)
	wantBelow(t, greatest-2, math.MaxInt, math.MaxInt-1)
}

// P3.4
func TestBelowAgainstLongNumbers(t *testing.T) {
	for _, h := range numbers() {
		for _, n := range []int{1, 2, 3, 5, 8, 10, 63, 64, 65, 512, 65536, 1<<31 - 1, 1 << 32, 1<<62 + 1, math.MaxInt} {
			rest := new(big.Int).SetUint64(h)
			rest.Mod(rest, big.NewInt(int64(n)))
			wantBelow(t, h, n, int(rest.Int64()))
		}
	}
}

// P3.4
func TestBelowOfNoNumberIsNought(t *testing.T) {
	for _, n := range []int{0, -1, -2, -4, -7, math.MinInt + 1, math.MinInt} {
		for _, h := range numbers() {
			wantBelow(t, h, n, 0)
		}
	}
}

// inverse is what times an odd factor goes round to 1: each step doubles the bits that are right.
func inverse(factor uint64) uint64 {
	x := factor
	for range 6 {
		x *= 2 - factor*x
	}
	return x
}

// unshifted is the number whose exclusive or with what a shift leaves of it is n.
func unshifted(n uint64, shift uint) uint64 {
	x := n
	for range 3 {
		x = n ^ x>>shift
	}
	return x
}

func unMix(n uint64) uint64 {
	n = unshifted(n, 31) * inverse(0x94d049bb133111eb)
	n = unshifted(n, 27) * inverse(0xbf58476d1ce4e5b9)
	return unshifted(n, 30)
}

// P3.5: what can be undone, from both sides, has just one number for each.
func TestMixCanBeUndone(t *testing.T) {
	l := numbers()
	for n := range uint64(5000) {
		l = append(l, n, n*0x9e3779b97f4a7c15)
	}
	for _, n := range l {
		if back := unMix(Mix(n)); back != n {
			t.Errorf("Mix(%x) is Mix(%x)", n, back)
		}
		wantMix(t, unMix(n), n)
	}
}

// P3.5
func TestMixOfTwoNumbersAreTwo(t *testing.T) {
	seen := map[uint64]uint64{}
	for _, n := range append(numbers(), 77, 77) {
		other, is := seen[Mix(n)]
		if is && other != n {
			t.Errorf("Mix(%x) is Mix(%x)", n, other)
		}
		seen[Mix(n)] = n
	}
}

// P3.5
func TestOneOtherByteIsAnotherHash(t *testing.T) {
	for _, s := range []string{"a", "\x00", "\xff", "key", "\x80\x00\x7f", strings.Repeat("x", 250)} {
		for _, seed := range []uint64{0, 1, 1 << 63, greatest} {
			for at := range len(s) {
				wantOtherHashes(t, seed, []byte(s), at)
			}
		}
	}
}

// wantOtherHashes asks that all texts that are s but for the byte at a place have hashes of their own.
func wantOtherHashes(t *testing.T, seed uint64, s []byte, at int) {
	t.Helper()
	seen := map[uint64]int{}
	for b := range 256 {
		s[at] = byte(b)
		h := Of(seed, string(s))
		if other, is := seen[h]; is {
			t.Errorf("seed %x, %.20q: %x at %d is %x there", seed, s, b, at, other)
		}
		seen[h] = b
	}
	if len(seen) != 256 {
		t.Errorf("%d hashes of 256 texts", len(seen))
	}
}

// R5
func TestHashesHangOnNothingElse(t *testing.T) {
	for _, s := range texts() {
		first := Of(4, s)
		Of(5, s+"x")
		Mix(9)
		wantOf(t, 4, strings.Clone(s), first)
	}
}
