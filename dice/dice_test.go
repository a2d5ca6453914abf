package dice

import (
	"math"
	"math/big"
	"testing"

	"promptbook/api"
)

const (
	round = 1 << 32
	most  = math.MaxUint32
)

// strewnStates is states by another rule than the package's, with those ahead of them where an answer may break.
func strewnStates() []uint32 {
	l := []uint32{0, 1, 2, 3, 65535, 65536, 65537, 1013904222, 1013904223, 1013904224, 1<<31 - 2, 1<<31 - 1, 1 << 31, 1<<31 + 1, most - 65536, most - 2, most - 1, most}
	x := uint32(2463534242)
	for range 200 {
		x ^= x << 13
		x ^= x >> 17
		x ^= x << 5
		l = append(l, x)
	}
	return l
}

// strewnSteps is numbers of steps of all sizes, with those ahead of them where an answer may break.
func strewnSteps() []uint64 {
	l := []uint64{0, 1, 2, 3, 4, 5, 6, 7, 8, 100, 65535, 65536, 65537, 1<<31 - 1, 1 << 31, 1<<31 + 1, round - 2, round - 1, round, round + 1, round + 2, 2 * round, 3*round + 7, 1<<63 - 1, 1 << 63, 1<<63 + 1, math.MaxUint64 - 1, math.MaxUint64}
	x := uint64(88172645463325252)
	for i := range 120 {
		x ^= x << 13
		x ^= x >> 7
		x ^= x << 17
		l = append(l, x>>(i%60))
	}
	return l
}

// modulo is a number's remainder, which is never below 0.
func modulo(x *big.Int) uint32 {
	return uint32(new(big.Int).Mod(x, big.NewInt(round)).Uint64())
}

// nextByWords reckons without going round, and takes the remainder behind it.
func nextByWords(state uint32) uint32 {
	x := new(big.Int).Mul(big.NewInt(1664525), big.NewInt(int64(state)))
	return modulo(x.Add(x, big.NewInt(1013904223)))
}

// skipByWords is n Nexts as the sum of a geometric series: the state times t^n, and (t^n - 1) / (t - 1) times the rest.
func skipByWords(state uint32, n uint64) uint32 {
	t := big.NewInt(1664525)
	less := new(big.Int).Sub(t, big.NewInt(1))
	// The division is a whole one only if the power is known modulo as much more.
	power := new(big.Int).Exp(t, new(big.Int).SetUint64(n), new(big.Int).Mul(less, big.NewInt(round)))
	series := new(big.Int).Sub(power, big.NewInt(1))
	series.Div(series, less)
	series.Mul(series, big.NewInt(1013904223))
	return modulo(series.Add(series, power.Mul(power, big.NewInt(int64(state)))))
}

// throwByWords is the number of whole 65536ths of sides in the upper bits.
func throwByWords(next uint32, sides int) int {
	x := new(big.Int).Mul(big.NewInt(int64(next/65536)), big.NewInt(int64(sides)))
	return int(x.Div(x, big.NewInt(65536)).Int64())
}

// P9.1: Next and Back of the document's example, there and back, and of the states at the ends and in the middle.
func TestNextAndBack(t *testing.T) {
	for _, x := range []struct {
		state, next uint32
	}{
		{0, 1013904223}, {1, 1015568748}, {2, 1017233273}, {1013904223, 1196435762},
		{1<<31 - 1, 3159723346}, {1 << 31, 3161387871}, {most, 1012239698}, {most - 1, 1010575173},
	} {
		if got := Next(x.state); got != x.next {
			t.Errorf("Next(%d) = %d, want %d", x.state, got, x.next)
		}
		if got := Back(x.next); got != x.state {
			t.Errorf("Back(%d) = %d, want %d", x.next, got, x.state)
		}
	}
}

// P9.1: Back of those states is one whose next one they are, by the chapter's words.
func TestBackOfTheEnds(t *testing.T) {
	for _, state := range []uint32{0, 1, 1<<31 - 1, 1 << 31, most} {
		if got := nextByWords(Back(state)); got != state {
			t.Errorf("the next one of Back(%d) = %d is %d", state, Back(state), got)
		}
	}
	if got := Back(0); got != 634785765 {
		t.Errorf("Back(0) = %d", got)
	}
}

// P9.1: Next and Back of many states, by the chapter's words.
func TestNextAndBackByWords(t *testing.T) {
	for _, state := range strewnStates() {
		next := nextByWords(state)
		if got := Next(state); got != next {
			t.Errorf("Next(%d) = %d, want %d", state, got, next)
		}
		if got := Back(next); got != state {
			t.Errorf("Back(%d) = %d, want %d", next, got, state)
		}
	}
}

// P9.1: Skip by none, by one, by a few, and by so many that it goes round, once and often.
func TestSkip(t *testing.T) {
	for _, state := range strewnStates() {
		next, back := nextByWords(state), Back(state)
		for _, x := range []struct {
			n    uint64
			want uint32
		}{
			{0, state}, {1, next}, {2, nextByWords(next)}, {3, nextByWords(nextByWords(next))},
			{round - 1, back}, {round, state}, {round + 1, next}, {2 * round, state}, {5*round + 1, next}, {1 << 63, state}, {math.MaxUint64, back}, {math.MaxUint64 - round, back},
		} {
			if got := Skip(state, x.n); got != x.want {
				t.Errorf("Skip(%d, %d) = %d, want %d", state, x.n, got, x.want)
			}
		}
	}
}

// P9.1: Skip by half the way round is not the state yet, but half of 2^32 off.
func TestSkipHalfTheWay(t *testing.T) {
	for _, state := range strewnStates() {
		if got := Skip(state, 1<<31); got != state^1<<31 {
			t.Errorf("Skip(%d, 2^31) = %d", state, got)
		}
	}
}

// P9.1: Skip by so many is so many Nexts, each of some thousand.
func TestSkipIsNexts(t *testing.T) {
	for _, start := range []uint32{0, 1, 7, 1 << 31, most} {
		state := start
		for n := range uint64(5000) {
			if got := Skip(start, n); got != state {
				t.Fatalf("Skip(%d, %d) = %d, want %d", start, n, got, state)
			}
			state = nextByWords(state)
		}
	}
}

// P9.1: so it is of some hundred thousand, counted once.
func TestSkipIsManyNexts(t *testing.T) {
	const many = 300001
	state := uint32(2463534242)
	for range many {
		state = Next(state)
	}
	if got := Skip(2463534242, many); got != state {
		t.Errorf("Skip by %d = %d, want %d", many, got, state)
	}
}

// P9.1: Skip of many states by numbers of all sizes, by the sum of the series.
func TestSkipByWords(t *testing.T) {
	for _, state := range strewnStates() {
		for _, n := range strewnSteps() {
			if got, want := Skip(state, n), skipByWords(state, n); got != want {
				t.Fatalf("Skip(%d, %d) = %d, want %d", state, n, got, want)
			}
		}
	}
}

// P9.1: Seed of 0, of the greatest numbers, of either one alone, and of two numbers in both orders.
func TestSeed(t *testing.T) {
	for _, x := range []struct {
		a, b, want uint32
	}{
		{0, 0, 1196435762}, {0, 1, 1194771237}, {1, 0, 1586005467}, {1, 1, 1587669992}, {1, 2, 1589334517}, {2, 1, 1973910647},
		{most, 0, 806866057}, {0, most, 829708159}, {most, most, 1219277864},
	} {
		if got := Seed(x.a, x.b); got != x.want {
			t.Errorf("Seed(%d, %d) = %d, want %d", x.a, x.b, got, x.want)
		}
	}
}

// P9.1: Seed of many numbers is the next one of the first one's next xor the second one.
func TestSeedByWords(t *testing.T) {
	for _, a := range strewnStates() {
		for _, b := range strewnStates() {
			if got, want := Seed(a, b), nextByWords(nextByWords(a)^b); got != want {
				t.Fatalf("Seed(%d, %d) = %d, want %d", a, b, got, want)
			}
		}
	}
}

// P9.2: Throw of one side, of two, of a die's and of the most there may be; the state is the next one.
func TestThrow(t *testing.T) {
	for _, x := range []struct {
		state uint32
		sides int
		want  int
	}{
		{0, 1, 0}, {0, 2, 0}, {0, 6, 1}, {0, 65535, 15469}, {0, 65536, 15470},
		{1<<31 - 1, 2, 1}, {1<<31 - 1, 6, 4}, {1<<31 - 1, 65536, 48213}, {most, 1, 0}, {most, 65536, 15445},
	} {
		next, n, e := Throw(x.state, x.sides)
		if next != nextByWords(x.state) || n != x.want || e != api.OK {
			t.Errorf("Throw(%d, %d) = %d, %d, %d, want %d, %d", x.state, x.sides, next, n, e, nextByWords(x.state), x.want)
		}
	}
}

// P9.2: the throw hangs on the next state's upper 16 bits: the least are 0, the greatest sides - 1, for all numbers of sides.
func TestThrowLeastAndMost(t *testing.T) {
	for sides := 1; sides <= 65536; sides++ {
		for _, x := range []struct {
			next uint32
			want int
		}{
			{0, 0}, {65535, 0}, {most, sides - 1}, {most - 65535, sides - 1}, {1 << 31, sides / 2}, {1<<31 - 1, 32767 * sides / 65536},
		} {
			next, n, e := Throw(Back(x.next), sides)
			if next != x.next || n != x.want || e != api.OK {
				t.Fatalf("Throw of %d sides with the next state %d = %d, %d, %d, want %d", sides, x.next, next, n, e, x.want)
			}
		}
	}
}

// P9.2: where one throw ends and the next one begins; the lower 16 bits turn nothing.
func TestThrowWhereItTurns(t *testing.T) {
	for _, sides := range []int{2, 3, 4, 6, 8, 100, 255, 65535, 65536} {
		for k := 1; k < sides; k += 1 + sides/500 {
			first := uint32((k*65536 + sides - 1) / sides)
			for _, x := range []struct {
				next uint32
				want int
			}{
				{first << 16, k}, {first<<16 | 65535, k}, {first<<16 - 1, k - 1}, {(first - 1) << 16, k - 1},
			} {
				if _, n, e := Throw(Back(x.next), sides); n != x.want || e != api.OK {
					t.Fatalf("Throw of %d sides with the next state %d = %d, %d, want %d", sides, x.next, n, e, x.want)
				}
			}
		}
	}
}

// P9.2: Throw of many states and sides, by the chapter's words, from 0 to sides - 1.
func TestThrowByWords(t *testing.T) {
	for _, state := range strewnStates() {
		for _, sides := range []int{1, 2, 3, 4, 5, 6, 7, 8, 100, 200, 255, 256, 1000, 32767, 32768, 32769, 65534, 65535, 65536} {
			want := nextByWords(state)
			next, n, e := Throw(state, sides)
			if next != want || n != throwByWords(want, sides) || e != api.OK {
				t.Fatalf("Throw(%d, %d) = %d, %d, %d, want %d, %d", state, sides, next, n, e, want, throwByWords(want, sides))
			}
			if n < 0 || n >= sides {
				t.Fatalf("Throw(%d, %d) = %d", state, sides, n)
			}
		}
	}
}

// P9.2: of throws one behind the other each side comes, and about as often as the others.
func TestThrowsAreStrewn(t *testing.T) {
	for _, sides := range []int{1, 2, 6, 100} {
		const each = 1000
		seen := make([]int, sides)
		state := uint32(5)
		for range each * sides {
			next, n, e := Throw(state, sides)
			if e != api.OK || n < 0 || n >= sides {
				t.Fatalf("Throw(%d, %d) = %d, %d", state, sides, n, e)
			}
			state = next
			seen[n]++
		}
		for n, count := range seen {
			if count < each*8/10 || count > each*12/10 {
				t.Errorf("of %d sides %d came %d times", sides, n, count)
			}
		}
	}
}

// P9.2: ErrArg, and nothing beside it, where sides aren't 1 to 65536, whatever the state.
func TestThrowWrongSides(t *testing.T) {
	for _, state := range strewnStates() {
		for _, sides := range []int{0, -1, -2, -6, -65536, 65537, 65538, 1 << 31, 1 << 32, 1<<32 + 1, 1<<32 + 65536, -1 << 32, 1 - 1<<32, math.MinInt, math.MinInt + 1, math.MaxInt - 1, math.MaxInt} {
			if next, n, e := Throw(state, sides); next != 0 || n != 0 || e != api.ErrArg {
				t.Fatalf("Throw(%d, %d) = %d, %d, %d, want ErrArg", state, sides, next, n, e)
			}
		}
		for _, sides := range []int{1, 65536} {
			if _, _, e := Throw(state, sides); e != api.OK {
				t.Fatalf("Throw(%d, %d): %d", state, sides, e)
			}
		}
	}
}

// P9.3: Back goes where Next came from, and Next where Back came from, for states all the way round.
func TestThereAndBack(t *testing.T) {
	check := func(state uint32) {
		if got := Back(Next(state)); got != state {
			t.Fatalf("Back(Next(%d)) = %d", state, got)
		}
		if got := Next(Back(state)); got != state {
			t.Fatalf("Next(Back(%d)) = %d", state, got)
		}
	}
	for _, state := range strewnStates() {
		check(state)
	}
	for state := 0; state < round; state += 4099 {
		check(uint32(state))
	}
}

// P9.3: many Nexts are gone back by as many Backs, state by state.
func TestManyThereAndBack(t *testing.T) {
	for _, start := range []uint32{0, 1, 1 << 31, most} {
		states := []uint32{start}
		for i := range 2000 {
			states = append(states, Next(states[i]))
		}
		state := states[len(states)-1]
		for i := len(states) - 2; i >= 0; i-- {
			if state = Back(state); state != states[i] {
				t.Fatalf("from %d, back at %d: %d, want %d", start, i, state, states[i])
			}
		}
	}
}

// P9.3: unlike states have unlike nexts: many in a row, and those that differ in one bit.
func TestUnlikeNexts(t *testing.T) {
	from := map[uint32]uint32{}
	for i := range uint32(200000) {
		state := i * 21473
		next := Next(state)
		if other, there := from[next]; there && other != state {
			t.Fatalf("Next of %d and of %d is %d", other, state, next)
		}
		from[next] = state
	}
	for _, state := range strewnStates() {
		for bit := range 32 {
			if other := state ^ 1<<bit; Next(state) == Next(other) {
				t.Fatalf("Next of %d and of %d is %d", state, other, Next(state))
			}
		}
	}
}

// P9.3: skipped in two parts, in either order, it is skipped at once; parts beyond 2^64 together are left out, since there is no such number.
func TestSkippedInParts(t *testing.T) {
	for _, state := range []uint32{0, 1, 7, 1<<31 - 1, 1 << 31, 2463534242, most} {
		for _, a := range strewnSteps() {
			for _, b := range strewnSteps() {
				if a > math.MaxUint64-b {
					continue
				}
				want := Skip(state, a+b)
				if got := Skip(Skip(state, a), b); got != want {
					t.Fatalf("Skip(Skip(%d, %d), %d) = %d, want %d", state, a, b, got, want)
				}
				if got := Skip(Skip(state, b), a); got != want {
					t.Fatalf("Skip(Skip(%d, %d), %d) = %d, want %d", state, b, a, got, want)
				}
			}
		}
	}
}

// P9.3: in three parts too, and behind so many steps as lead round it is where it began.
func TestSkippedRound(t *testing.T) {
	for _, state := range strewnStates() {
		for _, n := range strewnSteps() {
			on := n % round
			if got := Skip(Skip(Skip(state, on/2), on-on/2), round-on); got != state {
				t.Fatalf("from %d by %d, and on to 2^32: %d", state, on, got)
			}
			if got := Skip(state, on); got != Skip(state, n) {
				t.Fatalf("Skip(%d, %d) = %d, by as much less whole rounds %d", state, n, Skip(state, n), got)
			}
		}
	}
}
