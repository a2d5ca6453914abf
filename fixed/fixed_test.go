package fixed

import (
	"math"
	"math/big"
	"testing"

	"promptbook/api"
)

const (
	least = api.MinFix
	most  = api.MaxFix
	one   = api.One
)

// edges are numbers at and beside the places where an answer may break.
func edges() []api.Fix {
	return []api.Fix{
		least, least + 1, least + 2, -one * 20000, -one - 1, -one, -one + 1, -one / 2, -65535, -257, -3, -2, -1,
		0, 1, 2, 3, 7, 255, 256, 257, one / 2, one - 1, one, one + 1, 3 * one / 2, one * 20000, most - 2, most - 1, most,
	}
}

// scatter is the edges and numbers strewn by a fixed rule over all sizes.
func scatter() []api.Fix {
	l := edges()
	x := uint32(12345)
	for i := range 150 {
		x = x*1664525 + 1013904223
		l = append(l, api.Fix(int32(x))>>(i%31))
	}
	return l
}

// bigOf is a number without ends.
func bigOf(n int64) *big.Int {
	return big.NewInt(n)
}

// bigDown is a by b, down, for b above or below 0.
func bigDown(a, b *big.Int) *big.Int {
	q, m := new(big.Int).DivMod(a, b, new(big.Int))
	// DivMod leaves a remainder of at least 0, which is down only for b above 0.
	if b.Sign() < 0 && m.Sign() != 0 {
		q.Sub(q, big.NewInt(1))
	}
	return q
}

// bigSat is n, or the end that it passes.
func bigSat(n *big.Int) api.Fix {
	if n.Cmp(bigOf(int64(most))) > 0 {
		return most
	}
	if n.Cmp(bigOf(int64(least))) < 0 {
		return least
	}
	return api.Fix(n.Int64())
}

func bigPair(a, b api.Fix) (*big.Int, *big.Int) {
	return bigOf(int64(a)), bigOf(int64(b))
}

// P1.1: Sat.
func TestSat(t *testing.T) {
	for _, x := range []struct {
		n    int64
		want api.Fix
	}{
		{0, 0}, {1, 1}, {-1, -1}, {123456, 123456}, {-123456, -123456},
		{math.MaxInt32, most}, {math.MaxInt32 - 1, most - 1}, {math.MaxInt32 + 1, most},
		{math.MinInt32, least}, {math.MinInt32 + 1, least + 1}, {math.MinInt32 - 1, least},
		{1 << 32, most}, {-1 << 32, least}, {math.MaxInt64, most}, {math.MinInt64, least},
	} {
		if got := Sat(x.n); got != x.want {
			t.Errorf("Sat(%d) = %d, want %d", x.n, got, x.want)
		}
	}
}

// P1.1: Of.
func TestOf(t *testing.T) {
	for _, x := range []struct {
		n    int
		want api.Fix
	}{
		{0, 0}, {1, one}, {-1, -one}, {3, 3 * one}, {-7, -7 * one},
		{32767, 32767 * one}, {32768, most}, {40000, most},
		{-32768, least}, {-32767, -32767 * one}, {-32769, least}, {-40000, least},
		{1 << 48, most}, {-1 << 48, least}, {1 << 47, most}, {1<<48 + 1, most}, {-1<<48 - 1, least},
		{math.MaxInt, most}, {math.MinInt, least}, {math.MinInt + 1, least},
	} {
		if got := Of(x.n); got != x.want {
			t.Errorf("Of(%d) = %d, want %d", x.n, got, x.want)
		}
	}
}

// P1.1: Add, Sub, Mul and Div at plain inputs and at the ends.
func TestTwoNumbers(t *testing.T) {
	calls := map[string]func(a, b api.Fix) api.Fix{"Add": Add, "Sub": Sub, "Mul": Mul, "Div": Div}
	for _, x := range []struct {
		call       string
		a, b, want api.Fix
	}{
		{"Add", 2 * one, 3, 2*one + 3}, {"Add", -5, 3, -2},
		{"Add", most, 0, most}, {"Add", most, 1, most}, {"Add", most, most, most}, {"Add", most, -1, most - 1},
		{"Add", least, 0, least}, {"Add", least, -1, least}, {"Add", least, least, least}, {"Add", least, most, -1},
		{"Sub", 2 * one, 3, 2*one - 3}, {"Sub", -5, 3, -8},
		{"Sub", least, 1, least}, {"Sub", most, -1, most}, {"Sub", 0, least, most}, {"Sub", -1, least, most},
		{"Sub", least, most, least}, {"Sub", most, least, most}, {"Sub", least, least, 0}, {"Sub", most, most, 0},
		{"Mul", 3 * one / 2, -one / 2, -3 * one / 4}, {"Mul", 2 * one, 3 * one, 6 * one}, {"Mul", -2 * one, -3 * one, 6 * one},
		{"Mul", 1, 1, 0}, {"Mul", -1, 1, -1}, {"Mul", 1, -1, -1}, {"Mul", -1, -1, 0}, {"Mul", -3, one / 2, -2}, {"Mul", 3, one / 2, 1},
		{"Mul", most, most, most}, {"Mul", least, least, most}, {"Mul", least, most, least}, {"Mul", most, least, least},
		{"Mul", most, one, most}, {"Mul", least, one, least}, {"Mul", least, -one, most}, {"Mul", most, -one, -most},
		{"Mul", most, one + 1, most}, {"Mul", least, one + 1, least}, {"Mul", most, 0, 0}, {"Mul", 0, least, 0},
		{"Div", 6 * one, 3 * one, 2 * one}, {"Div", one, 3 * one, 21845}, {"Div", -one, 3 * one, -21846},
		{"Div", one, -3 * one, -21846}, {"Div", -one, -3 * one, 21845}, {"Div", -6 * one, 3 * one, -2 * one},
		{"Div", -1, most, -1}, {"Div", 1, least, -1}, {"Div", 1, most, 0}, {"Div", -1, least, 0},
		{"Div", one, 1, most}, {"Div", -one, 1, least}, {"Div", one, -1, least}, {"Div", least, -1, most}, {"Div", least, -one, most},
		{"Div", most, most, one}, {"Div", least, least, one}, {"Div", least, most, -one - 1}, {"Div", most, least, -one},
	} {
		if got := calls[x.call](x.a, x.b); got != x.want {
			t.Errorf("%s(%d, %d) = %d, want %d", x.call, x.a, x.b, got, x.want)
		}
	}
}

// P1.1: division by 0.
func TestDivByNothing(t *testing.T) {
	for _, a := range scatter() {
		want := api.Fix(0)
		if a > 0 {
			want = most
		}
		if a < 0 {
			want = least
		}
		if got := Div(a, 0); got != want {
			t.Errorf("Div(%d, 0) = %d, want %d", a, got, want)
		}
	}
}

// P1.1: Add, Sub, Mul and Div are what numbers without ends say.
func TestTwoNumbersAgainstBig(t *testing.T) {
	shift := bigOf(int64(one))
	for _, a := range scatter() {
		for _, b := range scatter() {
			x, y := bigPair(a, b)
			if got, want := Add(a, b), bigSat(new(big.Int).Add(x, y)); got != want {
				t.Errorf("Add(%d, %d) = %d, want %d", a, b, got, want)
			}
			if got, want := Sub(a, b), bigSat(new(big.Int).Sub(x, y)); got != want {
				t.Errorf("Sub(%d, %d) = %d, want %d", a, b, got, want)
			}
			if got, want := Mul(a, b), bigSat(bigDown(new(big.Int).Mul(x, y), shift)); got != want {
				t.Errorf("Mul(%d, %d) = %d, want %d", a, b, got, want)
			}
			if b == 0 {
				continue
			}
			if got, want := Div(a, b), bigSat(bigDown(new(big.Int).Mul(x, shift), y)); got != want {
				t.Errorf("Div(%d, %d) = %d, want %d", a, b, got, want)
			}
		}
	}
}

// P1.1: Neg, Abs and Floor.
func TestOneNumber(t *testing.T) {
	for _, x := range []struct {
		a, neg, abs api.Fix
		floor       int
	}{
		{0, 0, 0, 0}, {1, -1, 1, 0}, {-1, 1, 1, -1}, {5, -5, 5, 0}, {-5, 5, 5, -1},
		{one, -one, one, 1}, {one - 1, 1 - one, one - 1, 0}, {one + 1, -one - 1, one + 1, 1},
		{-one, one, one, -1}, {-one - 1, one + 1, one + 1, -2}, {-one + 1, one - 1, one - 1, -1},
		{5*one + 7, -5*one - 7, 5*one + 7, 5}, {-3 * one / 2, 3 * one / 2, 3 * one / 2, -2},
		{most, -most, most, 32767}, {most - 1, 1 - most, most - 1, 32767},
		{least, most, most, -32768}, {least + 1, most, most, -32768}, {least + one, most - one + 1, most - one + 1, -32767},
	} {
		if got := Neg(x.a); got != x.neg {
			t.Errorf("Neg(%d) = %d, want %d", x.a, got, x.neg)
		}
		if got := Abs(x.a); got != x.abs {
			t.Errorf("Abs(%d) = %d, want %d", x.a, got, x.abs)
		}
		if got := Floor(x.a); got != x.floor {
			t.Errorf("Floor(%d) = %d, want %d", x.a, got, x.floor)
		}
	}
}

// P1.1: Floor and what is left of it make the number.
func TestFloorLeavesLessThanOne(t *testing.T) {
	for _, a := range scatter() {
		left := int64(a) - int64(Floor(a))*int64(one)
		if left < 0 || left >= int64(one) {
			t.Errorf("Floor(%d) = %d leaves %d", a, Floor(a), left)
		}
	}
}

// P1.1: Clamp, with least above most too.
func TestClamp(t *testing.T) {
	for _, x := range []struct {
		a, from, to, want api.Fix
	}{
		{3, 1, 5, 3}, {1, 1, 5, 1}, {5, 1, 5, 5}, {0, 1, 5, 1}, {9, 1, 5, 5}, {-9, -5, -1, -5}, {0, -5, -1, -1},
		{7, 4, 4, 4}, {1, 4, 4, 4}, {4, 4, 4, 4},
		{0, 5, 1, 5}, {3, 5, 1, 5}, {9, 5, 1, 5}, {5, 5, 1, 5}, {1, 5, 1, 5}, {0, most, least, most},
		{most, least, most, most}, {least, least, most, least}, {most, least, 0, 0}, {least, 0, most, 0}, {least, most, most, most},
	} {
		if got := Clamp(x.a, x.from, x.to); got != x.want {
			t.Errorf("Clamp(%d, %d, %d) = %d, want %d", x.a, x.from, x.to, got, x.want)
		}
	}
}

// P1.2: Lerp at plain inputs and at the edges that it names.
func TestLerp(t *testing.T) {
	for _, x := range []struct {
		a, b  api.Fix
		n, of int
		want  api.Fix
	}{
		{0, 10, 0, 4, 0}, {0, 10, 1, 4, 2}, {0, 10, 2, 4, 5}, {0, 10, 3, 4, 7}, {0, 10, 4, 4, 10},
		{10, 0, 0, 4, 10}, {10, 0, 1, 4, 7}, {10, 0, 2, 4, 5}, {10, 0, 3, 4, 2}, {10, 0, 4, 4, 0},
		{-10, -3, 1, 2, -7}, {-3, -10, 1, 2, -7}, {-1, 1, 1, 3, -1}, {1, -1, 1, 3, 0},
		{5, 9, 0, 1, 5}, {5, 9, 1, 1, 9}, {7, 7, 3, 9, 7},
		{0, one, 1, 65536, 1}, {0, one, 65535, 65536, one - 1}, {0, 1, 65535, 65536, 0}, {1, 0, 1, 65536, 0},
		{least, most, 0, 65536, least}, {least, most, 65536, 65536, most}, {least, most, 1, 2, -1},
		{most, least, 0, 65536, most}, {most, least, 65536, 65536, least}, {most, least, 1, 2, -1},
		{least, most, 1, 1, most}, {most, least, 1, 1, least}, {least, most, 65535, 65536, most - one},
		{most, most, 1, 3, most}, {least, least, 1, 3, least},
	} {
		got, e := Lerp(x.a, x.b, x.n, x.of)
		if got != x.want || e != api.OK {
			t.Errorf("Lerp(%d, %d, %d, %d) = %d, %d, want %d", x.a, x.b, x.n, x.of, got, e, x.want)
		}
	}
}

// P1.2: what can't be is ErrArg, beside a zero.
func TestLerpWrong(t *testing.T) {
	for _, x := range [][2]int{
		{0, 0}, {1, 0}, {0, -1}, {-1, -1}, {-2, -1}, {0, 65537}, {1, 65537}, {65537, 65537},
		{-1, 1}, {-1, 4}, {2, 1}, {5, 4}, {65537, 65536}, {-1, 65536},
		{math.MinInt, 4}, {math.MaxInt, 4}, {0, math.MaxInt}, {0, math.MinInt}, {math.MaxInt, math.MaxInt}, {math.MinInt, math.MinInt},
	} {
		got, e := Lerp(5*one, 9*one, x[0], x[1])
		if got != 0 || e != api.ErrArg {
			t.Errorf("Lerp(.., %d, %d) = %d, %d, want 0, ErrArg", x[0], x[1], got, e)
		}
	}
}

// P1.2: Lerp is what numbers without ends say.
func TestLerpAgainstBig(t *testing.T) {
	for _, a := range scatter() {
		for _, b := range edges() {
			for _, s := range [][2]int{{0, 1}, {1, 1}, {1, 3}, {2, 3}, {1, 7}, {99, 100}, {1, 65536}, {32768, 65536}, {65535, 65536}, {65536, 65536}, {1, 65535}} {
				x, y := bigPair(a, b)
				way := new(big.Int).Sub(y, x)
				way = bigDown(way.Mul(way, bigOf(int64(s[0]))), bigOf(int64(s[1])))
				want := bigSat(way.Add(way, x))
				if got, e := Lerp(a, b, s[0], s[1]); got != want || e != api.OK {
					t.Errorf("Lerp(%d, %d, %d, %d) = %d, %d, want %d", a, b, s[0], s[1], got, e, want)
				}
			}
		}
	}
}

// P1.3: Scale at plain inputs, and at and past its ends.
func TestScale(t *testing.T) {
	const end = 1 << 31
	for _, x := range []struct{ n, gain, want int }{
		{1000, api.Unit, 1000}, {1000, api.Unit / 2, 500}, {1000, 0, 0}, {0, api.Unit, 0}, {-1000, api.Unit / 2, -500}, {1000, -api.Unit, -1000},
		{1, 1, 0}, {-1, 1, -1}, {1, -1, -1}, {-1, -1, 0}, {3, api.Unit / 2, 1}, {-3, api.Unit / 2, -2}, {32767, api.Unit - 1, 32766},
		{end, api.Unit, end}, {end - 1, api.Unit, end - 1}, {end + 1, api.Unit, end},
		{-end, api.Unit, -end}, {-end + 1, api.Unit, -end + 1}, {-end - 1, api.Unit, -end},
		{api.Unit, end, end}, {api.Unit, end - 1, end - 1}, {api.Unit, end + 1, end},
		{api.Unit, -end, -end}, {api.Unit, -end + 1, -end + 1}, {api.Unit, -end - 1, -end},
		{end, end, 1 << 47}, {-end, -end, 1 << 47}, {end, -end, -1 << 47}, {-end, end, -1 << 47},
		{end + 1, end + 1, 1 << 47}, {1, end + 1, 1 << 16}, {end + 1, 1, 1 << 16}, {end - 1, 1, 1<<16 - 1}, {-end - 1, 1, -1 << 16}, {-end + 1, 1, -1 << 16},
		{math.MaxInt, math.MaxInt, 1 << 47}, {math.MinInt, math.MinInt, 1 << 47}, {math.MinInt, math.MaxInt, -1 << 47}, {math.MaxInt, math.MinInt, -1 << 47},
		{math.MaxInt, 1, 1 << 16}, {1, math.MinInt, -1 << 16},
	} {
		if got := Scale(x.n, x.gain); got != x.want {
			t.Errorf("Scale(%d, %d) = %d, want %d", x.n, x.gain, got, x.want)
		}
	}
}

// P1.3: Scale is what numbers without ends say.
func TestScaleAgainstBig(t *testing.T) {
	for _, a := range scatter() {
		for _, b := range scatter() {
			x, y := bigPair(a, b)
			want := bigDown(new(big.Int).Mul(x, y), bigOf(api.Unit)).Int64()
			if got := Scale(int(a), int(b)); int64(got) != want {
				t.Errorf("Scale(%d, %d) = %d, want %d", a, b, got, want)
			}
		}
	}
}

// P1.3: Pcm.
func TestPcm(t *testing.T) {
	for _, x := range [][2]int{
		{0, 0}, {1, 1}, {-1, -1}, {32766, 32766}, {32767, 32767}, {32768, 32767}, {40000, 32767},
		{-32767, -32767}, {-32768, -32768}, {-32769, -32768}, {-40000, -32768},
		{1 << 32, 32767}, {-1 << 32, -32768}, {math.MaxInt, 32767}, {math.MinInt, -32768},
	} {
		if got := Pcm(x[0]); got != x[1] {
			t.Errorf("Pcm(%d) = %d, want %d", x[0], got, x[1])
		}
	}
}

// P1.4: Lerp begins at a, ends at b, and never turns back between.
func TestLerpNeverTurnsBack(t *testing.T) {
	for _, a := range edges() {
		for _, b := range edges() {
			for _, of := range []int{1, 2, 3, 7, 64, 255} {
				walk(t, a, b, of)
			}
		}
	}
	walk(t, least, most, 65536)
	walk(t, most, least, 65536)
	walk(t, -1, 1, 65536)
	walk(t, one, -one, 65536)
}

func walk(t *testing.T, a, b api.Fix, of int) {
	t.Helper()
	was := a
	for n := 0; n <= of; n++ {
		is, e := Lerp(a, b, n, of)
		if e != api.OK || n == 0 && is != a || n == of && is != b || a <= b && is < was || a >= b && is > was {
			t.Fatalf("Lerp(%d, %d, %d, %d) = %d, %d, behind %d", a, b, n, of, is, e, was)
		}
		was = is
	}
}

// P1.4: One times a number is it.
func TestOneTimes(t *testing.T) {
	for _, a := range scatter() {
		if Mul(one, a) != a || Mul(a, one) != a {
			t.Errorf("one times %d is %d, %d", a, Mul(one, a), Mul(a, one))
		}
	}
}

// P1.4: what is added and taken off comes back, unless an end was passed.
func TestAddComesBack(t *testing.T) {
	for _, a := range scatter() {
		for _, b := range scatter() {
			sum := int64(a) + int64(b)
			if sum <= int64(most) && sum >= int64(least) && Sub(Add(a, b), b) != a {
				t.Errorf("%d and %d less %d is %d", a, b, b, Sub(Add(a, b), b))
			}
			rest := int64(a) - int64(b)
			if rest <= int64(most) && rest >= int64(least) && Add(Sub(a, b), b) != a {
				t.Errorf("%d less %d and %d is %d", a, b, b, Add(Sub(a, b), b))
			}
		}
	}
}
