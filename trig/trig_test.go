package trig

import (
	"math"
	"math/big"
	"testing"

	"promptbook/api"
	"promptbook/fixed"
)

const (
	least = api.MinFix
	most  = api.MaxFix
	one   = api.One
)

// strewn is numbers of all sizes by a fixed rule, with the edges ahead of them.
func strewn() []api.Fix {
	l := []api.Fix{least, least + 1, -one * 300, -one - 1, -one, -one + 1, -3, -2, -1, 0, 1, 2, 3, one - 1, one, one + 1, one * 300, most - 1, most}
	x := uint32(2463534242)
	for i := range 40 {
		x = x*1664525 + 1013904223
		l = append(l, api.Fix(int32(x))>>(i%31))
	}
	return l
}

// bigSquares is reckoned without ends.
func bigSquares(l ...api.Fix) *big.Int {
	all := new(big.Int)
	for _, x := range l {
		n := big.NewInt(int64(x))
		all.Add(all, n.Mul(n, n))
	}
	return all
}

// waveByWords says the chapter's words once more, with numbers without ends and whole turns taken off by division.
func waveByWords(angle int, further int64) api.Fix {
	turn := big.NewInt(65536)
	a := new(big.Int).Add(big.NewInt(int64(angle)), big.NewInt(further))
	part := new(big.Int).Mod(a, turn).Int64()
	x := part % 32768
	p := big.NewInt(x * (32768 - x))
	over := new(big.Int).Mul(p, big.NewInt(16*65536))
	under := new(big.Int).Sub(big.NewInt(5<<30), new(big.Int).Mul(p, big.NewInt(4)))
	height := api.Fix(over.Div(over, under).Int64())
	if part >= 32768 {
		return -height
	}
	return height
}

// angles are those that break first: at, and one part beside, each quarter; below 0, beyond whole turns, and both ends of int.
func angles() []int {
	l := []int{math.MinInt, math.MinInt + 1, math.MinInt + 16384, math.MaxInt, math.MaxInt - 1, math.MaxInt - 16383, math.MaxInt - 16384, math.MaxInt - 16385}
	for _, turns := range []int{0, 1, -1, 2, -2, 1000, -1000, 1 << 40, -1 << 40} {
		for quarters := range 4 {
			at := turns*65536 + quarters*16384
			l = append(l, at-1, at, at+1, at+5461, at-5461)
		}
	}
	return l
}

// P2.1: Root of small numbers, of 0, of squares and of what stands beside them.
func TestRoot(t *testing.T) {
	for _, x := range []struct{ n, want uint64 }{
		{0, 0}, {1, 1}, {2, 1}, {3, 1}, {4, 2}, {8, 2}, {9, 3}, {10, 3}, {15, 3}, {16, 4}, {99, 9}, {100, 10}, {101, 10},
		{1<<32 - 1, 65535}, {1 << 32, 65536}, {1<<62 - 1, 1<<31 - 1}, {1 << 62, 1 << 31}, {1 << 63, 3037000499},
		{math.MaxUint64, math.MaxUint32}, {math.MaxUint64 - 1, math.MaxUint32},
	} {
		if got := Root(x.n); got != x.want {
			t.Errorf("Root(%d) = %d, want %d", x.n, got, x.want)
		}
	}
}

// P2.1: Root goes up just at each square, at the greatest ones too.
func TestRootAtSquares(t *testing.T) {
	roots := []uint64{1, 2, 3, 5, 255, 256, 257, 65535, 65536, 65537, 1<<31 - 1, 1 << 31, 1<<31 + 1, 3037000499, 3037000500, 1<<32 - 2, 1<<32 - 1}
	for r := uint64(1); r < 1<<32; r += r/7 + 1 {
		roots = append(roots, r)
	}
	for _, r := range roots {
		if got := Root(r * r); got != r {
			t.Errorf("Root(%d squared) = %d", r, got)
		}
		if got := Root(r*r - 1); got != r-1 {
			t.Errorf("Root(%d squared, less 1) = %d", r, got)
		}
		if got := Root(r*r + 1); got != r {
			t.Errorf("Root(%d squared, and 1) = %d", r, got)
		}
		// One less than the next square is two roots further on.
		if got := Root(r*r + 2*r); got != r {
			t.Errorf("Root(%d squared, and twice it) = %d", r, got)
		}
	}
}

// P2.1: Root of any number, against a root without ends.
func TestRootOfAny(t *testing.T) {
	x := uint64(88172645463325252)
	for i := range 3000 {
		x ^= x << 13
		x ^= x >> 7
		x ^= x << 17
		n := x >> (i % 64)
		want := new(big.Int).Sqrt(new(big.Int).SetUint64(n)).Uint64()
		if got := Root(n); got != want {
			t.Errorf("Root(%d) = %d, want %d", n, got, want)
		}
	}
}

// P2.1: Sin at the quarters, beside them, and elsewhere.
func TestSin(t *testing.T) {
	for _, x := range []struct {
		angle int
		want  api.Fix
	}{
		{0, 0}, {1, 6}, {-1, -6}, {2, 12}, {16383, 65535}, {16384, one}, {16385, 65535},
		{32767, 6}, {32768, 0}, {32769, -6}, {49151, -65535}, {49152, -one}, {49153, -65535}, {65535, -6}, {65536, 0}, {65537, 6},
		{65536 + 16384, one}, {-16384, -one}, {-49152, one}, {-65536, 0}, {-65537, -6}, {-32768, 0},
		{math.MinInt, 0}, {math.MaxInt, -6},
	} {
		if got := Sin(x.angle); got != x.want {
			t.Errorf("Sin(%d) = %d, want %d", x.angle, got, x.want)
		}
	}
	for _, a := range angles() {
		if got, want := Sin(a), waveByWords(a, 0); got != want {
			t.Errorf("Sin(%d) = %d, want %d", a, got, want)
		}
	}
}

// P2.1: Cos at the quarters, beside them, and where a quarter more than the angle has no room.
func TestCos(t *testing.T) {
	for _, x := range []struct {
		angle int
		want  api.Fix
	}{
		{0, one}, {1, 65535}, {-1, 65535}, {16383, 6}, {16384, 0}, {16385, -6}, {32767, -65535}, {32768, -one}, {32769, -65535},
		{49151, -6}, {49152, 0}, {49153, 6}, {65535, 65535}, {65536, one}, {-16384, 0}, {-32768, -one}, {-65536, one},
		{math.MinInt, one}, {math.MaxInt, 65535}, {math.MaxInt - 16383, 0},
	} {
		if got := Cos(x.angle); got != x.want {
			t.Errorf("Cos(%d) = %d, want %d", x.angle, got, x.want)
		}
	}
	for _, a := range angles() {
		if got, want := Cos(a), waveByWords(a, 16384); got != want {
			t.Errorf("Cos(%d) = %d, want %d", a, got, want)
		}
	}
}

// P2.1: the wave at every part of a turn, by the chapter's words.
func TestWholeTurn(t *testing.T) {
	for a := range 65536 {
		if got, want := Sin(a), waveByWords(a, 0); got != want {
			t.Fatalf("Sin(%d) = %d, want %d", a, got, want)
		}
		if got, want := Cos(a), waveByWords(a, 16384); got != want {
			t.Fatalf("Cos(%d) = %d, want %d", a, got, want)
		}
		if Sin(a) != Sin(a-65536) || Sin(a) != Sin(a+3*65536) {
			t.Fatalf("Sin(%d) isn't the same a whole turn off", a)
		}
	}
}

// P2.2: Length of ordinary ways, of none, and at both ends.
func TestLength(t *testing.T) {
	for _, x := range []struct{ x, y, want api.Fix }{
		{0, 0, 0}, {1, 0, 1}, {0, -1, 1}, {1, 1, 1}, {2, 2, 2}, {3, 4, 5}, {-3, 4, 5}, {3 * one, -4 * one, 5 * one},
		{most, 0, most}, {0, most, most}, {most - 1, 0, most - 1}, {least + 1, 0, most}, {least, 0, most}, {0, least, most},
		{most, 1, most}, {most, most, most}, {least, least, most}, {least, most, most}, {most - 1, 70000, most},
	} {
		if got := Length(x.x, x.y); got != x.want {
			t.Errorf("Length(%d, %d) = %d, want %d", x.x, x.y, got, x.want)
		}
	}
	for _, x := range strewn() {
		for _, y := range strewn() {
			root := new(big.Int).Sqrt(bigSquares(x, y))
			want := most
			if root.Cmp(big.NewInt(int64(most))) < 0 {
				want = api.Fix(root.Int64())
			}
			if got := Length(x, y); got != want {
				t.Errorf("Length(%d, %d) = %d, want %d", x, y, got, want)
			}
		}
	}
}

// P2.2: Toward goes by the speed that way, down on both sides of 0, and nowhere where there is no way.
func TestToward(t *testing.T) {
	for _, x := range []struct{ x, y, speed, wantX, wantY api.Fix }{
		{3 * one, -4 * one, 2 * one, 78643, -104858},
		{3 * one, 4 * one, 5 * one, 3 * one, 4 * one},
		{3 * one, -4 * one, -5 * one, -3 * one, 4 * one},
		{3 * one, -4 * one, -2 * one, -78644, 104857},
		{3 * one, -4 * one, 0, 0, 0},
		{0, 0, one, 0, 0}, {0, 0, -one, 0, 0}, {0, 0, most, 0, 0}, {0, 0, least, 0, 0}, {0, 0, 0, 0, 0},
		{one, 0, most, most, 0}, {0, -one, most, 0, least + 1}, {0, -one, least, 0, most},
		{one, 0, least, least, 0}, {one, -one, 1, 0, -1},
		// Each product is held at its end ahead of the division.
		{100 * one, 0, most, most / 100, 0},
		// Length holds at MaxFix, and what is divided by it stays a number.
		{least, least, one, -one - 1, -one - 1},
	} {
		gotX, gotY := Toward(x.x, x.y, x.speed)
		if gotX != x.wantX || gotY != x.wantY {
			t.Errorf("Toward(%d, %d, %d) = %d, %d, want %d, %d", x.x, x.y, x.speed, gotX, gotY, x.wantX, x.wantY)
		}
	}
}

// P2.2: Toward is Mul, then Div by Length, in that order.
func TestTowardByItsParts(t *testing.T) {
	for _, x := range strewn() {
		for _, y := range strewn() {
			for _, speed := range []api.Fix{least, -one, -7, -1, 0, 1, 7, one / 2, one, 3 * one, most} {
				var wantX, wantY api.Fix
				if length := Length(x, y); length != 0 {
					wantX = fixed.Div(fixed.Mul(x, speed), length)
					wantY = fixed.Div(fixed.Mul(y, speed), length)
				}
				if gotX, gotY := Toward(x, y, speed); gotX != wantX || gotY != wantY {
					t.Errorf("Toward(%d, %d, %d) = %d, %d, want %d, %d", x, y, speed, gotX, gotY, wantX, wantY)
				}
			}
		}
	}
}

// P2.2: Near, with r below 0, with r 0, just at r squared, and at the ends.
func TestNear(t *testing.T) {
	for _, x := range []struct {
		x, y, r api.Fix
		want    bool
	}{
		{0, 0, 0, true}, {1, 0, 0, false}, {0, -1, 0, false}, {0, 0, -1, false}, {0, 0, least, false}, {3, 4, -5, false}, {1, 1, least, false},
		{3, 4, 5, true}, {3, 4, 4, false}, {-3, -4, 5, true}, {3, 5, 5, false}, {4, 4, 5, false}, {5, 0, 5, true}, {0, -5, 5, true}, {5, 1, 5, false}, {1, 1, 1, false},
		{3 * one, -4 * one, 5 * one, true}, {3 * one, -4*one - 1, 5 * one, false}, {3 * one, -4 * one, 5*one - 1, false},
		// Their Length is just r, which isn't asked: their squares are more.
		{46340, 46341, 65535, false}, {one, 1, one, false}, {one, 300, one, false},
		{most, 0, most, true}, {most, 1, most, false}, {least, 0, most, false}, {least + 1, 0, most, true}, {least, least, most, false}, {most, most, most, false},
	} {
		if got := Near(x.x, x.y, x.r); got != x.want {
			t.Errorf("Near(%d, %d, %d) = %t", x.x, x.y, x.r, got)
		}
	}
	for _, x := range strewn() {
		for _, y := range strewn() {
			for _, r := range strewn() {
				want := r >= 0 && bigSquares(x, y).Cmp(bigSquares(r)) <= 0
				if got := Near(x, y, r); got != want {
					t.Errorf("Near(%d, %d, %d) = %t", x, y, r, got)
				}
			}
		}
	}
}

// P2.3: the wave stays within one, its other way is half a turn further on, and a quarter turn mirrors it.
func TestWaveHolds(t *testing.T) {
	for a := -65536; a <= 2*65536; a++ {
		for _, wave := range []func(int) api.Fix{Sin, Cos} {
			if h := wave(a); h > one || h < -one || h != -wave(a+32768) {
				t.Fatalf("the wave at %d is %d, half a turn further on %d", a, h, wave(a+32768))
			}
		}
		if Sin(16384+a) != Sin(16384-a) || Sin(49152+a) != Sin(49152-a) {
			t.Fatalf("the wave isn't mirrored %d beside a quarter turn", a)
		}
	}
	if Sin(16384) != one || Sin(-16384) != -one {
		t.Error("the wave never reaches one")
	}
}
