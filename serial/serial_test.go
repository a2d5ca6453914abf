package serial

import (
	"math"
	"math/big"
	"testing"

	"promptbook/api"
)

const (
	round = 65536
	half  = round / 2
)

// strewnSerials is serials by a fixed rule, with those ahead of them where an answer may break.
func strewnSerials() []uint16 {
	l := []uint16{0, 1, 2, 3, 255, 256, 257, half - 2, half - 1, half, half + 1, half + 2, round - 257, round - 256, round - 3, round - 2, round - 1}
	x := uint32(2463534242)
	for range 60 {
		x = x*1664525 + 1013904223
		l = append(l, uint16(x>>16))
	}
	return l
}

// strewnFrames is frames of all sizes by a fixed rule, with those ahead of them where an answer may break.
func strewnFrames() []int {
	l := []int{0, 1, 2, api.MaxFrame, api.MaxFrame - 1, api.MaxFrame - 2}
	for _, at := range []int{half, round, 3 * half, 2 * round, 1 << 29, api.MaxFrame - 2*round, api.MaxFrame - round, api.MaxFrame - half} {
		l = append(l, at-2, at-1, at, at+1, at+2)
	}
	x := uint32(88172645)
	for i := range 60 {
		x = x*1664525 + 1013904223
		l = append(l, int(x>>2)>>(i%30))
	}
	return l
}

// ofByWords is what division without ends leaves, which is never below 0.
func ofByWords(frame int) int {
	left := new(big.Int).Mod(big.NewInt(int64(frame)), big.NewInt(round))
	return int(left.Int64())
}

// stepsByWords is of all numbers of steps that lead there the one from -32768 to 32767.
func stepsByWords(from, to uint16) int {
	n := int(to) - int(from)
	for n > half-1 {
		n -= round
	}
	for n < -half {
		n += round
	}
	return n
}

// frameByWords goes through the numbers of a serial about near, from the least one up, so that the lesser of two as near stays.
func frameByWords(near int, s uint16) (int, api.Errno) {
	if near < 0 || near > api.MaxFrame {
		return 0, api.ErrArg
	}
	first := (near/round-2)*round + int(s)
	best := first
	for n := first; n <= near+2*round; n += round {
		if away(n, near) < away(best, near) {
			best = n
		}
	}
	if best < 0 || best > api.MaxFrame {
		return 0, api.ErrNone
	}
	return best, api.OK
}

func away(a, b int) int {
	return max(a-b, b-a)
}

// P3.1: Of frames, of whole rounds and what stands beside them, of numbers below 0, and at both ends of int.
func TestOf(t *testing.T) {
	for _, x := range []struct {
		frame int
		want  uint16
	}{
		{0, 0}, {1, 1}, {7, 7}, {32767, 32767}, {32768, 32768}, {65535, 65535}, {65536, 0}, {65537, 1}, {65543, 7},
		{131071, 65535}, {131072, 0}, {70000, 4464}, {api.MaxFrame, 0}, {api.MaxFrame - 1, 65535}, {api.MaxFrame + 1, 1},
		{-1, 65535}, {-2, 65534}, {-32768, 32768}, {-65535, 1}, {-65536, 0}, {-65537, 65535}, {-131072, 0}, {-131073, 65535},
		{math.MaxInt, 65535}, {math.MaxInt - 1, 65534}, {math.MinInt, 0}, {math.MinInt + 1, 1},
	} {
		if got := Of(x.frame); got != x.want {
			t.Errorf("Of(%d) = %d, want %d", x.frame, got, x.want)
		}
	}
}

// P3.1: Of every number of some rounds on both sides of 0, and of numbers far from it.
func TestOfByWords(t *testing.T) {
	for n := -2*round - 3; n <= 2*round+3; n++ {
		if got := Of(n); int(got) != ofByWords(n) {
			t.Fatalf("Of(%d) = %d, want %d", n, got, ofByWords(n))
		}
	}
	for shift := range 63 {
		for _, n := range []int{math.MaxInt >> shift, math.MinInt >> shift, 0x123456789abcdef >> shift, -0x123456789abcdef >> shift} {
			if got := Of(n); int(got) != ofByWords(n) {
				t.Errorf("Of(%d) = %d, want %d", n, got, ofByWords(n))
			}
		}
	}
}

// P3.1: Steps on and back, of like serials, across 65535, and half the way round.
func TestSteps(t *testing.T) {
	for _, x := range []struct {
		from, to uint16
		want     int
	}{
		{0, 0, 0}, {1, 1, 0}, {32768, 32768, 0}, {65535, 65535, 0},
		{4, 5, 1}, {5, 4, -1}, {10, 1000, 990}, {1000, 10, -990},
		{65535, 0, 1}, {0, 65535, -1}, {65535, 2, 3}, {2, 65535, -3}, {65000, 100, 636}, {100, 65000, -636},
		{0, 32767, 32767}, {0, 32768, -32768}, {0, 32769, -32767},
		{32767, 0, -32767}, {32768, 0, -32768}, {32769, 0, 32767},
		{65535, 32766, 32767}, {65535, 32767, -32768}, {65535, 32768, -32767}, {32767, 65535, -32768}, {32768, 65535, 32767},
		{1, 32769, -32768}, {32769, 1, -32768}, {40000, 7232, -32768}, {7232, 40000, -32768},
	} {
		if got := Steps(x.from, x.to); got != x.want {
			t.Errorf("Steps(%d, %d) = %d, want %d", x.from, x.to, got, x.want)
		}
	}
}

// P3.1: Steps and Newer from some serials to every one.
func TestStepsAndNewerByWords(t *testing.T) {
	for _, from := range strewnSerials() {
		for n := range round {
			to := uint16(n)
			want := stepsByWords(from, to)
			if got := Steps(from, to); got != want {
				t.Fatalf("Steps(%d, %d) = %d, want %d", from, to, got, want)
			}
			if got := Newer(to, from); got != (want >= 1 && want <= 32767) {
				t.Fatalf("Newer(%d, %d) = %t, with %d steps between", to, from, got, want)
			}
		}
	}
}

// P3.1: Newer of like serials, of neighbours, across 65535, and of those half the way round apart, where neither is.
func TestNewer(t *testing.T) {
	for _, x := range []struct {
		a, b uint16
		want bool
	}{
		{0, 0, false}, {7, 7, false}, {32768, 32768, false}, {65535, 65535, false},
		{1, 0, true}, {0, 1, false}, {9, 5, true}, {5, 9, false},
		{0, 65535, true}, {65535, 0, false}, {2, 65534, true}, {65534, 2, false},
		{32767, 0, true}, {0, 32767, false}, {32769, 0, false}, {0, 32769, true},
		{32768, 0, false}, {0, 32768, false}, {65535, 32767, false}, {32767, 65535, false}, {40000, 7232, false}, {7232, 40000, false},
	} {
		if got := Newer(x.a, x.b); got != x.want {
			t.Errorf("Newer(%d, %d) = %t", x.a, x.b, got)
		}
	}
}

// P3.1: Next of every serial is one step on; behind 65535 comes 0.
func TestNext(t *testing.T) {
	if got := Next(65535); got != 0 {
		t.Errorf("Next(65535) = %d", got)
	}
	for n := range round - 1 {
		if got := Next(uint16(n)); int(got) != n+1 {
			t.Fatalf("Next(%d) = %d", n, got)
		}
	}
}

// P3.2: Frame of ordinary serials, and across the end of a round.
func TestFrame(t *testing.T) {
	for _, x := range []struct {
		near int
		s    uint16
		want int
	}{
		{0, 0, 0}, {0, 1, 1}, {0, 32767, 32767}, {100, 90, 90}, {100, 110, 110}, {100, 100, 100},
		{70000, 5, 65541}, {70000, 65535, 65535}, {65530, 3, 65539}, {65539, 65530, 65530}, {65535, 0, 65536}, {65536, 65535, 65535},
		{1 << 29, 7, 1<<29 + 7}, {1 << 29, 65535, 1<<29 - 1},
	} {
		if got, e := Frame(x.near, x.s); got != x.want || e != api.OK {
			t.Errorf("Frame(%d, %d) = %d, %d, want %d", x.near, x.s, got, e, x.want)
		}
	}
}

// P3.2: of two frames as near the lesser one, and those beside them; not the greater one, if the lesser one would be below 0.
func TestFrameOfTwoAsNear(t *testing.T) {
	for _, x := range []struct {
		near int
		s    uint16
		want int
		e    api.Errno
	}{
		{40000, 7232, 7232, api.OK}, {40000, 7231, 72767, api.OK}, {40000, 7233, 7233, api.OK},
		{32768, 0, 0, api.OK}, {32769, 1, 1, api.OK}, {32769, 0, 65536, api.OK}, {65536, 32768, 32768, api.OK}, {98304, 0, 65536, api.OK},
		{32767, 65535, 0, api.ErrNone}, {0, 32768, 0, api.ErrNone}, {1, 32769, 0, api.ErrNone},
		{api.MaxFrame, 32768, api.MaxFrame - 32768, api.OK}, {api.MaxFrame - 32768, 0, api.MaxFrame - 65536, api.OK},
		{api.MaxFrame - 32767, 1, api.MaxFrame - 65535, api.OK},
	} {
		if got, e := Frame(x.near, x.s); got != x.want || e != x.e {
			t.Errorf("Frame(%d, %d) = %d, %d, want %d, %d", x.near, x.s, got, e, x.want, x.e)
		}
	}
}

// P3.2: ErrArg where near isn't a frame, whatever the serial; near at its ends is one.
func TestFrameNearIsNone(t *testing.T) {
	for _, near := range []int{-1, -2, -65536, math.MinInt, math.MinInt + 1, api.MaxFrame + 1, api.MaxFrame + 65536, math.MaxInt, math.MaxInt - 1} {
		for _, s := range strewnSerials() {
			if got, e := Frame(near, s); got != 0 || e != api.ErrArg {
				t.Errorf("Frame(%d, %d) = %d, %d, want ErrArg", near, s, got, e)
			}
		}
	}
	for _, near := range []int{0, api.MaxFrame} {
		if got, e := Frame(near, 0); got != near || e != api.OK {
			t.Errorf("Frame(%d, 0) = %d, %d", near, got, e)
		}
	}
}

// P3.2: ErrNone just where the nearest one would be below 0 or above MaxFrame, though another frame has that serial.
func TestFrameBeyondTheEnds(t *testing.T) {
	for _, x := range []struct {
		near int
		s    uint16
		want int
		e    api.Errno
	}{
		{0, 65535, 0, api.ErrNone}, {0, 32769, 0, api.ErrNone}, {100, 65535, 0, api.ErrNone}, {32766, 65535, 0, api.ErrNone},
		{32768, 65535, 65535, api.OK}, {5, 0, 0, api.OK}, {32767, 0, 0, api.OK},
		{api.MaxFrame, 0, api.MaxFrame, api.OK}, {api.MaxFrame, 65535, api.MaxFrame - 1, api.OK}, {api.MaxFrame, 32769, api.MaxFrame - 32767, api.OK},
		{api.MaxFrame, 1, 0, api.ErrNone}, {api.MaxFrame, 32767, 0, api.ErrNone},
		{api.MaxFrame - 1, 0, api.MaxFrame, api.OK}, {api.MaxFrame - 1, 1, 0, api.ErrNone},
		{api.MaxFrame - 32767, 0, api.MaxFrame, api.OK}, {api.MaxFrame - 32766, 1, 0, api.ErrNone},
	} {
		if got, e := Frame(x.near, x.s); got != x.want || e != x.e {
			t.Errorf("Frame(%d, %d) = %d, %d, want %d, %d", x.near, x.s, got, e, x.want, x.e)
		}
	}
}

// P3.2: Frame of every serial near some frames, by the chapter's words.
func TestFrameByWords(t *testing.T) {
	for _, near := range append(strewnFrames(), -1, api.MaxFrame+1) {
		for n := range round {
			s := uint16(n)
			want, wantE := frameByWords(near, s)
			if got, e := Frame(near, s); got != want || e != wantE {
				t.Fatalf("Frame(%d, %d) = %d, %d, want %d, %d", near, s, got, e, want, wantE)
			}
		}
	}
}

// P3.3: of any frame no more than 32767 from near its serial tells it.
func TestSerialTellsFrame(t *testing.T) {
	for _, near := range strewnFrames() {
		for frame := max(near-32767, 0); frame <= min(near+32767, api.MaxFrame); frame++ {
			if got, e := Frame(near, Of(frame)); got != frame || e != api.OK {
				t.Fatalf("Frame(%d, Of(%d)) = %d, %d", near, frame, got, e)
			}
		}
	}
}

// P3.3: of two unlike serials just one is newer; half the way round apart, and of like ones, neither.
func TestJustOneIsNewer(t *testing.T) {
	for _, a := range strewnSerials() {
		for n := range round {
			b := uint16(n)
			want := 1
			if apart := away(int(a), n); apart == 0 || apart == half {
				want = 0
			}
			newer := 0
			if Newer(a, b) {
				newer++
			}
			if Newer(b, a) {
				newer++
			}
			if newer != want {
				t.Fatalf("of %d and %d as many are newer: %d, want %d", a, b, newer, want)
			}
		}
	}
}
