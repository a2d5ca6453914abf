package feed

import (
	"slices"
	"testing"

	"promptbook/api"
)

// P14.2: the chapter's example.
func TestExample(t *testing.T) {
	f := New()
	if e := f.Put(0, 5); e != api.OK {
		t.Fatalf("Put = %d", e)
	}
	if in, ok := f.Take(1); in != 5 || ok {
		t.Fatalf("Take(1) = %d, %t", in, ok)
	}
	if frame, ok := f.Wrong(); frame != 0 || ok {
		t.Fatalf("Wrong of what isn't known = %d, %t", frame, ok)
	}
	if e := f.Put(1, 6); e != api.OK {
		t.Fatalf("Put = %d", e)
	}
	if frame, ok := f.Wrong(); frame != 1 || !ok {
		t.Fatalf("Wrong = %d, %t", frame, ok)
	}
}

// P14.2: with nothing known ever the guess is 0, for each frame there is.
func TestTakeNothingKnown(t *testing.T) {
	b := newBoth(t)
	for _, frame := range []int{0, 1, 63, 64, 65, 1 << 16, api.MaxFrame} {
		if in, ok := b.f.Take(frame); in != 0 || ok {
			t.Errorf("Take(%d) = %d, %t", frame, in, ok)
		}
		b.w.take(frame)
	}
	b.put(0, 0)
	b.wrong(-1)
	b.put(1, 4)
	b.wrong(1)
}

// P14.2: what is known, and true, at both ends of what is kept; from Next on, far behind it too, the last that is known, and false.
func TestTake(t *testing.T) {
	b := filled(t, 3, 7, 8, 9)
	for _, x := range []struct {
		frame int
		want  uint8
		ok    bool
	}{{3, 7, true}, {4, 8, true}, {5, 9, true}, {6, 9, false}, {7, 9, false}, {66, 9, false}, {67, 9, false}, {1 << 20, 9, false}, {api.MaxFrame - 1, 9, false}, {api.MaxFrame, 9, false}} {
		if in, ok := b.f.Take(x.frame); in != x.want || ok != x.ok {
			t.Errorf("Take(%d) = %d, %t, want %d, %t", x.frame, in, ok, x.want, x.ok)
		}
		b.w.take(x.frame)
		b.wrong(-1)
	}
}

// P14.2: ahead of First, and of no frame, 0 and false whatever the guess is, and nothing is used.
func TestTakeNothing(t *testing.T) {
	for _, b := range []both{filled(t, 70), filled(t, 70, 5), filled(t, 70, row(64)...)} {
		for _, frame := range append(noFrames(), 0, 1, 6, 68, 69) {
			if in, ok := b.f.Take(frame); in != 0 || ok {
				t.Errorf("Take(%d) = %d, %t", frame, in, ok)
			}
			b.check()
		}
	}
	// Nothing was used for the first frame either, which none of those is.
	b := newBoth(t)
	for _, frame := range noFrames() {
		b.take(frame)
	}
	b.put(0, 9)
	b.wrong(-1)
}

// P14.2: the guess is the last input that is known, not the last that was taken, and stays when all of them are trimmed.
func TestGuess(t *testing.T) {
	b := filled(t, 0, 5, 6, 7)
	for _, frame := range []int{0, 3, 1} {
		b.take(frame)
	}
	for first := range 5 {
		b.trim(first)
		if in, ok := b.f.Take(9); in != 7 || ok {
			t.Fatalf("Take(9) trimmed to %d = %d, %t", first, in, ok)
		}
		b.w.take(9)
	}
	if in, ok := b.f.Take(3); in != 7 || ok {
		t.Errorf("Take of First in an empty feed = %d, %t", in, ok)
	}
	// What was refused is no guess.
	for _, x := range []struct {
		frame int
		in    uint8
	}{{3, 64}, {4, 1}, {2, 1}, {-1, 1}, {api.MaxFrame, 1}} {
		if b.put(x.frame, x.in) == api.OK {
			t.Errorf("Put(%d, %d) is taken", x.frame, x.in)
		}
		if in := b.take(5); in != 7 {
			t.Errorf("guess %d", in)
		}
	}
	b.put(3, 0)
	if in := b.take(5); in != 0 {
		t.Errorf("guess %d", in)
	}
}

// P14.2: known as it was guessed isn't wrong, known otherwise is; what was never taken never is.
func TestWrong(t *testing.T) {
	b := filled(t, 0, 5)
	for frame := 1; frame < 5; frame++ {
		b.take(frame)
	}
	b.put(1, 5)
	b.wrong(-1)
	b.put(2, 5)
	b.wrong(-1)
	b.put(3, 6)
	b.wrong(3)
	// The guess for 4 was 5, though it would be 6 now.
	b.put(4, 6)
	b.wrong(3)
	b.put(5, 7)
	b.put(6, 8)
	b.take(3)
	b.wrong(4)
	b.take(4)
	b.wrong(-1)
}

// P14.2: taken again it is the last taking that counts, of a guess behind a guess and of what is known behind a guess.
func TestTakenAgain(t *testing.T) {
	for _, x := range []struct {
		known uint8
		wrong int
	}{{5, 3}, {6, 3}, {7, -1}} {
		b := filled(t, 0, 5)
		b.take(3)
		b.put(1, 6)
		b.take(3)
		b.put(2, 7)
		b.take(3)
		b.put(3, x.known)
		b.wrong(x.wrong)
		b.take(3)
		b.wrong(-1)
		b.take(3)
		b.wrong(-1)
	}
	// A guess isn't made anew by itself.
	b := filled(t, 0, 5)
	b.take(3)
	for frame := 1; frame < 4; frame++ {
		b.put(frame, 6)
	}
	b.wrong(3)
}

// P14.2: of several wrong ones the first, whatever the order in which they were taken, first and again.
func TestSeveralWrong(t *testing.T) {
	frames := []int{2, 5, 6, 20, 63}
	for turn := range 40 {
		s := strewn(turn)
		b := filled(t, 0, 9)
		for _, frame := range mixed(&s, frames) {
			b.take(frame)
		}
		for frame := 1; frame < 64; frame++ {
			b.put(frame, uint8(10+frame%7))
		}
		b.wrong(2)
		left := slices.Clone(frames)
		for _, frame := range mixed(&s, frames) {
			b.take(frame)
			left = slices.DeleteFunc(left, func(x int) bool { return x == frame })
			want := -1
			if len(left) > 0 {
				want = left[0]
			}
			b.wrong(want)
		}
	}
}

// P14.2: what is known is wrong as soon as it is known, and stays so while others are known and taken.
func TestWrongStays(t *testing.T) {
	b := filled(t, 0, 1)
	b.take(1)
	b.put(1, 2)
	for frame := 2; frame < 64; frame++ {
		b.wrong(1)
		b.take(frame)
		b.put(frame, 2)
	}
	b.put(64, 2)
	b.wrong(1)
}

// P14.2: wrong ones that are trimmed are over; the next one that is kept is told.
func TestWrongTrimmed(t *testing.T) {
	b := filled(t, 0, 9)
	for _, frame := range []int{7, 3, 4} {
		b.take(frame)
	}
	for frame := 1; frame < 10; frame++ {
		b.put(frame, 1)
	}
	for _, x := range []struct{ first, wrong int }{{0, 3}, {2, 3}, {3, 3}, {4, 4}, {5, 7}, {6, 7}, {7, 7}, {8, -1}, {10, -1}} {
		b.trim(x.first)
		b.wrong(x.wrong)
	}
}

// P14.2: what is used is kept for MaxFeed frames from First on; behind them the guess is answered all the same, and never is wrong.
func TestWrongFarBehind(t *testing.T) {
	for _, first := range []int{0, 1, 64, 130} {
		b := filled(t, first, 5)
		for _, i := range []int{62, 63, 64, 65, 127, 128} {
			if in, ok := b.f.Take(first + i); in != 5 || ok {
				t.Fatalf("Take(%d) = %d, %t", first+i, in, ok)
			}
			b.w.take(first + i)
		}
		for i := 1; i < 64; i++ {
			b.put(first+i, 6)
		}
		b.wrong(first + 62)
		b.trim(first + 63)
		b.wrong(first + 63)
		b.trim(first + 64)
		b.wrong(-1)
		for i := 64; i < 128; i++ {
			b.put(first+i, 7)
		}
		b.wrong(-1)
		b.trim(first + 65)
		b.put(first+128, 8)
		b.wrong(-1)
	}
}

// P14.2: by each frame that goes, what is used is kept for one frame more.
func TestKeptWithFirst(t *testing.T) {
	for gone := range 65 {
		b := filled(t, 0, row(64)...)
		b.trim(gone)
		b.take(63 + gone)
		b.take(64 + gone)
		// What is ahead of them goes, so that there is room for both to be known.
		for frame := 64; frame <= 64+gone; frame++ {
			b.trim(63 + gone)
			b.put(frame, 63)
		}
		if gone == 0 {
			b.wrong(-1)
		} else {
			b.wrong(63 + gone)
		}
	}
}

// mixed are all of l in an order that s tells.
func mixed(s *strewn, l []int) []int {
	l = slices.Clone(l)
	for i := range l {
		j := i + s.below(len(l)-i)
		l[i], l[j] = l[j], l[i]
	}
	return l
}
