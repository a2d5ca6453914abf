package feed

import (
	"bytes"
	"math"
	"slices"
	"testing"

	"promptbook/api"
)

// P14.3: From ahead of First is all that is kept, within it the rest, at Next and behind it nothing.
func TestFrom(t *testing.T) {
	b := filled(t, 3, 7, 8, 9)
	for _, x := range []struct {
		frame int
		want  []uint8
	}{
		{math.MinInt, []uint8{7, 8, 9}}, {-1, []uint8{7, 8, 9}}, {0, []uint8{7, 8, 9}}, {2, []uint8{7, 8, 9}}, {3, []uint8{7, 8, 9}},
		{4, []uint8{8, 9}}, {5, []uint8{9}}, {6, nil}, {7, nil}, {67, nil}, {api.MaxFrame, nil}, {api.MaxFrame + 1, nil}, {math.MaxInt, nil},
	} {
		if l := b.f.From(x.frame); !bytes.Equal(l, x.want) {
			t.Errorf("From(%d) = %v, want %v", x.frame, l, x.want)
		}
	}
	full := filled(t, 100, row(64)...)
	for i := range 65 {
		if l := full.f.From(100 + i); !bytes.Equal(l, row(64)[i:]) {
			t.Errorf("From(%d) = %v", 100+i, l)
		}
	}
}

// P14.3: From tells what is known, not what was used.
func TestFromIsKnown(t *testing.T) {
	b := filled(t, 0, 5)
	b.take(1)
	b.take(2)
	b.put(1, 6)
	if l := b.f.From(0); !bytes.Equal(l, []uint8{5, 6}) {
		t.Errorf("From(0) = %v", l)
	}
	b.wrong(1)
}

// P14.3: what From answers is new memory: to write into it, or behind its end, changes neither the feed nor another answer.
func TestFromIsNewMemory(t *testing.T) {
	for _, from := range []int{0, 2, 3, 5, 6} {
		b := filled(t, 2, 7, 8, 9, 10)
		one, other := b.f.From(from), b.f.From(from)
		was := slices.Clone(other)
		long := append(one, 60, 61, 62)
		for i := range long {
			long[i] = 63
		}
		for i := range one[:cap(one)] {
			one[:cap(one)][i] = 63
		}
		b.check()
		if !bytes.Equal(other, was) {
			t.Errorf("another From(%d) = %v, was %v", from, other, was)
		}
		b.put(6, 11)
		b.trim(4)
		b.put(7, 12)
		b.check()
		if !bytes.Equal(other, was) {
			t.Errorf("From(%d) of before = %v, was %v", from, other, was)
		}
		for i, in := range one {
			if in != 63 {
				t.Errorf("From(%d) of before has %d at %d", from, in, i)
			}
		}
	}
}

// P14.3: Trim to frames ahead of First, within, at Next and behind it: how many go, and where it begins then.
func TestTrim(t *testing.T) {
	for _, x := range []struct{ frame, gone int }{
		{math.MinInt, 0}, {-1, 0}, {0, 0}, {2, 0}, {3, 0}, {4, 1}, {5, 2}, {6, 3}, {7, 3}, {67, 3}, {api.MaxFrame, 3}, {api.MaxFrame + 1, 3}, {math.MaxInt, 3},
	} {
		b := filled(t, 3, 7, 8, 9)
		if got := b.f.Trim(x.frame); got != x.gone || b.f.First() != 3+x.gone || b.f.Next() != 6 {
			t.Errorf("Trim(%d) = %d, First = %d, Next = %d", x.frame, got, b.f.First(), b.f.Next())
		}
		b.w.trim(x.frame)
		b.check()
		// Once more nothing goes.
		if got := b.f.Trim(x.frame); got != 0 || b.f.First() != 3+x.gone {
			t.Errorf("Trim(%d) again = %d, First = %d", x.frame, got, b.f.First())
		}
		b.check()
	}
}

// P14.3: of an empty feed nothing goes, and it begins where it began, whatever was taken of it.
func TestTrimEmpty(t *testing.T) {
	for _, b := range []both{newBoth(t), filled(t, 70)} {
		first := b.f.First()
		b.take(first)
		b.take(first + 3)
		for _, frame := range append(noFrames(), b.frames()...) {
			if got := b.f.Trim(frame); got != 0 || b.f.First() != first {
				t.Fatalf("Trim(%d) = %d, First = %d", frame, got, b.f.First())
			}
		}
		b.check()
		// What was used is kept: it wasn't ahead of any frame that is known.
		b.put(first, 9)
		b.wrong(first)
	}
}

// P14.3: again and again till it is full and empty.
func TestTrimAgain(t *testing.T) {
	for step := 1; step <= 64; step++ {
		b := newBoth(t)
		for range 4 {
			for b.put(b.f.Next(), uint8(b.f.Next()*step%64)) == api.OK {
			}
			if b.f.Next()-b.f.First() != 64 {
				t.Fatalf("full from %d to %d", b.f.First(), b.f.Next())
			}
			b.check()
			for left := 64; left > 0; left -= step {
				first, want := b.f.First(), min(step, left)
				if got := b.f.Trim(first + step); got != want || b.f.First() != first+want {
					t.Fatalf("Trim(%d) with %d left = %d, First = %d", first+step, left, got, b.f.First())
				}
				b.w.trim(first + step)
			}
			b.check()
		}
	}
}
