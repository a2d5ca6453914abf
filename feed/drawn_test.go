package feed

import (
	"math"
	"testing"

	"promptbook/api"
)

// drawn does one drawn thing; most are such as a game does, near both ends of what is kept. Where it fills, few go.
func drawn(s *strewn, b both, fills bool) {
	b.t.Helper()
	first, next := b.f.First(), b.f.Next()
	switch n := s.below(20); {
	case n < 4 || fills && n < 8:
		b.put(next, uint8(s.below(3)))
	case n < 8:
		b.trim(first - 1 + s.below(5))
	case n < 14:
		b.take(next - 2 + s.below(8))
	case n == 14:
		b.take(first - 3 + s.below(140))
	case n < 17:
		b.put(first-3+s.below(next-first+7), uint8(s.below(70)))
	case n == 17:
		// As what is played again: from the wrong one on all of them.
		if from, ok := b.f.Wrong(); ok {
			for frame := from; frame < next+3; frame++ {
				b.take(frame)
			}
		}
	case n == 18 && !fills:
		b.trim(next - s.below(64))
	default:
		b.trim(first - 3 + s.below(5))
	}
}

// P14.1 to P14.3: drawn calls of all kinds by turns, held against the chapter's words said once more.
func TestByTurns(t *testing.T) {
	for seed := range 30 {
		s := strewn(seed)
		b := newBoth(t)
		for turn := range 1500 {
			drawn(&s, b, turn/250%2 == 0)
			b.check()
		}
	}
}

// P14.1 to P14.3: the drawn calls come by all that the promises tell apart.
func TestByTurnsHasAll(t *testing.T) {
	full, empty, wrong, right := 0, 0, 0, 0
	for seed := range 30 {
		s := strewn(seed)
		b := newBoth(t)
		for turn := range 1500 {
			drawn(&s, b, turn/250%2 == 0)
			switch b.f.Next() - b.f.First() {
			case 0:
				empty++
			case api.MaxFeed:
				full++
			}
			if _, ok := b.f.Wrong(); ok {
				wrong++
			} else {
				right++
			}
		}
	}
	if min(full, empty, wrong, right) < 100 {
		t.Errorf("full %d times, empty %d, wrong %d, right %d", full, empty, wrong, right)
	}
}

// P14.4: what is known stays as it is, till it is trimmed, whatever is put, taken and trimmed.
func TestKnownStays(t *testing.T) {
	for seed := range 20 {
		s := strewn(1000 + seed)
		b := newBoth(t)
		was := map[int]uint8{}
		for turn := range 1500 {
			first := b.f.First()
			drawn(&s, b, turn/250%2 == 0)
			if b.f.First() < first {
				t.Fatalf("First was %d, is %d", first, b.f.First())
			}
			for frame := max(first-70, 0); frame < b.f.Next()+3; frame++ {
				in, ok := b.f.Known(frame)
				before, knew := was[frame]
				switch {
				case ok != (frame >= b.f.First() && frame < b.f.Next()):
					t.Fatalf("Known(%d) = %t of %d to %d", frame, ok, b.f.First(), b.f.Next())
				case ok && knew && in != before:
					t.Fatalf("frame %d was known to be %d, is %d", frame, before, in)
				case ok:
					was[frame] = in
				}
			}
		}
	}
}

// P14.4: what was used of all that is known and kept is what is known just where nothing is wrong; what was used is what Take answered last.
func TestUsedIsKnown(t *testing.T) {
	times := 0
	for seed := range 30 {
		s := strewn(2000 + seed)
		f := New()
		used, in := map[int]uint8{}, uint8(0)
		for turn := range 2000 {
			switch n := s.below(8); {
			case n < 3:
				if s.below(3) == 0 {
					in = uint8(s.below(64))
				}
				f.Put(f.Next(), in)
			case n < 6:
				// Never MaxFeed frames behind First: what is used there isn't kept.
				frame := f.First() + s.below(api.MaxFeed)
				if n == 3 {
					frame = min(f.Next()+s.below(4), f.First()+api.MaxFeed-1)
				}
				used[frame], _ = f.Take(frame)
			case n == 6:
				if from, ok := f.Wrong(); ok {
					for frame := from; frame < f.Next(); frame++ {
						used[frame], _ = f.Take(frame)
					}
				}
			default:
				f.Trim(f.First() + s.below(4)*s.below(20)*(turn/300%2))
			}
			wrong, is := f.Wrong()
			for frame := f.First(); frame < f.Next(); frame++ {
				known, _ := f.Known(frame)
				if was, ok := used[frame]; ok && was != known && (!is || frame < wrong) {
					t.Fatalf("frame %d is known to be %d, %d was used, Wrong = %d, %t", frame, known, was, wrong, is)
				}
			}
			if is {
				known, ok := f.Known(wrong)
				if was, taken := used[wrong]; !ok || !taken || was == known {
					t.Fatalf("Wrong = %d, which is known to be %d, %t, and %d, %t was used", wrong, known, ok, was, taken)
				}
				times++
			}
		}
	}
	if times < 1000 {
		t.Errorf("something was wrong %d times", times)
	}
}

// P14.4: two feeds have nothing in common.
func TestFeedsApart(t *testing.T) {
	s := strewn(7)
	one, other := newBoth(t), newBoth(t)
	for turn := range 3000 {
		if s.below(2) == 0 {
			drawn(&s, one, turn/250%2 == 0)
		} else {
			drawn(&s, other, turn/300%2 == 0)
		}
		one.check()
		other.check()
	}
}

// P14.1 to P14.3: all calls of a nil feed, whatever they are handed.
func TestNil(t *testing.T) {
	var f *Feed
	for _, frame := range append(noFrames(), 0, 1, 63, 64, api.MaxFrame) {
		for _, in := range []uint8{0, 1, api.MaxInput, api.MaxInput + 1, math.MaxUint8} {
			if e := f.Put(frame, in); e != api.ErrNil {
				t.Errorf("Put(%d, %d) = %d", frame, in, e)
			}
		}
		if in, ok := f.Known(frame); in != 0 || ok {
			t.Errorf("Known(%d) = %d, %t", frame, in, ok)
		}
		if in, ok := f.Take(frame); in != 0 || ok {
			t.Errorf("Take(%d) = %d, %t", frame, in, ok)
		}
		if l := f.From(frame); len(l) != 0 {
			t.Errorf("From(%d) = %v", frame, l)
		}
		if got := f.Trim(frame); got != 0 {
			t.Errorf("Trim(%d) = %d", frame, got)
		}
	}
	if frame, ok := f.Wrong(); frame != 0 || ok {
		t.Errorf("Wrong = %d, %t", frame, ok)
	}
	if f.Next() != 0 || f.First() != 0 {
		t.Errorf("Next = %d, First = %d", f.Next(), f.First())
	}
}
