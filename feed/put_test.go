package feed

import (
	"testing"

	"promptbook/api"
)

// P14.1: a new feed begins with frame 0, and nothing is known.
func TestNew(t *testing.T) {
	b := newBoth(t)
	b.check()
	if b.f.First() != 0 || b.f.Next() != 0 || len(b.f.From(0)) != 0 {
		t.Errorf("First = %d, Next = %d, From = %v", b.f.First(), b.f.Next(), b.f.From(0))
	}
	if in, ok := b.f.Known(0); in != 0 || ok {
		t.Errorf("Known = %d, %t", in, ok)
	}
}

// P14.1: each input that may be is known for just its frame, and is the guess behind it.
func TestPutInputs(t *testing.T) {
	b := newBoth(t)
	for in := range uint8(api.MaxInput + 1) {
		if e := b.f.Put(int(in), in); e != api.OK {
			t.Fatalf("Put(%d, %d) = %d", in, in, e)
		}
		b.w.put(int(in), in)
		b.check()
	}
	for in := range uint8(api.MaxInput + 1) {
		if got, ok := b.f.Known(int(in)); got != in || !ok {
			t.Errorf("Known(%d) = %d, %t", in, got, ok)
		}
	}
}

// P14.1: ErrArg of all that is no input, and of all that is no frame, and nothing is turned by it.
func TestPutArg(t *testing.T) {
	for _, b := range []both{newBoth(t), filled(t, 0, 5), filled(t, 0, row(64)...), filled(t, 9), filled(t, 9, 5, 6), filled(t, 9, row(64)...)} {
		for in := range 256 {
			for _, frame := range b.frames() {
				isFrame := frame >= 0 && frame <= api.MaxFrame
				if isFrame && in <= api.MaxInput {
					continue
				}
				if e := b.f.Put(frame, uint8(in)); e != api.ErrArg {
					t.Fatalf("Put(%d, %d) = %d, want ErrArg", frame, in, e)
				}
			}
		}
		b.check()
	}
}

// P14.1: of the frames ahead of Next it is ErrOld, of those behind it ErrOrder, to the last frame there is.
func TestPutOldAndOrder(t *testing.T) {
	for _, b := range []both{newBoth(t), filled(t, 0, 5), filled(t, 0, 5, 6, 7), filled(t, 9), filled(t, 9, 5, 6), filled(t, 100, row(63)...)} {
		next := b.f.Next()
		for frame := range next {
			if e := b.f.Put(frame, 3); e != api.ErrOld {
				t.Fatalf("Put(%d) ahead of %d = %d, want ErrOld", frame, next, e)
			}
		}
		for _, frame := range []int{next + 1, next + 2, next + 63, next + 64, next + 65, 1 << 16, 1<<16 + next, api.MaxFrame - 1, api.MaxFrame} {
			if e := b.f.Put(frame, 3); e != api.ErrOrder {
				t.Fatalf("Put(%d) behind %d = %d, want ErrOrder", frame, next, e)
			}
		}
		b.check()
		if e := b.f.Put(next, 3); e != api.OK {
			t.Fatalf("Put(%d) = %d", next, e)
		}
	}
}

// P14.1: one that was known may be put again neither as it is nor otherwise, whether it is kept or was trimmed, and stays.
func TestPutAgain(t *testing.T) {
	b := filled(t, 0, 5, 6, 7)
	b.trim(1)
	for frame, in := range []uint8{5, 6, 7} {
		for _, again := range []uint8{in, in + 1, 0, 63} {
			if e := b.f.Put(frame, again); e != api.ErrOld {
				t.Errorf("Put(%d, %d) again = %d", frame, again, e)
			}
			b.check()
		}
	}
}

// P14.1: just MaxFeed have room; there is room for just so many more as go.
func TestPutFull(t *testing.T) {
	for _, first := range []int{0, 1, 63, 64, 1000} {
		b := filled(t, first, row(63)...)
		b.fill(1)
		for gone := range 65 {
			b.trim(b.f.First() + gone)
			b.fill(gone)
		}
	}
}

// fill puts till there is no room, which is to be for just so many.
func (b both) fill(room int) {
	b.t.Helper()
	for range room {
		if e := b.put(b.f.Next(), 9); e != api.OK {
			b.t.Fatalf("Put where there is room = %d", e)
		}
	}
	b.check()
	for range 3 {
		if e := b.f.Put(b.f.Next(), 8); e != api.ErrFull {
			b.t.Fatalf("Put without room = %d", e)
		}
		b.check()
	}
}

// P14.1: where several hold it is the first that the chapter names.
func TestPutFirstError(t *testing.T) {
	full := filled(t, 2, row(64)...)
	for _, x := range []struct {
		why   string
		frame int
		in    uint8
		want  api.Errno
	}{
		{"no input, known", 1, 64, api.ErrArg}, {"no input, behind Next", 67, 64, api.ErrArg}, {"no input, full", 66, 255, api.ErrArg},
		{"no frame, which is ahead of Next, too", -1, 0, api.ErrArg}, {"no frame, which is behind Next, too", api.MaxFrame + 1, 0, api.ErrArg},
		{"no input and no frame", -1, 64, api.ErrArg},
		{"known and gone, full", 0, 1, api.ErrOld}, {"known and kept, full", 65, 1, api.ErrOld},
		{"behind Next, full", 67, 1, api.ErrOrder}, {"the last frame, full", api.MaxFrame, 1, api.ErrOrder},
		{"full", 66, 1, api.ErrFull},
	} {
		if e := full.f.Put(x.frame, x.in); e != x.want {
			t.Errorf("%s: Put(%d, %d) = %d, want %d", x.why, x.frame, x.in, e, x.want)
		}
		full.check()
	}
}

// P14.1: Known at both ends of what is kept, and 0 and false ahead of it and behind it.
func TestKnown(t *testing.T) {
	b := filled(t, 3, 7, 8, 9)
	for _, x := range []struct {
		frame int
		want  uint8
		ok    bool
	}{{-1, 0, false}, {0, 0, false}, {2, 0, false}, {3, 7, true}, {4, 8, true}, {5, 9, true}, {6, 0, false}, {7, 0, false}, {api.MaxFrame, 0, false}} {
		if in, ok := b.f.Known(x.frame); in != x.want || ok != x.ok {
			t.Errorf("Known(%d) = %d, %t, want %d, %t", x.frame, in, ok, x.want, x.ok)
		}
	}
	for _, frame := range noFrames() {
		if in, ok := b.f.Known(frame); in != 0 || ok {
			t.Errorf("Known(%d) = %d, %t", frame, in, ok)
		}
	}
	// What was taken is not known by that.
	b.take(6)
	if in, ok := b.f.Known(6); in != 0 || ok || b.f.Next() != 6 {
		t.Errorf("Known of what was guessed = %d, %t, Next = %d", in, ok, b.f.Next())
	}
}

// P14.1: far from frame 0 it is as near it: no frame is another one because some bits of both are alike.
func TestFarFrames(t *testing.T) {
	b := newBoth(t)
	for frame := range 1<<16 + 300 {
		if e := b.put(frame, uint8(frame%61)); e != api.OK {
			t.Fatalf("Put(%d) = %d", frame, e)
		}
		b.trim(frame - 40)
		near := frame&(frame-1) == 0 || frame&(frame+1) == 0 || frame > 1<<16 && frame%10 == 0
		if near {
			b.take(frame + 1)
			b.check()
		}
	}
}

// row are n inputs of which no two beside one another are alike.
func row(n int) []uint8 {
	l := make([]uint8, n)
	for i := range l {
		l[i] = uint8((7*i + 3) % 64)
	}
	return l
}
