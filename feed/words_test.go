package feed

import (
	"bytes"
	"math"
	"testing"

	"promptbook/api"
)

// strewn tells numbers from 0 up to below n, by a fixed rule.
type strewn uint32

func (s *strewn) below(n int) int {
	*s = *s*1664525 + 1013904223
	return int(uint64(*s) * uint64(n) >> 32)
}

// words is a feed by the chapter's words said once more: all that was ever known, and all that was used where it was to be kept.
type words struct {
	all   []uint8 // of the frames from 0 on
	first int
	used  map[int]uint8
}

func newWords() *words {
	return &words{used: map[int]uint8{}}
}

func (w *words) put(frame int, in uint8) api.Errno {
	switch next := len(w.all); {
	case in > 63 || frame < 0 || frame > 1<<30:
		return api.ErrArg
	case frame < next:
		return api.ErrOld
	case frame > next:
		return api.ErrOrder
	case next-w.first == 64:
		return api.ErrFull
	}
	w.all = append(w.all, in)
	return api.OK
}

func (w *words) known(frame int) (uint8, bool) {
	if frame < w.first || frame >= len(w.all) {
		return 0, false
	}
	return w.all[frame], true
}

func (w *words) guess() uint8 {
	if len(w.all) == 0 {
		return 0
	}
	return w.all[len(w.all)-1]
}

func (w *words) take(frame int) (uint8, bool) {
	if frame < w.first || frame > 1<<30 {
		return 0, false
	}
	in, ok := w.known(frame)
	if !ok {
		in = w.guess()
	}
	if frame < w.first+64 {
		w.used[frame] = in
	}
	return in, ok
}

func (w *words) wrong() (int, bool) {
	for frame := w.first; frame < len(w.all); frame++ {
		if in, ok := w.used[frame]; ok && in != w.all[frame] {
			return frame, true
		}
	}
	return 0, false
}

func (w *words) from(frame int) []uint8 {
	var l []uint8
	for i, in := range w.all {
		if i >= w.first && i >= frame {
			l = append(l, in)
		}
	}
	return l
}

func (w *words) trim(frame int) int {
	gone := 0
	for w.first < len(w.all) && w.first < frame {
		w.first++
		gone++
	}
	return gone
}

// both is a feed, and its words: what is done to the one is done to the other, and what they answer is held against one another.
type both struct {
	t *testing.T
	f *Feed
	w *words
}

func newBoth(t *testing.T) both {
	t.Helper()
	f := New()
	if f == nil {
		t.Fatal("New is nil")
	}
	return both{t, f, newWords()}
}

// filled is a feed that begins at first, and in which these are known from there on.
func filled(t *testing.T, first int, ins ...uint8) both {
	t.Helper()
	b := newBoth(t)
	for frame := range first {
		b.put(frame, 1)
		b.trim(frame + 1)
	}
	for i, in := range ins {
		b.put(first+i, in)
	}
	b.check()
	return b
}

func (b both) put(frame int, in uint8) api.Errno {
	b.t.Helper()
	want := b.w.put(frame, in)
	if e := b.f.Put(frame, in); e != want {
		b.t.Fatalf("Put(%d, %d) = %d, want %d", frame, in, e, want)
	}
	return want
}

func (b both) take(frame int) uint8 {
	b.t.Helper()
	want, known := b.w.take(frame)
	if in, ok := b.f.Take(frame); in != want || ok != known {
		b.t.Fatalf("Take(%d) = %d, %t, want %d, %t", frame, in, ok, want, known)
	}
	return want
}

func (b both) trim(frame int) {
	b.t.Helper()
	want := b.w.trim(frame)
	if got := b.f.Trim(frame); got != want {
		b.t.Fatalf("Trim(%d) = %d, want %d", frame, got, want)
	}
}

// wrong is for what the document's words lead to by hand; -1: nothing is wrong.
func (b both) wrong(want int) {
	b.t.Helper()
	frame, ok := b.f.Wrong()
	if want == -1 && (frame != 0 || ok) || want != -1 && (frame != want || !ok) {
		b.t.Fatalf("Wrong = %d, %t, want %d", frame, ok, want)
	}
	b.check()
}

// check asks a feed all that it answers without being changed.
func (b both) check() {
	b.t.Helper()
	first, next := b.w.first, len(b.w.all)
	if b.f.First() != first || b.f.Next() != next {
		b.t.Fatalf("First = %d, Next = %d, want %d, %d", b.f.First(), b.f.Next(), first, next)
	}
	for _, frame := range b.frames() {
		want, known := b.w.known(frame)
		if in, ok := b.f.Known(frame); in != want || ok != known {
			b.t.Fatalf("Known(%d) of %d to %d = %d, %t, want %d, %t", frame, first, next, in, ok, want, known)
		}
		if l := b.f.From(frame); !bytes.Equal(l, b.w.from(frame)) {
			b.t.Fatalf("From(%d) of %d to %d = %v, want %v", frame, first, next, l, b.w.from(frame))
		}
	}
	want, is := b.w.wrong()
	if frame, ok := b.f.Wrong(); frame != want || ok != is {
		b.t.Fatalf("Wrong = %d, %t, want %d, %t", frame, ok, want, is)
	}
	// So far behind what is used isn't kept: this asks the guess, and turns nothing.
	if in, ok := b.f.Take(api.MaxFrame); in != b.w.guess() || ok {
		b.t.Fatalf("Take(MaxFrame) = %d, %t, want the guess %d", in, ok, b.w.guess())
	}
}

// frames are those about both ends of what is kept, some within, and the furthest there are.
func (b both) frames() []int {
	first, next := b.w.first, len(b.w.all)
	l := append(noFrames(), 0, api.MaxFrame-1, api.MaxFrame, first-64, first-2, first-1, next, next+1, next+2, first+63, first+64, first+65, next+64)
	for frame := first; frame < next; frame++ {
		l = append(l, frame)
	}
	return l
}

func noFrames() []int {
	return []int{math.MinInt, math.MinInt + 1, -1 << 32, -api.MaxFrame, -65, -64, -2, -1, api.MaxFrame + 1, api.MaxFrame + 2, 1 << 31, 1 << 32, math.MaxInt - 1, math.MaxInt}
}
