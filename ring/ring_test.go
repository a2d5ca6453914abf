package ring

import (
	"maps"
	"math"
	"slices"
	"testing"

	"promptbook/api"
)

// strewn tells numbers from 0 up to below n, by a fixed rule.
type strewn uint32

func (s *strewn) below(n int) int {
	*s = *s*1664525 + 1013904223
	return int(uint64(*s) * uint64(n) >> 32)
}

// wrongSizes are those that neither a ring nor a window has.
func wrongSizes() []int {
	return []int{0, -1, -2, math.MinInt, api.MaxRing + 1, api.MaxRing + 2, 1 << 32, math.MaxInt}
}

func newRing[T any](t *testing.T, size int, things ...T) *Ring[T] {
	t.Helper()
	r, e := New[T](size)
	if e != api.OK || r == nil {
		t.Fatalf("New(%d) = %v, %d", size, r, e)
	}
	for i, x := range things {
		if e := r.Push(x); e != api.OK {
			t.Fatalf("Push of the thing at %d = %d", i, e)
		}
	}
	return r
}

func openWindow[T any](t *testing.T, size, first int) *Window[T] {
	t.Helper()
	w, e := Open[T](size, first)
	if e != api.OK || w == nil {
		t.Fatalf("Open(%d, %d) = %v, %d", size, first, w, e)
	}
	return w
}

// tenfold is a window whose frames have ten times themselves.
func tenfold(t *testing.T, size, first int, frames ...int) *Window[int] {
	t.Helper()
	w := openWindow[int](t, size, first)
	for _, frame := range frames {
		if e := w.Put(frame, 10*frame); e != api.OK {
			t.Fatalf("Put(%d) = %d", frame, e)
		}
	}
	return w
}

// checkRing asks a ring all that it answers without being changed.
func checkRing[T comparable](t *testing.T, r *Ring[T], size int, want ...T) {
	t.Helper()
	if got := r.List(); !slices.Equal(got, want) {
		t.Fatalf("List = %v, want %v", got, want)
	}
	if r.Len() != len(want) || r.Room() != size-len(want) {
		t.Fatalf("Len = %d, Room = %d, want %d things of %d", r.Len(), r.Room(), len(want), size)
	}
	for i, x := range want {
		if got, ok := r.At(i); got != x || !ok {
			t.Fatalf("At(%d) = %v, %t, want %v", i, got, ok, x)
		}
	}
	var none T
	for _, i := range []int{-1, len(want), len(want) + 1, size, size + 1, math.MinInt, math.MaxInt} {
		if got, ok := r.At(i); got != none || ok {
			t.Fatalf("At(%d) of %d things = %v, %t", i, len(want), got, ok)
		}
	}
	last, there := none, len(want) > 0
	if there {
		last = want[len(want)-1]
	}
	if got, ok := r.Last(); got != last || ok != there {
		t.Fatalf("Last = %v, %t, want %v, %t", got, ok, last, there)
	}
}

// checkWindow asks a window all that it answers without being changed, of the frames about it too.
func checkWindow[T comparable](t *testing.T, w *Window[T], size, first int, want map[int]T) {
	t.Helper()
	if got := w.First(); got != first {
		t.Fatalf("First = %d, want %d", got, first)
	}
	if got := w.Frames(); !slices.Equal(got, slices.Sorted(maps.Keys(want))) {
		t.Fatalf("Frames = %v, want %v", got, slices.Sorted(maps.Keys(want)))
	}
	asked := []int{math.MinInt, math.MinInt + 1, -1, 0, api.MaxFrame, api.MaxFrame + 1, math.MaxInt - 1, math.MaxInt}
	for frame := first - size - 1; frame <= first+2*size+1; frame++ {
		asked = append(asked, frame)
	}
	for _, frame := range asked {
		x, there := want[frame]
		if got, ok := w.Get(frame); got != x || ok != there {
			t.Fatalf("Get(%d) = %v, %t, want %v, %t", frame, got, ok, x, there)
		}
	}
}

// P4.1: New of the sizes that may be, and at their ends.
func TestNew(t *testing.T) {
	for _, size := range []int{1, 2, 3, 64, api.MaxRing - 1, api.MaxRing} {
		checkRing(t, newRing[int](t, size), size)
	}
}

// P4.1: New of sizes that can't be.
func TestNewWrongSize(t *testing.T) {
	for _, size := range wrongSizes() {
		if r, e := New[int](size); r != nil || e != api.ErrArg {
			t.Errorf("New(%d) = %v, %d, want ErrArg", size, r, e)
		}
	}
}

// P4.1: the chapter's example.
func TestRingOfTwo(t *testing.T) {
	r := newRing(t, 2, 1, 2)
	if e := r.Push(3); e != api.ErrFull {
		t.Errorf("Push(3) = %d", e)
	}
	if x, ok := r.Pop(); x != 1 || !ok {
		t.Errorf("Pop = %d, %t", x, ok)
	}
	checkRing(t, r, 2, 2)
}

// P4.1: Push into a full ring changes nothing; behind a Pop, or a Take, there is room for just one.
func TestPushFull(t *testing.T) {
	r := newRing(t, 3, "a", "b", "c")
	if e := r.Push("d"); e != api.ErrFull {
		t.Errorf("Push into a full ring = %d", e)
	}
	checkRing(t, r, 3, "a", "b", "c")
	if x, ok := r.Pop(); x != "a" || !ok {
		t.Errorf("Pop = %q, %t", x, ok)
	}
	checkRing(t, r, 3, "b", "c")
	if e := r.Push("d"); e != api.OK {
		t.Errorf("Push behind a Pop = %d", e)
	}
	if e := r.Push("e"); e != api.ErrFull {
		t.Errorf("Push into a full ring = %d", e)
	}
	checkRing(t, r, 3, "b", "c", "d")
	if x, ok := r.Take(1); x != "c" || !ok {
		t.Errorf("Take(1) = %q, %t", x, ok)
	}
	if e := r.Push("f"); e != api.OK {
		t.Errorf("Push behind a Take = %d", e)
	}
	if e := r.Push("g"); e != api.ErrFull {
		t.Errorf("Push into a full ring = %d", e)
	}
	checkRing(t, r, 3, "b", "d", "f")
}

// P4.1: an empty ring has nothing, one that was emptied neither, and both are as they were.
func TestEmptyRing(t *testing.T) {
	emptied := newRing(t, 2, 7, 8)
	emptied.Pop()
	emptied.Pop()
	for _, r := range []*Ring[int]{newRing[int](t, 2), emptied} {
		if x, ok := r.Pop(); x != 0 || ok {
			t.Errorf("Pop = %d, %t", x, ok)
		}
		if x, ok := r.Last(); x != 0 || ok {
			t.Errorf("Last = %d, %t", x, ok)
		}
		for _, i := range []int{-1, 0, 1, 2, math.MinInt, math.MaxInt} {
			if x, ok := r.At(i); x != 0 || ok {
				t.Errorf("At(%d) = %d, %t", i, x, ok)
			}
			if x, ok := r.Take(i); x != 0 || ok {
				t.Errorf("Take(%d) = %d, %t", i, x, ok)
			}
		}
		checkRing(t, r, 2)
		if e := r.Push(9); e != api.OK {
			t.Errorf("Push = %d", e)
		}
		checkRing(t, r, 2, 9)
	}
}

// P4.1: Take at the first one, in the middle and at the last one: those behind it move up.
func TestTake(t *testing.T) {
	for _, x := range []struct {
		i, want int
		left    []int
	}{
		{0, 10, []int{11, 12, 13, 14}}, {1, 11, []int{10, 12, 13, 14}}, {2, 12, []int{10, 11, 13, 14}},
		{3, 13, []int{10, 11, 12, 14}}, {4, 14, []int{10, 11, 12, 13}},
	} {
		r := newRing(t, 6, 10, 11, 12, 13, 14)
		if got, ok := r.At(x.i); got != x.want || !ok {
			t.Errorf("At(%d) = %d, %t", x.i, got, ok)
		}
		checkRing(t, r, 6, 10, 11, 12, 13, 14)
		if got, ok := r.Take(x.i); got != x.want || !ok {
			t.Errorf("Take(%d) = %d, %t", x.i, got, ok)
		}
		checkRing(t, r, 6, x.left...)
	}
}

// P4.1: Take where nothing is, of a ring with room and of a full one, changes nothing.
func TestTakeNothing(t *testing.T) {
	for _, size := range []int{3, 4} {
		r := newRing(t, size, 10, 11, 12)
		for _, i := range []int{-1, -2, 3, 4, 5, math.MinInt, math.MaxInt} {
			if got, ok := r.Take(i); got != 0 || ok {
				t.Errorf("Take(%d) = %d, %t", i, got, ok)
			}
			checkRing(t, r, size, 10, 11, 12)
		}
	}
}

// P4.1: what List answers is new memory: to write into it, or behind its end, changes neither the ring nor another answer.
func TestListIsNewMemory(t *testing.T) {
	r := newRing(t, 8, 1, 2, 3)
	one, other := r.List(), r.List()
	_ = append(one, 9, 9, 9, 9, 9)
	for i := range one {
		one[i] = -1
	}
	checkRing(t, r, 8, 1, 2, 3)
	if !slices.Equal(other, []int{1, 2, 3}) {
		t.Errorf("another List = %v", other)
	}
	r.Pop()
	r.Push(4)
	r.Push(5)
	if !slices.Equal(one, []int{-1, -1, -1}) || !slices.Equal(other, []int{1, 2, 3}) {
		t.Errorf("Lists of before = %v, %v", one, other)
	}
}

// P4.1, P4.4: calls of all kinds by turns, held against a list that is copied whole at each call; never more things than size.
func TestRingByTurns(t *testing.T) {
	for _, size := range []int{1, 2, 3, 5, 16, 33} {
		s := strewn(size)
		r := newRing[int](t, size)
		var want []int
		for next := range 4000 {
			// Long stretches fill it, and long ones empty it.
			filling := next/(4*size)%2 == 0
			switch n := s.below(10); {
			case n < 3 || filling && n < 7:
				e := r.Push(next)
				if len(want) == size {
					if e != api.ErrFull {
						t.Fatalf("Push into a full ring = %d", e)
					}
				} else if want = append(slices.Clone(want), next); e != api.OK {
					t.Fatalf("Push = %d", e)
				}
			case n < 8:
				got, ok := r.Pop()
				want = checkTaken(t, got, ok, want, 0)
			default:
				i := s.below(size+2) - 1
				got, ok := r.Take(i)
				want = checkTaken(t, got, ok, want, i)
			}
			if r.Len() > size || r.Room() < 0 {
				t.Fatalf("%d things in a ring of %d", r.Len(), size)
			}
			checkRing(t, r, size, want...)
		}
	}
}

// checkTaken answers what is left.
func checkTaken(t *testing.T, got int, ok bool, list []int, i int) []int {
	t.Helper()
	if i < 0 || i >= len(list) {
		if got != 0 || ok {
			t.Fatalf("taken at %d of %d = %d, %t", i, len(list), got, ok)
		}
		return list
	}
	if got != list[i] || !ok {
		t.Fatalf("taken at %d of %v = %d, %t", i, list, got, ok)
	}
	return slices.Concat(list[:i], list[i+1:])
}

// P4.4: first in is first out, in rings of all sizes, filled to the brim and gone round many times.
func TestFirstInFirstOut(t *testing.T) {
	for _, size := range []int{1, 2, 3, 7, 64, api.MaxRing} {
		r := newRing[int](t, size)
		in, out := 0, 0
		s := strewn(size)
		for range 200 {
			for range s.below(size + 2) {
				if r.Push(in) == api.OK {
					in++
				}
			}
			for range s.below(size + 2) {
				if x, ok := r.Pop(); ok {
					if x != out {
						t.Fatalf("Pop = %d, want %d", x, out)
					}
					out++
				}
			}
			if r.Len() != in-out || r.Len() > size {
				t.Fatalf("Len = %d, %d went in, %d out, of %d", r.Len(), in, out, size)
			}
		}
	}
}

// P4.4: a ring of the greatest size has room for just as many.
func TestGreatestRing(t *testing.T) {
	r := newRing[int](t, api.MaxRing)
	for i := range api.MaxRing {
		if r.Len() != i || r.Room() != api.MaxRing-i {
			t.Fatalf("Len = %d, Room = %d, behind %d", r.Len(), r.Room(), i)
		}
		if e := r.Push(i); e != api.OK {
			t.Fatalf("Push(%d) = %d", i, e)
		}
	}
	if e := r.Push(-1); e != api.ErrFull || r.Len() != api.MaxRing || r.Room() != 0 {
		t.Errorf("Push = %d, Len = %d, Room = %d", e, r.Len(), r.Room())
	}
	for i := range api.MaxRing {
		if x, ok := r.Pop(); x != i || !ok {
			t.Fatalf("Pop = %d, %t, want %d", x, ok, i)
		}
	}
}

// P4.1, P4.2: the zero thing is a thing, of whatever kind.
func TestZeroThings(t *testing.T) {
	texts, places, nobodies, lists := newRing(t, 2, ""), newRing(t, 2, api.Vec{}), newRing[*int](t, 2, nil), newRing[[]int](t, 2, nil)
	if x, ok := texts.Pop(); x != "" || !ok {
		t.Errorf("a text: %q, %t", x, ok)
	}
	if x, ok := places.Last(); x != (api.Vec{}) || !ok {
		t.Errorf("a place: %v, %t", x, ok)
	}
	if x, ok := nobodies.At(0); x != nil || !ok {
		t.Errorf("nobody: %v, %t", x, ok)
	}
	if x, ok := lists.Take(0); x != nil || !ok {
		t.Errorf("a list: %v, %t", x, ok)
	}
	w := openWindow[*int](t, 2, 5)
	if e := w.Put(6, nil); e != api.OK {
		t.Errorf("Put = %d", e)
	}
	checkWindow(t, w, 2, 5, map[int]*int{6: nil})
	empty := openWindow[struct{}](t, 2, 0)
	if e := empty.Put(1, struct{}{}); e != api.OK {
		t.Errorf("Put = %d", e)
	}
	checkWindow(t, empty, 2, 0, map[int]struct{}{1: {}})
}

// P4.2: Open of sizes and first frames that may be, and at their ends.
func TestOpen(t *testing.T) {
	for _, size := range []int{1, 2, 64, api.MaxRing - 1, api.MaxRing} {
		for _, first := range []int{0, 1, 70000, api.MaxFrame - 1, api.MaxFrame} {
			checkWindow(t, openWindow[int](t, size, first), size, first, nil)
		}
	}
}

// P4.2: Open with a size, or a first frame, or both, that can't be.
func TestOpenWrong(t *testing.T) {
	wrongFirsts := []int{-1, -2, math.MinInt, api.MaxFrame + 1, api.MaxFrame + 2, math.MaxInt}
	refused := func(size, first int) {
		t.Helper()
		if w, e := Open[int](size, first); w != nil || e != api.ErrArg {
			t.Errorf("Open(%d, %d) = %v, %d, want ErrArg", size, first, w, e)
		}
	}
	for _, size := range wrongSizes() {
		for _, first := range append(wrongFirsts, 0, 1, api.MaxFrame) {
			refused(size, first)
		}
	}
	for _, size := range []int{1, 2, api.MaxRing} {
		for _, first := range wrongFirsts {
			refused(size, first)
		}
	}
}

// P4.2: Put ahead of first, at first, within, at the last frame of the window and behind it; what fails changes nothing.
func TestPut(t *testing.T) {
	w := openWindow[string](t, 4, 10)
	want := map[int]string{}
	for _, x := range []struct {
		frame int
		thing string
		e     api.Errno
	}{
		{13, "last", api.OK}, {10, "first", api.OK}, {12, "within", api.OK},
		{9, "no", api.ErrOld}, {8, "no", api.ErrOld}, {0, "no", api.ErrOld}, {-1, "no", api.ErrOld}, {math.MinInt, "no", api.ErrOld},
		{14, "no", api.ErrFull}, {15, "no", api.ErrFull}, {api.MaxFrame, "no", api.ErrFull}, {api.MaxFrame + 1, "no", api.ErrFull}, {math.MaxInt, "no", api.ErrFull},
		{11, "", api.OK},
	} {
		if e := w.Put(x.frame, x.thing); e != x.e {
			t.Errorf("Put(%d) = %d, want %d", x.frame, e, x.e)
		}
		if x.e == api.OK {
			want[x.frame] = x.thing
		}
		checkWindow(t, w, 4, 10, want)
	}
}

// P4.2: Put twice at one frame: the later one is its thing; there is still one.
func TestPutTwice(t *testing.T) {
	w := tenfold(t, 4, 3, 3, 5, 6)
	for _, frame := range []int{5, 3, 6, 5} {
		if e := w.Put(frame, frame+1000); e != api.OK {
			t.Errorf("Put(%d) again = %d", frame, e)
		}
	}
	checkWindow(t, w, 4, 3, map[int]int{3: 1003, 5: 1005, 6: 1006})
	if got := w.Cut(0); got != 3 {
		t.Errorf("Cut(0) = %d", got)
	}
}

// P4.2: a window near the last frame takes things up to it, and none above, though its size would.
func TestPutNearMaxFrame(t *testing.T) {
	w := openWindow[int](t, 4, api.MaxFrame-1)
	for _, x := range []struct {
		frame int
		e     api.Errno
	}{
		{api.MaxFrame - 2, api.ErrOld}, {api.MaxFrame - 1, api.OK}, {api.MaxFrame, api.OK},
		{api.MaxFrame + 1, api.ErrFull}, {api.MaxFrame + 2, api.ErrFull}, {api.MaxFrame + 3, api.ErrFull}, {math.MaxInt, api.ErrFull},
	} {
		if e := w.Put(x.frame, 7); e != x.e {
			t.Errorf("Put(%d) = %d, want %d", x.frame, e, x.e)
		}
	}
	checkWindow(t, w, 4, api.MaxFrame-1, map[int]int{api.MaxFrame - 1: 7, api.MaxFrame: 7})
	short := openWindow[int](t, 2, api.MaxFrame-2)
	if e := short.Put(api.MaxFrame, 7); e != api.ErrFull {
		t.Errorf("Put at MaxFrame, behind the window = %d", e)
	}
	checkWindow(t, short, 2, api.MaxFrame-2, nil)
}

// P4.3: Move to where it begins, past none, some and all things, and what may be put behind it.
func TestMove(t *testing.T) {
	for _, x := range []struct{ first, gone int }{
		{10, 0}, {11, 1}, {12, 2}, {13, 2}, {14, 3}, {15, 4}, {16, 4}, {1000, 4}, {api.MaxFrame - 1, 4}, {api.MaxFrame, 4},
	} {
		w := tenfold(t, 5, 10, 14, 10, 13, 11)
		want := map[int]int{10: 100, 11: 110, 13: 130, 14: 140}
		maps.DeleteFunc(want, func(frame, _ int) bool { return frame < x.first })
		if got := w.Move(x.first); got != x.gone {
			t.Errorf("Move(%d) = %d, want %d", x.first, got, x.gone)
		}
		checkWindow(t, w, 5, x.first, want)
		if e := w.Put(x.first-1, 1); e != api.ErrOld {
			t.Errorf("Put ahead of %d = %d", x.first, e)
		}
		if e := w.Put(x.first, 1); e != api.OK {
			t.Errorf("Put at %d = %d", x.first, e)
		}
		if e := w.Put(x.first+5, 1); e != api.ErrFull {
			t.Errorf("Put behind the window from %d = %d", x.first, e)
		}
	}
}

// P4.3: Move ahead of where it begins, or above MaxFrame, turns nothing.
func TestMoveNowhere(t *testing.T) {
	w := tenfold(t, 5, 10, 10, 12)
	for _, first := range []int{9, 8, 0, -1, math.MinInt, api.MaxFrame + 1, api.MaxFrame + 2, math.MaxInt} {
		if got := w.Move(first); got != 0 {
			t.Errorf("Move(%d) = %d", first, got)
		}
		checkWindow(t, w, 5, 10, map[int]int{10: 100, 12: 120})
	}
	if got := w.Move(api.MaxFrame); got != 2 {
		t.Errorf("Move(MaxFrame) = %d", got)
	}
	if got := w.Move(api.MaxFrame + 1); got != 0 || w.First() != api.MaxFrame {
		t.Errorf("Move above MaxFrame = %d, First = %d", got, w.First())
	}
}

// P4.3: Cut ahead of first, within the window and behind it; it begins where it did, and takes things there again.
func TestCut(t *testing.T) {
	for _, x := range []struct{ frame, gone int }{
		{math.MinInt, 4}, {-1, 4}, {0, 4}, {9, 4}, {10, 4}, {11, 3}, {12, 2}, {13, 2}, {14, 1},
		{15, 0}, {16, 0}, {api.MaxFrame, 0}, {api.MaxFrame + 1, 0}, {math.MaxInt, 0},
	} {
		w := tenfold(t, 5, 10, 14, 10, 13, 11)
		want := map[int]int{10: 100, 11: 110, 13: 130, 14: 140}
		maps.DeleteFunc(want, func(frame, _ int) bool { return frame >= x.frame })
		if got := w.Cut(x.frame); got != x.gone {
			t.Errorf("Cut(%d) = %d, want %d", x.frame, got, x.gone)
		}
		checkWindow(t, w, 5, 10, want)
		if got := w.Cut(x.frame); got != 0 {
			t.Errorf("Cut(%d) again = %d", x.frame, got)
		}
		if e := w.Put(14, 5); e != api.OK {
			t.Errorf("Put behind Cut(%d) = %d", x.frame, e)
		}
		want[14] = 5
		checkWindow(t, w, 5, 10, want)
	}
}

// P4.3: Move and Cut of a window without things.
func TestEmptyWindow(t *testing.T) {
	w := openWindow[int](t, 3, 4)
	if got := w.Cut(0); got != 0 {
		t.Errorf("Cut = %d", got)
	}
	checkWindow(t, w, 3, 4, nil)
	if got := w.Move(6); got != 0 {
		t.Errorf("Move = %d", got)
	}
	checkWindow(t, w, 3, 6, nil)
}

// P4.3: what Frames answers is new memory: to write into it, or behind its end, changes neither the window nor another answer.
func TestFramesIsNewMemory(t *testing.T) {
	w := tenfold(t, 8, 0, 5, 1, 3)
	one, other := w.Frames(), w.Frames()
	_ = append(one, 9, 9, 9, 9, 9)
	for i := range one {
		one[i] = -1
	}
	checkWindow(t, w, 8, 0, map[int]int{1: 10, 3: 30, 5: 50})
	w.Move(2)
	w.Put(9, 90)
	if !slices.Equal(one, []int{-1, -1, -1}) || !slices.Equal(other, []int{1, 3, 5}) {
		t.Errorf("Frames of before = %v, %v", one, other)
	}
}

// P4.2 to P4.4: calls of all kinds by turns, held against things by frames, up to the last frame; never more things than size.
func TestWindowByTurns(t *testing.T) {
	for _, size := range []int{1, 2, 3, 8, 19} {
		for _, first := range []int{0, 500, api.MaxFrame - 40, api.MaxFrame} {
			s := strewn(size + first)
			w := openWindow[int](t, size, first)
			want := map[int]int{}
			for next := range 1500 {
				frame := w.First() - 2 + s.below(size+4)
				switch n := s.below(20); {
				case n < 15:
					checkPut(t, w, size, frame, next, want)
				case n < 17:
					had := len(want)
					maps.DeleteFunc(want, func(f, _ int) bool { return f >= frame })
					if got := w.Cut(frame); got != had-len(want) {
						t.Fatalf("Cut(%d) = %d, want %d", frame, got, had-len(want))
					}
				default:
					first = checkMove(t, w, first, frame, want)
				}
				if len(w.Frames()) > size {
					t.Fatalf("%d things in a window of %d", len(w.Frames()), size)
				}
				checkWindow(t, w, size, first, want)
			}
		}
	}
}

// checkPut lays into want what was put.
func checkPut(t *testing.T, w *Window[int], size, frame, x int, want map[int]int) {
	t.Helper()
	first, wantE := w.First(), api.OK
	if frame < first {
		wantE = api.ErrOld
	} else if frame >= first+size || frame > api.MaxFrame {
		wantE = api.ErrFull
	} else {
		want[frame] = x
	}
	if e := w.Put(frame, x); e != wantE {
		t.Fatalf("Put(%d) = %d, want %d", frame, e, wantE)
	}
}

// checkMove takes from want what went, and answers where the window must begin.
func checkMove(t *testing.T, w *Window[int], first, to int, want map[int]int) int {
	t.Helper()
	had := len(want)
	if to >= first && to <= api.MaxFrame {
		first = to
		maps.DeleteFunc(want, func(f, _ int) bool { return f < to })
	}
	if got := w.Move(to); got != had-len(want) {
		t.Fatalf("Move(%d) = %d, want %d", to, got, had-len(want))
	}
	return first
}

// P4.4: a window of the greatest size has a thing of each of its frames, and of no more.
func TestGreatestWindow(t *testing.T) {
	const first = 1000
	w := openWindow[int](t, api.MaxRing, first)
	want := map[int]int{}
	// An odd step goes through all of them, out of order.
	for i := range api.MaxRing {
		frame := first + i*1597%api.MaxRing
		if e := w.Put(frame, i); e != api.OK {
			t.Fatalf("Put(%d) = %d", frame, e)
		}
		want[frame] = i
	}
	if e := w.Put(first+api.MaxRing, 1); e != api.ErrFull {
		t.Errorf("Put behind the window = %d", e)
	}
	checkWindow(t, w, api.MaxRing, first, want)
	if got := len(w.Frames()); got != api.MaxRing {
		t.Errorf("as many frames: %d", got)
	}
}

// P4.1: all calls of a nil ring.
func TestNilRing(t *testing.T) {
	var r *Ring[int]
	if e := r.Push(1); e != api.ErrNil {
		t.Errorf("Push = %d", e)
	}
	if x, ok := r.Pop(); x != 0 || ok {
		t.Errorf("Pop = %d, %t", x, ok)
	}
	if x, ok := r.Last(); x != 0 || ok {
		t.Errorf("Last = %d, %t", x, ok)
	}
	for _, i := range []int{math.MinInt, -1, 0, 1, math.MaxInt} {
		if x, ok := r.At(i); x != 0 || ok {
			t.Errorf("At(%d) = %d, %t", i, x, ok)
		}
		if x, ok := r.Take(i); x != 0 || ok {
			t.Errorf("Take(%d) = %d, %t", i, x, ok)
		}
	}
	if r.Len() != 0 || r.Room() != 0 || len(r.List()) != 0 {
		t.Errorf("Len = %d, Room = %d, List = %v", r.Len(), r.Room(), r.List())
	}
}

// P4.2, P4.3: all calls of a nil window, whatever the frame.
func TestNilWindow(t *testing.T) {
	var w *Window[string]
	for _, frame := range []int{math.MinInt, -1, 0, 1, api.MaxFrame, api.MaxFrame + 1, math.MaxInt} {
		if e := w.Put(frame, "x"); e != api.ErrNil {
			t.Errorf("Put(%d) = %d", frame, e)
		}
		if x, ok := w.Get(frame); x != "" || ok {
			t.Errorf("Get(%d) = %q, %t", frame, x, ok)
		}
		if got := w.Move(frame); got != 0 {
			t.Errorf("Move(%d) = %d", frame, got)
		}
		if got := w.Cut(frame); got != 0 {
			t.Errorf("Cut(%d) = %d", frame, got)
		}
	}
	if w.First() != 0 || len(w.Frames()) != 0 {
		t.Errorf("First = %d, Frames = %v", w.First(), w.Frames())
	}
}

// What is taken off, moved past or cut isn't kept: the memory holds no more than what is there.
func TestNothingIsKept(t *testing.T) {
	r, w := newRing[*int](t, 6), openWindow[*int](t, 6, 0)
	for i := range 6 {
		r.Push(&i)
		w.Put(i, &i)
	}
	ringMemory, windowMemory := r.things[:cap(r.things)], w.things[:cap(w.things)]
	r.Pop()
	r.Take(2)
	r.Take(3)
	w.Move(2)
	w.Cut(4)
	kept := 0
	for _, x := range ringMemory {
		if x != nil {
			kept++
		}
	}
	if kept != 3 {
		t.Errorf("a ring of %d things keeps %d", r.Len(), kept)
	}
	kept = 0
	for _, x := range windowMemory {
		if x.thing != nil {
			kept++
		}
	}
	if kept != 2 {
		t.Errorf("a window of %d things keeps %d", len(w.Frames()), kept)
	}
}
