package core

import (
	"bytes"
	"math"
	"slices"
	"testing"

	"promptbook/api"
	"promptbook/freeze"
)

// P15.3: nothing is settled at the beginning, without a step, or without being known of both; by each frame that is played and common one more is.
func TestSettled(t *testing.T) {
	b := newBoth(t, api.Config{Seed: 20, Delay: 2, Window: 4})
	for _, x := range []struct {
		do   func()
		want int
	}{
		{func() {}, -1},
		{func() { b.offer(0) }, -1},
		{func() { b.tell(0) }, -1},
		{func() { b.step() }, 0},
		{func() { b.step() }, 1},
		{func() { b.step() }, 2},
		{func() { b.offer(0); b.step() }, 2},
		{func() { b.tell(0) }, 3},
		{func() { b.tell(0, 0, 0) }, 3},
		{func() { b.offer(0); b.offer(0); b.step() }, 4},
	} {
		x.do()
		b.check()
		if b.c.Settled() != x.want {
			t.Fatalf("Settled = %d, want %d", b.c.Settled(), x.want)
		}
	}
}

// P15.3: with a wrong frame, and several, the settled ones end ahead of the first of them, till it is repaired, however many behind it are known.
func TestSettledAtWrong(t *testing.T) {
	for first := range 6 {
		b := played(t, api.Config{Seed: 21, Window: 8, Me: first % 2}, make([]uint8, 6)...)
		for frame := range 8 {
			if frame < first {
				b.tell(0)
				continue
			}
			b.tell(uint8(1 + frame%2))
			if b.c.Settled() != first-1 || b.c.Common() != min(frame+1, 6) {
				t.Fatalf("wrong at %d, %d heard: Settled = %d, Common = %d", first, frame+1, b.c.Settled(), b.c.Common())
			}
		}
		b.repair()
		b.check()
		if b.c.Settled() != 5 {
			t.Fatalf("repaired: Settled = %d", b.c.Settled())
		}
	}
}

// P15.3: common is what is known of both, whoever is behind.
func TestCommon(t *testing.T) {
	for me := range 2 {
		for delay := range 9 {
			b := newBoth(t, api.Config{Seed: 22, Delay: delay, Window: 3, Me: me})
			for i := range 3 {
				b.play(1)
				if b.c.Common() != delay || b.c.Ours() != delay+i+1 || b.c.Theirs() != delay {
					t.Fatalf("Common %d, Ours %d, Theirs %d", b.c.Common(), b.c.Ours(), b.c.Theirs())
				}
			}
			b.tell(1, 1, 1, 1, 1)
			if b.c.Common() != delay+3 || b.c.Ours() != delay+3 || b.c.Theirs() != delay+5 {
				t.Fatalf("Common %d, Ours %d, Theirs %d", b.c.Common(), b.c.Ours(), b.c.Theirs())
			}
		}
	}
}

// P15.3: State and Sum of each frame that is kept, the current one's too; nothing and false of frames that were freed, of those behind the current one, known or not, and of no frame.
func TestState(t *testing.T) {
	own, heard := []uint8{4, 36, 16, 1, 0, 32, 2}, []uint8{20, 1, 32, 0}
	other := append(slices.Clone(heard), 0, 0, 0)
	for me := range 2 {
		for freed := range 5 {
			b := newBoth(t, api.Config{Seed: 23, Window: 8, Me: me})
			b.tell(heard...)
			b.play(own...)
			b.offer(63)
			b.free(freed)
			_, states := truth(t, 23, sides(me, own, other))
			for frame, want := range states {
				state, ok := b.c.State(frame)
				sum, summed := b.c.Sum(frame)
				if frame < freed {
					if state != (api.State{}) || ok || sum != 0 || summed {
						t.Fatalf("freed to %d: State(%d) = %v, %t, Sum = %d, %t", freed, frame, state, ok, sum, summed)
					}
					continue
				}
				wantSum, _ := freeze.Sum(want)
				if state != want || !ok || sum != wantSum || !summed {
					t.Fatalf("freed to %d: State(%d) = %v, %t, want %v, Sum = %d, %t, want %d", freed, frame, state, ok, want, sum, summed, wantSum)
				}
			}
			for _, frame := range append(noFrames(), 8, 9, 15, 16, 64, 65, api.MaxFrame) {
				state, ok := b.c.State(frame)
				if sum, summed := b.c.Sum(frame); state != (api.State{}) || ok || sum != 0 || summed {
					t.Fatalf("State(%d) = %v, %t, Sum = %d, %t", frame, state, ok, sum, summed)
				}
			}
		}
	}
}

// P15.3: a state behind a wrong frame is as it was played till it is played again; the wrong frame's own, ahead of its play, stays.
func TestStateRepaired(t *testing.T) {
	b := played(t, api.Config{Seed: 24, Window: 4}, 0, 0, 0)
	_, was := truth(t, 24, [][2]uint8{{0, 0}, {0, 0}, {0, 0}})
	_, now := truth(t, 24, [][2]uint8{{0, 0}, {0, 4}, {0, 4}})
	b.tell(0, 4)
	for frame, want := range was {
		if state, ok := b.c.State(frame); state != want || !ok {
			t.Fatalf("wrong: State(%d) = %v, %t, want %v", frame, state, ok, want)
		}
	}
	b.repair()
	for frame, want := range now {
		if state, ok := b.c.State(frame); state != want || !ok || (frame > 1) != (want != was[frame]) {
			t.Fatalf("repaired: State(%d) = %v, %t, want %v", frame, state, ok, want)
		}
	}
	if b.c.Kept() != 4 {
		t.Errorf("Kept = %d", b.c.Kept())
	}
}

// P15.3: a state that was handed out isn't changed by later calls, and to write into it changes nothing.
func TestStateHandedOut(t *testing.T) {
	b := played(t, api.Config{Seed: 25, Window: 4}, 16, 0, 0)
	one, _ := b.c.State(3)
	was := one
	b.tell(36)
	b.repair()
	b.free(99)
	b.play(16)
	if one != was {
		t.Errorf("a state of before is %v, was %v", one, was)
	}
	if now, _ := b.c.State(3); now == was {
		t.Error("the frame wasn't played otherwise")
	}
	two, _ := b.c.State(3)
	two.Frame, two.Players[1].Hp, two.Shots[0] = 9, 1, api.Shot{}
	b.check()
	b.play(0)
}

// P15.3: Free of frames ahead of what is kept, within, at the settled one and 1 more, behind it, and behind all: how many states go; inputs go with them, of both.
func TestFree(t *testing.T) {
	for _, x := range []struct{ frame, gone int }{
		{math.MinInt, 0}, {-api.MaxFrame, 0}, {-1, 0}, {0, 0}, {1, 0}, {2, 0},
		{3, 1}, {4, 2}, {5, 3}, {6, 4}, {7, 4}, {8, 4}, {9, 4}, {10, 4}, {80, 4}, {api.MaxFrame, 4}, {api.MaxFrame + 1, 4}, {math.MaxInt, 4},
	} {
		for me := range 2 {
			// Frames 2 to 8 are kept, 5 is the settled one, 8 the current one.
			b := newBoth(t, api.Config{Seed: 26, Delay: 1, Window: 8, Me: me})
			b.tell(1, 2, 3, 4, 5)
			b.play(9, 8, 7, 6, 5, 4, 3, 2)
			if got := b.c.Free(2); got != 2 || b.c.Settled() != 5 || b.c.Kept() != 7 {
				t.Fatalf("Free(2) = %d, Settled = %d, Kept = %d", got, b.c.Settled(), b.c.Kept())
			}
			b.w.free(2)
			if got := b.c.Free(x.frame); got != x.gone || b.c.Kept() != 7-x.gone {
				t.Fatalf("Free(%d) = %d, Kept = %d, want %d to go", x.frame, got, b.c.Kept(), x.gone)
			}
			b.w.free(x.frame)
			b.check()
			if l := b.c.Mine(0); !bytes.Equal(l, []uint8{8, 7, 6, 5, 4, 3, 2}[x.gone:]) {
				t.Fatalf("Free(%d): Mine = %v", x.frame, l)
			}
			// Once more nothing goes.
			if got := b.c.Free(x.frame); got != 0 || b.c.Kept() != 7-x.gone {
				t.Fatalf("Free(%d) again = %d, Kept = %d", x.frame, got, b.c.Kept())
			}
			b.check()
			b.tell(0, 5, 0)
			b.repair()
			b.check()
			b.play(1)
		}
	}
}

// P15.3: at the beginning nothing goes, and while a frame is wrong none of those from it on, though they are known.
func TestFreeNotSettled(t *testing.T) {
	for _, config := range configs(27) {
		b := newBoth(t, config)
		if got := b.free(math.MaxInt); got != 0 {
			t.Fatalf("%v: Free = %d", config, got)
		}
		b.tell(5, 6)
		if got := b.free(math.MaxInt); got != 0 {
			t.Fatalf("%v: Free = %d", config, got)
		}
		b.check()
	}
	b := played(t, api.Config{Seed: 27, Window: 5}, 1, 2, 3, 4, 5)
	b.tell(0, 0, 9, 0, 0)
	if got := b.free(5); got != 2 || b.c.Settled() != 1 || b.c.Kept() != 4 {
		t.Fatalf("Free = %d, Settled = %d, Kept = %d", got, b.c.Settled(), b.c.Kept())
	}
	b.check()
	if l := b.repair(); len(l) != 3 || l[0].Frame != 2 {
		t.Fatalf("Repair = %v", l)
	}
	if got := b.free(5); got != 3 || b.c.Kept() != 1 {
		t.Fatalf("Free = %d, Kept = %d", got, b.c.Kept())
	}
	b.check()
}

// P15.3: what was freed of the other one's inputs makes room for as many, and the guess stays when all are.
func TestFreeInputs(t *testing.T) {
	b := newBoth(t, api.Config{Seed: 28, Window: 3})
	b.tell(bytes.Repeat([]byte{4}, 64)...)
	for range 64 {
		b.play(0)
	}
	if e := b.hear(64, 0); e != api.ErrFull {
		t.Fatalf("Hear = %d", e)
	}
	if got := b.free(math.MaxInt); got != 64 || b.c.Kept() != 1 || len(b.c.Mine(0)) != 0 {
		t.Fatalf("Free = %d, Kept = %d, Mine = %v", got, b.c.Kept(), b.c.Mine(0))
	}
	b.play(0, 0)
	b.tell(4, 5)
	if l := b.repair(); len(l) != 1 || l[0].Frame != 65 {
		t.Fatalf("Repair = %v", l)
	}
}

// P15.3: nothing freed, all states are kept, as many as there may be frames.
func TestKeptAll(t *testing.T) {
	for _, delay := range []int{0, 8} {
		b := full(t, api.Config{Seed: 28, Delay: delay, Window: 16}, 16)
		for {
			if _, e := b.step(); e != api.OK {
				break
			}
		}
		if b.c.Kept() != b.c.Current()+1 {
			t.Errorf("Kept = %d at %d", b.c.Kept(), b.c.Current())
		}
		b.tell(9)
		b.repair()
		b.tell(make([]uint8, 15)...)
		b.repair()
		for {
			if _, e := b.step(); e != api.OK {
				break
			}
		}
		b.check()
		if b.c.Kept() != 65 {
			t.Errorf("Kept = %d at %d", b.c.Kept(), b.c.Current())
		}
		if got := b.free(64); got != 64 || b.c.Kept() != 1 {
			t.Errorf("Free = %d, Kept = %d", got, b.c.Kept())
		}
		b.check()
		b.play(1)
	}
}

// P15.3: Mine ahead of what is kept is all that is, within the rest, at the first that isn't known and behind it nothing.
func TestMine(t *testing.T) {
	b := newBoth(t, api.Config{Seed: 29, Delay: 1, Window: 8, Me: 1})
	b.tell(60, 61, 62)
	b.play(5, 6, 7)
	for _, x := range []struct {
		frame int
		want  []uint8
	}{{math.MinInt, []uint8{0, 5, 6, 7}}, {-1, []uint8{0, 5, 6, 7}}, {0, []uint8{0, 5, 6, 7}}, {1, []uint8{5, 6, 7}}, {3, []uint8{7}}, {4, nil}} {
		if l := b.c.Mine(x.frame); !bytes.Equal(l, x.want) {
			t.Errorf("Mine(%d) = %v, want %v", x.frame, l, x.want)
		}
	}
	b.free(2)
	for _, x := range []struct {
		frame int
		want  []uint8
	}{{math.MinInt, []uint8{6, 7}}, {0, []uint8{6, 7}}, {1, []uint8{6, 7}}, {2, []uint8{6, 7}}, {3, []uint8{7}}, {4, nil}, {5, nil}, {api.MaxFrame, nil}, {math.MaxInt, nil}} {
		if l := b.c.Mine(x.frame); !bytes.Equal(l, x.want) {
			t.Errorf("Mine(%d) = %v, want %v", x.frame, l, x.want)
		}
	}
}

// P15.3: what Mine answers is new memory: to write into it, and behind its end, changes neither the core nor another answer.
func TestMineIsNewMemory(t *testing.T) {
	b := newBoth(t, api.Config{Seed: 30, Window: 8})
	b.tell(0, 0, 0)
	b.play(5, 6, 7)
	one, other := b.c.Mine(0), b.c.Mine(0)
	for i := range one[:cap(one)] {
		one[:cap(one)][i] = 63
	}
	_ = append(one, 62)
	b.check()
	b.play(8)
	b.free(2)
	b.check()
	if !bytes.Equal(other, []uint8{5, 6, 7}) || !bytes.Equal(one, []uint8{63, 63, 63}) {
		t.Errorf("Mine of before = %v, %v", one, other)
	}
}
