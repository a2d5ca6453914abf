package core

import (
	"bytes"
	"math"
	"testing"

	"promptbook/api"
	"promptbook/freeze"
	"promptbook/game"
)

// P15.1: each config that may be makes a core, in which of both players just the frames ahead of Delay are known to be 0.
func TestNew(t *testing.T) {
	for _, seed := range []uint32{0, 1, math.MaxUint32} {
		for _, config := range configs(seed) {
			c, e := New(config)
			if c == nil || e != api.OK {
				t.Fatalf("New(%v) = %v, %d", config, c, e)
			}
			if c.Current() != 0 || c.Common() != config.Delay || c.Settled() != -1 || c.Kept() != 1 || c.Theirs() != config.Delay || c.Ours() != config.Delay {
				t.Fatalf("New(%v): Current %d, Common %d, Settled %d, Kept %d, Theirs %d, Ours %d", config, c.Current(), c.Common(), c.Settled(), c.Kept(), c.Theirs(), c.Ours())
			}
			if state, ok := c.State(0); state != game.Begin(seed) || !ok {
				t.Fatalf("New(%v): State(0) = %v, %t", config, state, ok)
			}
			want, _ := freeze.Sum(game.Begin(seed))
			if sum, ok := c.Sum(0); sum != want || !ok {
				t.Fatalf("New(%v): Sum(0) = %d, %t, want %d", config, sum, ok, want)
			}
			if l := c.Mine(0); !bytes.Equal(l, make([]uint8, config.Delay)) {
				t.Fatalf("New(%v): Mine(0) = %v", config, l)
			}
		}
	}
}

// P15.1: ErrArg, and no core, beyond each end of Delay, Window and Me, by 1 and by as much as there is, one by one and together.
func TestNewArg(t *testing.T) {
	far := []int{math.MinInt, math.MinInt32, -256, -65536, -1 << 32, 256, 65536, 1 << 32, 1<<32 + 1, math.MaxInt32, math.MaxInt}
	delays := append([]int{-2, -1, 9, 10, 16, 17}, far...)
	windows := append([]int{-2, -1, 0, 17, 18}, far...)
	mes := append([]int{-2, -1, 2, 3}, far...)
	var l []api.Config
	for _, right := range configs(7) {
		for _, delay := range delays {
			l = append(l, api.Config{Seed: 7, Delay: delay, Window: right.Window, Me: right.Me})
		}
		for _, window := range windows {
			l = append(l, api.Config{Seed: 7, Delay: right.Delay, Window: window, Me: right.Me})
		}
		for _, me := range mes {
			l = append(l, api.Config{Seed: 7, Delay: right.Delay, Window: right.Window, Me: me})
		}
	}
	for i, delay := range delays {
		for j, window := range windows {
			l = append(l, api.Config{Delay: delay, Window: window, Me: mes[(i+j)%len(mes)]})
		}
	}
	for _, config := range append(l, api.Config{}) {
		if c, e := New(config); c != nil || e != api.ErrArg {
			t.Fatalf("New(%v) = %v, %d, want ErrArg", config, c, e)
		}
	}
}

// P15.1: two cores have nothing in common.
func TestCoresApart(t *testing.T) {
	config := api.Config{Seed: 5, Delay: 1, Window: 4}
	one, other := played(t, config, 4, 4), played(t, config, 32, 0, 1)
	for range 4 {
		one.tell(16)
		other.check()
		other.tell(32)
		one.check()
		one.repair()
		other.check()
		one.play(1)
		other.check()
		one.free(99)
		other.check()
		other.repair()
		other.play(4)
		one.check()
	}
}

// P15.1 to P15.3: all calls of a nil core, whatever they are handed.
func TestNil(t *testing.T) {
	var c *Core
	for _, in := range []uint8{0, 1, api.MaxInput, api.MaxInput + 1, math.MaxUint8} {
		if frame, e := c.Offer(in); frame != 0 || e != api.ErrNil {
			t.Errorf("Offer(%d) = %d, %d", in, frame, e)
		}
		for _, frame := range append(noFrames(), 0, 1, api.MaxFrame) {
			if e := c.Hear(frame, in); e != api.ErrNil {
				t.Errorf("Hear(%d, %d) = %d", frame, in, e)
			}
		}
	}
	if l, e := c.Repair(); len(l) != 0 || e != api.ErrNil {
		t.Errorf("Repair = %v, %d", l, e)
	}
	if page, e := c.Step(); page.Frame != 0 || page.Events != nil || e != api.ErrNil {
		t.Errorf("Step = %v, %d", page, e)
	}
	for _, frame := range append(noFrames(), 0, 1, api.MaxFrame) {
		if state, ok := c.State(frame); state != (api.State{}) || ok {
			t.Errorf("State(%d) = %v, %t", frame, state, ok)
		}
		if sum, ok := c.Sum(frame); sum != 0 || ok {
			t.Errorf("Sum(%d) = %d, %t", frame, sum, ok)
		}
		if got := c.Free(frame); got != 0 {
			t.Errorf("Free(%d) = %d", frame, got)
		}
		if l := c.Mine(frame); len(l) != 0 {
			t.Errorf("Mine(%d) = %v", frame, l)
		}
	}
	if c.Settled() != -1 {
		t.Errorf("Settled = %d", c.Settled())
	}
	if c.Current() != 0 || c.Common() != 0 || c.Kept() != 0 || c.Theirs() != 0 || c.Ours() != 0 {
		t.Errorf("Current %d, Common %d, Kept %d, Theirs %d, Ours %d", c.Current(), c.Common(), c.Kept(), c.Theirs(), c.Ours())
	}
}
