package core

import (
	"bytes"
	"math"
	"testing"

	"promptbook/api"
)

// P15.1: what is offered at a frame is Me's input of the frame Delay behind it, of each input that may be; the other one's aren't known by it.
func TestOffer(t *testing.T) {
	for _, config := range configs(1) {
		if config.Window < 3 {
			continue
		}
		b := newBoth(t, config)
		for in := range uint8(64) {
			frame := int(in)
			if got, e := b.offer(63 - in); got != frame+config.Delay || e != api.OK {
				t.Fatalf("%v: Offer at %d = %d, %d", config, frame, got, e)
			}
			if b.c.Ours() != frame+config.Delay+1 || b.c.Theirs() != frame+config.Delay {
				t.Fatalf("%v: Ours %d, Theirs %d", config, b.c.Ours(), b.c.Theirs())
			}
			if l := b.c.Mine(frame + config.Delay); !bytes.Equal(l, []uint8{63 - in}) {
				t.Fatalf("%v: Mine = %v", config, l)
			}
			b.tell(in)
			b.step()
			b.free(frame)
		}
		b.check()
	}
}

// P15.1: ErrThere, if the frame is more than Delay behind the current one, till that one is played.
func TestOfferThere(t *testing.T) {
	for _, config := range configs(2) {
		b := newBoth(t, config)
		for frame := range config.Window {
			if got, e := b.offer(4); got != frame+config.Delay || e != api.OK {
				t.Fatalf("%v: Offer at %d = %d, %d", config, frame, got, e)
			}
			for _, in := range []uint8{0, 4, 63, 64, 255} {
				if got, e := b.offer(in); got != 0 || e != api.ErrThere {
					t.Fatalf("%v: Offer(%d) again at %d = %d, %d, want ErrThere", config, in, frame, got, e)
				}
			}
			b.check()
			if _, e := b.step(); e != api.OK {
				t.Fatalf("%v: Step at %d = %d", config, frame, e)
			}
		}
	}
}

// P15.1: without an own input being offered each time, as many frames may be offered one behind the other as were left out.
func TestOfferLater(t *testing.T) {
	for delay := range 9 {
		b := newBoth(t, api.Config{Seed: 2, Delay: delay, Window: 16})
		for range delay {
			b.step()
		}
		if _, e := b.step(); e != api.ErrWait {
			t.Fatalf("Delay %d: Step without an own input = %d", delay, e)
		}
		for i := range delay + 1 {
			if frame, e := b.offer(uint8(i)); frame != delay+i || e != api.OK {
				t.Fatalf("Delay %d: Offer = %d, %d", delay, frame, e)
			}
		}
		if frame, e := b.offer(0); frame != 0 || e != api.ErrThere {
			t.Fatalf("Delay %d: Offer = %d, %d, want ErrThere", delay, frame, e)
		}
		b.check()
	}
}

// P15.1: ErrWait, if the current frame is Window behind what is common, whatever the input, till more is heard; nothing is known by it.
func TestOfferWait(t *testing.T) {
	for _, config := range configs(3) {
		b := newBoth(t, config)
		b.play(bytes.Repeat([]byte{4}, config.Window+config.Delay)...)
		for heard := range 5 {
			for _, in := range []uint8{0, 63, 64, 255} {
				if frame, e := b.offer(in); frame != 0 || e != api.ErrWait {
					t.Fatalf("%v: Offer(%d) when %d are heard = %d, %d, want ErrWait", config, in, heard, frame, e)
				}
			}
			b.check()
			b.tell(0)
			b.play(1)
		}
	}
}

// P15.1: one frame less than Window behind what is common it may be offered still.
func TestOfferWithinWindow(t *testing.T) {
	for _, config := range configs(3) {
		b := newBoth(t, config)
		b.play(bytes.Repeat([]byte{4}, config.Window+config.Delay-1)...)
		if frame, e := b.offer(0); frame != config.Window+2*config.Delay-1 || e != api.OK {
			t.Fatalf("%v: Offer = %d, %d", config, frame, e)
		}
		b.check()
	}
}

// P15.1: ErrArg of each input that may not be, and nothing is known by it.
func TestOfferArg(t *testing.T) {
	for _, delay := range []int{0, 1, 8} {
		b := played(t, api.Config{Seed: 4, Delay: delay, Window: 3, Me: 1}, 5)
		for in := 64; in < 256; in++ {
			if frame, e := b.offer(uint8(in)); frame != 0 || e != api.ErrArg {
				t.Fatalf("Offer(%d) = %d, %d, want ErrArg", in, frame, e)
			}
			b.checkNumbers()
		}
		b.check()
		b.play(5)
	}
}

// full is a core that has played and kept so many own inputs as a feed may keep, of which so many aren't heard.
func full(t *testing.T, config api.Config, unheard int) both {
	t.Helper()
	b := newBoth(t, config)
	for b.c.Ours() < api.MaxFeed {
		b.play(uint8(b.c.Current() % 3))
		if b.c.Theirs() < api.MaxFeed-unheard {
			b.tell(0)
		}
	}
	return b
}

// P15.1: ErrFull, if MaxFeed own inputs are kept, till some are freed.
func TestOfferFull(t *testing.T) {
	for _, delay := range []int{0, 1, 8} {
		b := full(t, api.Config{Seed: 4, Delay: delay, Window: 16}, 2)
		if b.c.Current() != 64-delay {
			t.Fatalf("Current = %d", b.c.Current())
		}
		for range 3 {
			if frame, e := b.offer(0); frame != 0 || e != api.ErrFull {
				t.Fatalf("Offer = %d, %d, want ErrFull", frame, e)
			}
			b.check()
		}
		if frame, e := b.offer(64); frame != 0 || e != api.ErrArg {
			t.Fatalf("Offer(64) = %d, %d, want ErrArg, which the feed tells ahead of ErrFull", frame, e)
		}
		b.free(1)
		if frame, e := b.offer(3); frame != 64 || e != api.OK {
			t.Fatalf("Offer = %d, %d", frame, e)
		}
		b.check()
	}
}

// P15.1: ErrWait is told ahead of ErrFull and ErrArg, ErrThere ahead of both, too.
func TestOfferFirstError(t *testing.T) {
	waits := full(t, api.Config{Seed: 4, Window: 16}, 16)
	if waits.c.Current() != waits.c.Common()+16 || len(waits.c.Mine(0)) != api.MaxFeed {
		t.Fatalf("Current %d, Common %d", waits.c.Current(), waits.c.Common())
	}
	there := newBoth(t, api.Config{Seed: 4, Delay: 8, Window: 16})
	for there.c.Current() < 55 {
		there.play(0)
		there.tell(0)
	}
	there.offer(0)
	if there.c.Ours() != api.MaxFeed {
		t.Fatalf("Ours = %d", there.c.Ours())
	}
	for _, in := range []uint8{0, 63, 64, 255} {
		if frame, e := waits.offer(in); frame != 0 || e != api.ErrWait {
			t.Errorf("Offer(%d) = %d, %d, want ErrWait", in, frame, e)
		}
		if frame, e := there.offer(in); frame != 0 || e != api.ErrThere {
			t.Errorf("Offer(%d) = %d, %d, want ErrThere", in, frame, e)
		}
	}
	waits.check()
	there.check()
}

// P15.1: while a frame is wrong it may be offered all the same.
func TestOfferWhileWrong(t *testing.T) {
	b := played(t, api.Config{Seed: 4, Window: 4}, 0, 0)
	b.tell(1)
	if frame, e := b.offer(9); frame != 2 || e != api.OK {
		t.Errorf("Offer = %d, %d", frame, e)
	}
	b.check()
}

// P15.1: of the first frame that isn't known each input that may be is heard, and is the other one's alone.
func TestHear(t *testing.T) {
	for _, config := range configs(6) {
		b := newBoth(t, config)
		for i := range 64 - config.Delay {
			if e := b.hear(config.Delay+i, uint8(63-i)); e != api.OK {
				t.Fatalf("%v: Hear(%d) = %d", config, config.Delay+i, e)
			}
		}
		if b.c.Theirs() != 64 || b.c.Ours() != config.Delay || b.c.Common() != config.Delay || b.c.Settled() != -1 {
			t.Fatalf("%v: Theirs %d, Ours %d, Common %d, Settled %d", config, b.c.Theirs(), b.c.Ours(), b.c.Common(), b.c.Settled())
		}
		b.check()
	}
}

// P15.1: ErrOld of frames that are known, those ahead of Delay too, ErrOrder of those behind the first one that isn't, to the last frame there is.
func TestHearOldAndOrder(t *testing.T) {
	for _, config := range configs(6) {
		if config.Window != 1 && config.Window != 5 {
			continue
		}
		b := newBoth(t, config)
		for range 4 {
			next := b.c.Theirs()
			for frame := range next {
				for _, in := range []uint8{0, 9, 63} {
					if e := b.hear(frame, in); e != api.ErrOld {
						t.Fatalf("%v: Hear(%d, %d) ahead of %d = %d, want ErrOld", config, frame, in, next, e)
					}
				}
			}
			for _, frame := range []int{next + 1, next + 2, next + 64, 1 << 16, 1<<16 + next, api.MaxFrame - 1, api.MaxFrame} {
				if e := b.hear(frame, 9); e != api.ErrOrder {
					t.Fatalf("%v: Hear(%d) behind %d = %d, want ErrOrder", config, frame, next, e)
				}
			}
			b.check()
			b.tell(9)
		}
	}
}

// P15.1: ErrArg of inputs that may not be and of what is no frame, ahead of all else; nothing is known by it.
func TestHearArg(t *testing.T) {
	b := played(t, api.Config{Seed: 6, Delay: 2, Window: 4}, 1, 2)
	b.tell(7)
	for in := 64; in < 256; in++ {
		for _, frame := range append(noFrames(), 0, 2, 3, 4, api.MaxFrame) {
			if e := b.hear(frame, uint8(in)); e != api.ErrArg {
				t.Fatalf("Hear(%d, %d) = %d, want ErrArg", frame, in, e)
			}
		}
	}
	for _, frame := range noFrames() {
		for _, in := range []uint8{0, 63} {
			if e := b.hear(frame, in); e != api.ErrArg {
				t.Fatalf("Hear(%d, %d) = %d, want ErrArg", frame, in, e)
			}
		}
	}
	b.check()
}

// P15.1: ErrFull, if MaxFeed of the other one's inputs are kept, till some are freed.
func TestHearFull(t *testing.T) {
	for _, delay := range []int{0, 3, 8} {
		b := newBoth(t, api.Config{Seed: 6, Delay: delay, Window: 2, Me: 1})
		b.tell(make([]uint8, 64-delay)...)
		for range 3 {
			for frame, want := range map[int]api.Errno{63: api.ErrOld, 64: api.ErrFull, 65: api.ErrOrder} {
				if e := b.hear(frame, 5); e != want {
					t.Fatalf("Hear(%d) = %d, want %d", frame, e, want)
				}
			}
			b.check()
		}
		b.play(0, 0)
		b.free(math.MaxInt)
		b.tell(5, 6)
		if e := b.hear(66, 5); e != api.ErrFull {
			t.Fatalf("Hear = %d, want ErrFull", e)
		}
	}
}
