package core

import (
	"bytes"
	"testing"

	"promptbook/api"
	"promptbook/game"
)

// sides are Me's inputs and the other one's, frame by frame, by their players.
func sides(me int, own, other []uint8) [][2]uint8 {
	var l [][2]uint8
	for frame := range own {
		l = append(l, side(me, own[frame], other[frame]))
	}
	return l
}

// told holds pages, and the states behind them, against what the game tells by these inputs from frame 0 on.
func (b both) told(why string, pages []api.Page, from int, own, other []uint8) {
	b.t.Helper()
	want, states := truth(b.t, b.w.c.Seed, sides(b.w.c.Me, own, other))
	if !samePages(pages, want[from:]) {
		b.t.Fatalf("%s: %v, want %v", why, pages, want[from:])
	}
	for frame, state := range states {
		if got, ok := b.c.State(frame); ok && got != state {
			b.t.Fatalf("%s: State(%d) = %v, want %v", why, frame, got, state)
		}
	}
}

// P15.2: the chapter's example, with a Delay of 0: two steps are played, the third one waits.
func TestExample(t *testing.T) {
	for me := range 2 {
		c, e := New(api.Config{Window: 2, Me: me})
		if e != api.OK {
			t.Fatalf("New = %d", e)
		}
		for frame := range 2 {
			if _, e := c.Offer(0); e != api.OK {
				t.Fatalf("Offer = %d", e)
			}
			if page, e := c.Step(); page.Frame != frame || e != api.OK {
				t.Fatalf("Step = %v, %d", page, e)
			}
		}
		if page, e := c.Step(); page.Frame != 0 || page.Events != nil || e != api.ErrWait || c.Current() != 2 {
			t.Fatalf("the third Step = %v, %d, Current = %d", page, e, c.Current())
		}
	}
}

// P15.2: what is pressed is played Delay frames later, as Me's; of the other one the guess is used, 0 at first.
func TestStep(t *testing.T) {
	for _, config := range configs(8) {
		b := newBoth(t, config)
		many := config.Window + config.Delay
		own := make([]uint8, config.Delay, 2*many)
		var pages []api.Page
		for frame := range many {
			in := uint8(4 + 32*(frame%2) + 16*(frame%5/4))
			own = append(own, in)
			b.offer(in)
			page, e := b.step()
			if page.Frame != frame || e != api.OK || b.c.Current() != frame+1 {
				t.Fatalf("%v: Step = %v, %d, Current %d", config, page, e, b.c.Current())
			}
			pages = append(pages, page)
		}
		b.told("played ahead", pages, 0, own[:many], make([]uint8, many))
		b.check()
	}
}

// P15.2: what is known of the other one is played at its frame, whether it was heard just then or long ahead, and its last one behind it.
func TestStepKnown(t *testing.T) {
	for me := range 2 {
		b := newBoth(t, api.Config{Seed: 8, Window: 16, Me: me})
		heard := []uint8{32, 0, 16, 1, 2, 4}
		b.tell(heard...)
		var pages []api.Page
		own, other := make([]uint8, 12), append(heard, 4, 4, 4, 4, 4, 4)
		for frame := range own {
			own[frame] = uint8(frame % 4)
			b.offer(own[frame])
			page, e := b.step()
			if e != api.OK {
				t.Fatalf("Step = %d", e)
			}
			pages = append(pages, page)
		}
		b.told("known ahead", pages, 0, own, other)
		if b.c.Settled() != 5 || len(b.repair()) != 0 {
			t.Errorf("Settled = %d", b.c.Settled())
		}
	}
}

// P15.2: ErrWait, if the current frame is Window behind what is common; by each frame that is heard one more is played.
func TestStepWait(t *testing.T) {
	for _, config := range configs(9) {
		b := newBoth(t, config)
		b.play(bytes.Repeat([]byte{4}, config.Window+config.Delay)...)
		for heard := range 5 {
			for range 2 {
				if page, e := b.step(); page.Frame != 0 || page.Events != nil || e != api.ErrWait {
					t.Fatalf("%v: Step when %d are heard = %v, %d, want ErrWait", config, heard, page, e)
				}
			}
			if b.c.Current() != b.c.Common()+config.Window {
				t.Fatalf("%v: Current %d, Common %d", config, b.c.Current(), b.c.Common())
			}
			b.check()
			b.tell(0)
			b.play(1)
		}
	}
}

// P15.2: with a Delay an own input may be known of the current frame though it is Window behind what is common: it waits for that.
func TestStepWaitForCommonAlone(t *testing.T) {
	b := newBoth(t, api.Config{Seed: 9, Delay: 3, Window: 2})
	b.play(0, 0, 0, 0, 0)
	if b.c.Ours() <= b.c.Current() {
		t.Fatalf("Ours %d, Current %d", b.c.Ours(), b.c.Current())
	}
	if _, e := b.step(); e != api.ErrWait {
		t.Fatalf("Step = %d", e)
	}
	b.tell(0)
	if page, e := b.step(); page.Frame != 5 || e != api.OK {
		t.Fatalf("Step = %v, %d", page, e)
	}
}

// P15.2: ErrWait, if Me's own input isn't known for the current frame, however much of the other one is.
func TestStepWaitForOwn(t *testing.T) {
	for _, config := range configs(10) {
		b := newBoth(t, config)
		b.tell(make([]uint8, 20)...)
		for frame := range config.Delay {
			if page, e := b.step(); page.Frame != frame || e != api.OK {
				t.Fatalf("%v: Step = %v, %d", config, page, e)
			}
		}
		for range 3 {
			if page, e := b.step(); page.Frame != 0 || page.Events != nil || e != api.ErrWait || b.c.Current() != config.Delay {
				t.Fatalf("%v: Step = %v, %d, want ErrWait", config, page, e)
			}
		}
		b.check()
		b.play(32)
	}
}

// P15.2: a step that waits uses nothing: what is heard of that frame then isn't wrong.
func TestStepWaitUsesNothing(t *testing.T) {
	for _, config := range []api.Config{{Window: 1}, {Window: 2}, {Delay: 2, Window: 3, Me: 1}} {
		b := newBoth(t, config)
		b.play(make([]uint8, config.Window+config.Delay)...)
		if _, e := b.step(); e != api.ErrWait {
			t.Fatalf("%v: Step = %d", config, e)
		}
		for b.c.Theirs() < b.c.Current() {
			b.tell(0)
		}
		b.tell(9)
		if l := b.repair(); len(l) != 0 {
			t.Fatalf("%v: Repair = %v", config, l)
		}
	}
	own := newBoth(t, api.Config{Window: 2})
	own.step()
	own.tell(9)
	if l := own.repair(); len(l) != 0 || own.c.Settled() != -1 {
		t.Fatalf("Repair = %v, Settled = %d", l, own.c.Settled())
	}
}

// P15.2: ErrOrder while a frame is wrong, with no own input for the current one, too, till it is repaired.
func TestStepOrder(t *testing.T) {
	for _, known := range []bool{true, false} {
		for me := range 2 {
			b := played(t, api.Config{Seed: 11, Window: 4, Me: me}, 1, 1, 1)
			if known {
				b.offer(1)
			}
			b.tell(0, 9)
			for range 3 {
				if page, e := b.step(); page.Frame != 0 || page.Events != nil || e != api.ErrOrder {
					t.Fatalf("Step = %v, %d, want ErrOrder", page, e)
				}
				b.check()
			}
			b.tell(8)
			b.step()
			if l := b.repair(); len(l) != 2 || l[0].Frame != 1 || l[1].Frame != 2 {
				t.Fatalf("Repair = %v", l)
			}
			want := api.ErrWait
			if known {
				want = api.OK
			}
			if _, e := b.step(); e != want {
				t.Fatalf("Step = %d, want %d", e, want)
			}
		}
	}
}

// P15.2: the game's error at the last frame there is, to which the state is laid by hand, since no test has the time to play till there; ErrWait is told ahead of it, and nothing is used by it.
func TestStepLong(t *testing.T) {
	c, _ := New(api.Config{Seed: 11, Window: 4})
	last := game.Begin(11)
	last.Frame = api.MaxFrame
	c.states.Put(0, last)
	if page, e := c.Step(); page.Frame != 0 || page.Events != nil || e != api.ErrWait {
		t.Fatalf("Step without an own input = %v, %d, want ErrWait", page, e)
	}
	c.Offer(0)
	for range 3 {
		if page, e := c.Step(); page.Frame != 0 || page.Events != nil || e != api.ErrLong || c.Current() != 0 || c.Kept() != 1 {
			t.Fatalf("Step = %v, %d, want ErrLong, Current = %d, Kept = %d", page, e, c.Current(), c.Kept())
		}
	}
	c.Hear(0, 9)
	if _, e := c.Step(); e != api.ErrLong {
		t.Fatalf("Step = %d, want ErrLong", e)
	}
	if pages, e := c.Repair(); len(pages) != 0 || e != api.OK {
		t.Fatalf("Repair = %v, %d", pages, e)
	}
	if state, ok := c.State(0); state != last || !ok || c.Settled() != -1 {
		t.Fatalf("State(0) = %v, %t, Settled = %d", state, ok, c.Settled())
	}
}

// P15.2: from the first wrong frame on all that were played are played again, the known ones as they are known, those behind them by the last that is known.
func TestRepair(t *testing.T) {
	for _, x := range []struct {
		why   string
		heard []uint8
		from  int // 6: none
	}{
		{"none is heard", nil, 6},
		{"as guessed", []uint8{0, 0, 0}, 6},
		{"all as guessed", []uint8{0, 0, 0, 0, 0, 0}, 6},
		{"further than what was played", []uint8{0, 0, 0, 0, 0, 0, 32, 16}, 6},
		{"settled next", []uint8{32}, 0},
		{"settled next, the rest as guessed", []uint8{32, 0, 0, 0, 0, 0}, 0},
		{"in the midst", []uint8{0, 0, 32}, 2},
		{"in the midst, the rest as guessed", []uint8{0, 0, 32, 0, 0, 0}, 2},
		{"the last that was played", []uint8{0, 0, 0, 0, 0, 16}, 5},
		{"the last that was played, and more", []uint8{0, 0, 0, 0, 0, 16, 32, 1}, 5},
		{"the last but one", []uint8{0, 0, 0, 0, 32}, 4},
		{"several", []uint8{0, 32, 0, 16, 0}, 1},
		{"all", []uint8{32, 16, 1, 2, 4, 8}, 0},
	} {
		for me := range 2 {
			own := []uint8{4, 0, 16, 0, 32, 2}
			b := played(t, api.Config{Seed: 12, Window: 8, Me: me}, own...)
			b.tell(x.heard...)
			other := append([]uint8{}, x.heard...)
			for len(other) < 6 {
				other = append(other, append([]uint8{0}, x.heard...)[len(x.heard)])
			}
			pages := b.repair()
			if len(pages) != 6-x.from || b.c.Current() != 6 {
				t.Fatalf("%s: Repair = %v, Current = %d", x.why, pages, b.c.Current())
			}
			if x.from < 6 {
				b.told(x.why, pages, x.from, own, other[:6])
			}
			b.check()
			if again := b.repair(); len(again) != 0 {
				t.Fatalf("%s: Repair again = %v", x.why, again)
			}
			b.check()
			b.play(1)
		}
	}
}

// P15.2: a guess that was made anew by a repair may be wrong, too, and is repaired then.
func TestRepairAgain(t *testing.T) {
	own := []uint8{0, 0, 0, 0, 0}
	b := played(t, api.Config{Seed: 13, Window: 5, Me: 1}, own...)
	other := []uint8{32, 0, 0, 16, 16}
	for frame, want := range []int{5, 4, 0, 2, 0} {
		b.tell(other[frame])
		pages := b.repair()
		if len(pages) != want {
			t.Fatalf("Repair when %d are heard = %v, want %d pages", frame+1, pages, want)
		}
		now := bytes.Repeat(other[frame:frame+1], 5)
		copy(now, other[:frame])
		if want > 0 {
			b.told("again", pages, 5-want, own, now)
		}
		if b.c.Settled() != frame {
			t.Fatalf("Settled = %d", b.c.Settled())
		}
	}
}

// P15.2: with nothing played there is nothing to be repaired, whatever is heard; what was freed is not played again.
func TestRepairNone(t *testing.T) {
	for _, config := range configs(14) {
		b := newBoth(t, config)
		b.tell(63, 0, 5)
		if l := b.repair(); len(l) != 0 {
			t.Fatalf("%v: Repair = %v", config, l)
		}
	}
	b := played(t, api.Config{Seed: 14, Window: 6}, 0, 0, 0, 0)
	b.tell(0, 0)
	b.free(2)
	if l := b.repair(); len(l) != 0 {
		t.Fatalf("Repair = %v", l)
	}
	b.tell(16)
	if l := b.repair(); len(l) != 2 || l[0].Frame != 2 || len(l[0].Events) != 1 || l[0].Events[0].Key != (api.Key{Frame: 2, Emitter: 2, Kind: api.KindShot}) || l[1].Frame != 3 {
		t.Fatalf("Repair = %v", l)
	}
}

// P15.2: the third of the document's examples: with a Delay of 2 what is pressed at frame 0 is the input of frame 2; and the fifth: what was shot at frame 5 is heard at frame 9: 5 to 8 are played again.
func TestExamplesOfTheWhole(t *testing.T) {
	b := newBoth(t, api.Config{Seed: 15, Delay: 2, Window: 8})
	b.offer(api.InFire)
	for frame, want := range []int{0, 0, 1} {
		page, e := b.step()
		if len(page.Events) != want || e != api.OK {
			t.Fatalf("Step %d = %v, %d", frame, page, e)
		}
		b.offer(0)
	}
	b = newBoth(t, api.Config{Seed: 15, Window: 8})
	b.tell(0, 0, 0, 0, 0)
	b.play(make([]uint8, 9)...)
	b.tell(api.InFire)
	pages := b.repair()
	if len(pages) != 4 || pages[0].Frame != 5 || pages[3].Frame != 8 {
		t.Fatalf("Repair = %v", pages)
	}
	if l := pages[0].Events; len(l) != 1 || l[0].Key != (api.Key{Frame: 5, Emitter: 2, Kind: api.KindShot}) {
		t.Fatalf("events of frame 5: %v", l)
	}
}

// P15.2: what Step and Repair answer is new memory: to write into it, and behind its end, changes no other answer, nor what is told later.
func TestPagesAreNewMemory(t *testing.T) {
	b := newBoth(t, api.Config{Seed: 16, Window: 8})
	for range 4 {
		b.offer(4 + 16 + 32)
		page, _ := b.step()
		spoil([]api.Page{page})
		b.check()
	}
	b.tell(4 + 32)
	pages := b.repair()
	b.tell(16)
	other := b.repair()
	was := clone(other)
	if len(pages) != 4 || len(pages[0].Events) < 3 || len(other) != 3 {
		t.Fatalf("Repair = %v, then %v", pages, other)
	}
	spoil(pages)
	spoil(append(pages, pages...))
	if !samePages(other, was) {
		t.Errorf("another Repair = %v, was %v", other, was)
	}
	b.check()
	b.tell(1)
	b.repair()
	b.play(0)
	if !samePages(other, was) {
		t.Errorf("Repair of before = %v, was %v", other, was)
	}
	for i, page := range pages {
		if page.Frame != -9 {
			t.Errorf("page %d of before is %v", i, page)
		}
	}
}

// spoil writes into all of the pages, and into the room behind their events.
func spoil(pages []api.Page) {
	for i := range pages {
		l := pages[i].Events
		l = l[:cap(l)]
		for j := range l {
			l[j] = api.Event{Asset: -9}
		}
		pages[i].Frame = -9
	}
}

func clone(pages []api.Page) []api.Page {
	var l []api.Page
	for _, page := range pages {
		l = append(l, api.Page{Frame: page.Frame, Events: append([]api.Event{}, page.Events...)})
	}
	return l
}
