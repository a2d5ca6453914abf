package core

import (
	"testing"

	"promptbook/api"
	"promptbook/game"
)

// pressed draws an input: mostly the one that was held till now, as players do.
func (s *strewn) pressed(held uint8) uint8 {
	if s.below(4) > 0 {
		return held
	}
	return uint8(s.below(64))
}

// drawnConfig draws one that may be.
func drawnConfig(s *strewn) api.Config {
	return api.Config{Seed: uint32(s.below(1000)), Delay: s.below(9), Window: 1 + s.below(16), Me: s.below(2)}
}

// drawn does one drawn thing; most are such as a session does. Where it hoards, hardly anything is freed.
func drawn(s *strewn, b both, held *[2]uint8, hoards bool) {
	b.t.Helper()
	switch n := s.below(32); {
	case n < 8:
		held[0] = s.pressed(held[0])
		b.offer(held[0])
	case n < 16:
		b.step()
	case n < 23:
		held[1] = s.pressed(held[1])
		b.hear(b.c.Theirs(), held[1])
	case n < 28:
		b.repair()
	case n == 28:
		b.offer(uint8(s.below(256)))
	case n == 29:
		b.hear(b.c.Theirs()-2+s.below(5), uint8(s.below(80)))
	case n == 30 && !hoards:
		b.free(b.c.Settled() - 3 + s.below(6))
	case n == 31 && !hoards:
		b.free(b.c.Settled())
	}
}

// P15.1 to P15.3: drawn calls of all kinds, held against the chapter's words said once more.
func TestByTurns(t *testing.T) {
	for seed := range 40 {
		s := strewn(seed)
		b := newBoth(t, drawnConfig(&s))
		held := [2]uint8{}
		for range 500 {
			drawn(&s, b, &held, seed%3 == 0)
			b.check()
		}
	}
}

// P15.1 to P15.3: the drawn calls come by all that the promises tell apart.
func TestByTurnsHasAll(t *testing.T) {
	var offers, hears, steps [16]int
	repaired, freed := 0, 0
	for seed := range 40 {
		s := strewn(seed)
		b := newBoth(t, drawnConfig(&s))
		held := [2]uint8{}
		for range 500 {
			drawn(&s, b, &held, seed%3 == 0)
			// Asked of the words alone, copies of which nothing is done to.
			w := *b.w
			_, e := w.offer(0)
			offers[e]++
			w = *b.w
			hears[w.put(1-w.c.Me, len(w.known[1-w.c.Me]), 0)]++
			w = *b.w
			_, e = w.step()
			steps[e]++
			if from, wrong := b.w.wrong(); wrong && from < b.w.current()-1 {
				repaired++
			}
			if b.w.first > 0 && b.w.first <= b.w.settled() {
				freed++
			}
		}
	}
	for what, n := range map[string]int{
		"offered": offers[api.OK], "offered too far ahead": offers[api.ErrWait], "offered again": offers[api.ErrThere], "offered with no room": offers[api.ErrFull],
		"heard": hears[api.OK], "heard with no room": hears[api.ErrFull],
		"stepped": steps[api.OK], "stepped while wrong": steps[api.ErrOrder], "stepped and waited": steps[api.ErrWait], "several to be repaired": repaired, "some freed": freed,
	} {
		if n < 50 {
			t.Errorf("%s: %d times", what, n)
		}
	}
}

// session is a core, what was told last of each frame, and what is known of both, kept by what the calls answered alone.
type session struct {
	t       *testing.T
	c       *Core
	config  api.Config
	told    map[int]api.Page
	known   [2][]uint8
	settled int
	state   api.State // behind the settled frames, by the game
}

func newSession(t *testing.T, config api.Config) *session {
	t.Helper()
	c, e := New(config)
	if e != api.OK {
		t.Fatalf("New(%v) = %d", config, e)
	}
	return &session{t, c, config, map[int]api.Page{}, [2][]uint8{make([]uint8, config.Delay), make([]uint8, config.Delay)}, -1, game.Begin(config.Seed)}
}

func (x *session) offer(in uint8) {
	x.t.Helper()
	if frame, e := x.c.Offer(in); e == api.OK {
		if frame != len(x.known[x.config.Me]) {
			x.t.Fatalf("Offer = %d, want %d", frame, len(x.known[x.config.Me]))
		}
		x.known[x.config.Me] = append(x.known[x.config.Me], in)
	}
}

func (x *session) hear(in uint8) {
	other := 1 - x.config.Me
	if x.c.Hear(len(x.known[other]), in) == api.OK {
		x.known[other] = append(x.known[other], in)
	}
}

func (x *session) step() {
	if page, e := x.c.Step(); e == api.OK {
		x.tell(page)
	}
}

func (x *session) repair() {
	pages, _ := x.c.Repair()
	for _, page := range pages {
		x.tell(page)
	}
}

func (x *session) tell(page api.Page) {
	x.t.Helper()
	if page.Frame <= x.settled {
		x.t.Fatalf("frame %d is played again, settled to %d", page.Frame, x.settled)
	}
	x.told[page.Frame] = page
}

// check: settled frames stay so, and of each what was told last is what the game tells, played from the beginning with what is known.
func (x *session) check() {
	x.t.Helper()
	settled := x.c.Settled()
	if settled < x.settled {
		x.t.Fatalf("%v: Settled was %d, is %d", x.config, x.settled, settled)
	}
	for x.settled < settled {
		x.settled++
		next, events, e := game.Step(x.state, [2]uint8{x.known[0][x.settled], x.known[1][x.settled]})
		page, played := x.told[x.settled]
		if e != api.OK || !played || !samePages([]api.Page{page}, []api.Page{{Frame: x.settled, Events: events}}) {
			x.t.Fatalf("%v: told of frame %d %v, %t, want %v", x.config, x.settled, page, played, events)
		}
		x.state = next
	}
	if state, ok := x.c.State(settled + 1); state != x.state || !ok {
		x.t.Fatalf("%v: the state behind the settled ones at %d = %v, %t, want %v", x.config, settled+1, state, ok, x.state)
	}
	if x.c.Current() > x.c.Common()+x.config.Window {
		x.t.Fatalf("%v: Current = %d, Common = %d", x.config, x.c.Current(), x.c.Common())
	}
}

// P15.4: over drawn lists of calls what was told last of each settled frame is what the game tells, and stays settled.
func TestSettledIsTrue(t *testing.T) {
	settled, events := 0, 0
	for seed := range 200 {
		s := strewn(1000 + seed)
		x := newSession(t, drawnConfig(&s))
		held := [2]uint8{}
		for range 1500 {
			switch n := s.below(16); {
			case n < 4:
				held[0] = s.pressed(held[0])
				x.offer(held[0])
			case n < 8:
				x.step()
			case n < 12:
				held[1] = s.pressed(held[1])
				x.hear(held[1])
			case n < 15:
				x.repair()
			default:
				x.c.Free(x.c.Settled() - 2 + s.below(6))
			}
			x.check()
		}
		settled += x.settled
		for _, page := range x.told {
			events += len(page.Events)
		}
	}
	if settled < 20000 || events < 2000 {
		t.Errorf("%d frames were settled, %d events told", settled, events)
	}
}

// P15.4: with all that may go of the settled ones freed there are never more than Window and 1 states; with those ahead of the settled one alone 1 more, that one's own.
func TestKeptAtMost(t *testing.T) {
	for _, config := range configs(31) {
		for _, stays := range []int{0, 1} {
			s := strewn(config.Window*100 + config.Delay)
			x := newSession(t, config)
			most := 0
			for turn := range 400 {
				x.offer(uint8(s.below(64)))
				x.step()
				// At times nothing is heard for long, so that it is played as far ahead as may be.
				if turn%60 > 30 && s.below(3) > 0 {
					x.hear(uint8(s.below(2)))
				}
				if s.below(3) > 0 {
					x.repair()
				}
				x.c.Free(x.c.Settled() + 1 - stays)
				most = max(most, x.c.Kept())
				x.check()
			}
			if most != config.Window+1+stays {
				t.Fatalf("%v: at most %d states, the settled one kept: %d", config, most, stays)
			}
		}
	}
}

// P15.4: two cores, each Me of one player, that tell one another their own inputs late, settle the same frames in the same way.
func TestTwoCores(t *testing.T) {
	for seed := range 40 {
		s := strewn(2000 + seed)
		config := drawnConfig(&s)
		var sides [2]*session
		for me := range sides {
			config.Me = me
			sides[me] = newSession(t, config)
		}
		sums := [2]map[int]uint32{{}, {}}
		held := [2]uint8{}
		for range 1200 {
			me := s.below(2)
			x, other := sides[me], sides[1-me]
			if s.below(3) == 0 {
				for i, in := range other.c.Mine(x.c.Theirs()) {
					x.known[1-me] = append(x.known[1-me], in)
					if e := x.c.Hear(x.c.Theirs(), in); e != api.OK {
						t.Fatalf("Hear of the %d-th = %d", i, e)
					}
				}
			}
			x.repair()
			held[me] = s.pressed(held[me])
			x.offer(held[me])
			x.step()
			x.check()
			sum, ok := x.c.Sum(x.c.Settled() + 1)
			if !ok {
				t.Fatal("no sum behind the settled ones")
			}
			sums[me][x.c.Settled()+1] = sum
			// Own inputs are kept till the other one has heard them.
			x.c.Free(min(x.c.Settled(), other.c.Theirs()))
		}
		same := 0
		for frame, sum := range sums[0] {
			if other, ok := sums[1][frame]; ok {
				if other != sum {
					t.Fatalf("%v: the sums at frame %d are unlike", config, frame)
				}
				same++
			}
		}
		if same < 5 || sides[0].settled < 100 {
			t.Fatalf("%v: %d sums held against one another, settled to %d", config, same, sides[0].settled)
		}
	}
}
