package core

import (
	"bytes"
	"math"
	"reflect"
	"testing"

	"promptbook/api"
	"promptbook/freeze"
	"promptbook/game"
)

// strewn tells numbers from 0 up to below n, by a fixed rule.
type strewn uint32

func (s *strewn) below(n int) int {
	*s = *s*1664525 + 1013904223
	return int(uint64(*s) * uint64(n) >> 32)
}

// words is a core by the chapter's words said once more: all that was ever known and used, and all states, each as it was last played.
type words struct {
	c      api.Config
	known  [2][]uint8 // from frame 0 on
	used   [][2]uint8 // of the frames that were played
	states []api.State
	first  int // the first frame that is kept
}

func newWords(c api.Config) *words {
	w := &words{c: c, states: []api.State{game.Begin(c.Seed)}}
	for who := range 2 {
		w.known[who] = make([]uint8, c.Delay)
	}
	return w
}

func (w *words) current() int {
	return len(w.used)
}

func (w *words) isCommon(frame int) bool {
	return frame < len(w.known[0]) && frame < len(w.known[1])
}

func (w *words) common() int {
	frame := 0
	for w.isCommon(frame) {
		frame++
	}
	return frame
}

func (w *words) wrong() (int, bool) {
	for frame, in := range w.used {
		if l := w.known[1-w.c.Me]; frame < len(l) && in[1-w.c.Me] != l[frame] {
			return frame, true
		}
	}
	return 0, false
}

func (w *words) settled() int {
	settled := -1
	for frame, in := range w.used {
		if !w.isCommon(frame) || in != [2]uint8{w.known[0][frame], w.known[1][frame]} {
			break
		}
		settled = frame
	}
	return settled
}

func (w *words) put(who, frame int, in uint8) api.Errno {
	switch next := len(w.known[who]); {
	case in > 63 || frame < 0 || frame > 1<<30:
		return api.ErrArg
	case frame < next:
		return api.ErrOld
	case frame > next:
		return api.ErrOrder
	case next-w.first == 64:
		return api.ErrFull
	}
	w.known[who] = append(w.known[who], in)
	return api.OK
}

func (w *words) offer(in uint8) (int, api.Errno) {
	frame := len(w.known[w.c.Me])
	if w.current()-w.common() >= w.c.Window {
		return 0, api.ErrWait
	}
	if frame-w.current() > w.c.Delay {
		return 0, api.ErrThere
	}
	if e := w.put(w.c.Me, frame, in); e != api.OK {
		return 0, e
	}
	return frame, api.OK
}

func (w *words) play(frame int) api.Page {
	var in [2]uint8
	for who, l := range w.known {
		switch {
		case frame < len(l):
			in[who] = l[frame]
		case len(l) > 0:
			in[who] = l[len(l)-1]
		}
	}
	next, events, e := game.Step(w.states[frame], in)
	if e != api.OK {
		panic("no frame that the game plays")
	}
	w.used = append(w.used[:frame], in)
	w.states = append(w.states[:frame+1], next)
	return api.Page{Frame: frame, Events: events}
}

func (w *words) repair() []api.Page {
	var pages []api.Page
	end := w.current()
	for frame, wrong := w.wrong(); wrong && frame < end; frame++ {
		pages = append(pages, w.play(frame))
	}
	return pages
}

func (w *words) step() (api.Page, api.Errno) {
	if _, wrong := w.wrong(); wrong {
		return api.Page{}, api.ErrOrder
	}
	if w.current()-w.common() >= w.c.Window || w.current() >= len(w.known[w.c.Me]) {
		return api.Page{}, api.ErrWait
	}
	return w.play(w.current()), api.OK
}

func (w *words) state(frame int) (api.State, bool) {
	if frame < w.first || frame > w.current() {
		return api.State{}, false
	}
	return w.states[frame], true
}

func (w *words) free(frame int) int {
	gone := 0
	for w.first < frame && w.first <= w.settled() {
		w.first++
		gone++
	}
	return gone
}

func (w *words) mine(frame int) []uint8 {
	var l []uint8
	for i, in := range w.known[w.c.Me] {
		if i >= w.first && i >= frame {
			l = append(l, in)
		}
	}
	return l
}

// both is a core, and its words: what is done to the one is done to the other, and what they answer is held against one another.
type both struct {
	t *testing.T
	c *Core
	w *words
}

func newBoth(t *testing.T, c api.Config) both {
	t.Helper()
	n, e := New(c)
	if n == nil || e != api.OK {
		t.Fatalf("New(%v) = %v, %d", c, n, e)
	}
	return both{t, n, newWords(c)}
}

// played is a core of a config that has played so many frames, of each the input pressed at it by Me, nothing heard.
func played(t *testing.T, c api.Config, pressed ...uint8) both {
	t.Helper()
	b := newBoth(t, c)
	b.play(pressed...)
	return b
}

// play offers and plays, which is to be taken.
func (b both) play(pressed ...uint8) {
	b.t.Helper()
	for _, in := range pressed {
		if _, e := b.offer(in); e != api.OK {
			b.t.Fatalf("Offer(%d) = %d", in, e)
		}
		if _, e := b.step(); e != api.OK {
			b.t.Fatalf("Step = %d", e)
		}
	}
	b.check()
}

// tell has the other one's next inputs heard, which is to be taken.
func (b both) tell(ins ...uint8) {
	b.t.Helper()
	for _, in := range ins {
		if e := b.hear(b.c.Theirs(), in); e != api.OK {
			b.t.Fatalf("Hear(%d, %d) = %d", b.c.Theirs(), in, e)
		}
	}
	b.check()
}

func (b both) offer(in uint8) (int, api.Errno) {
	b.t.Helper()
	want, e := b.w.offer(in)
	if frame, got := b.c.Offer(in); frame != want || got != e {
		b.t.Fatalf("Offer(%d) = %d, %d, want %d, %d", in, frame, got, want, e)
	}
	return want, e
}

func (b both) hear(frame int, in uint8) api.Errno {
	b.t.Helper()
	want := b.w.put(1-b.w.c.Me, frame, in)
	if e := b.c.Hear(frame, in); e != want {
		b.t.Fatalf("Hear(%d, %d) = %d, want %d", frame, in, e, want)
	}
	return want
}

func (b both) repair() []api.Page {
	b.t.Helper()
	want := b.w.repair()
	pages, e := b.c.Repair()
	if e != api.OK || !samePages(pages, want) {
		b.t.Fatalf("Repair = %v, %d, want %v", pages, e, want)
	}
	return pages
}

func (b both) step() (api.Page, api.Errno) {
	b.t.Helper()
	want, e := b.w.step()
	page, got := b.c.Step()
	if got != e || !samePages([]api.Page{page}, []api.Page{want}) {
		b.t.Fatalf("Step = %v, %d, want %v, %d", page, got, want, e)
	}
	return page, got
}

func (b both) free(frame int) int {
	b.t.Helper()
	want := b.w.free(frame)
	if got := b.c.Free(frame); got != want {
		b.t.Fatalf("Free(%d) = %d, want %d", frame, got, want)
	}
	return want
}

// check asks a core all that it answers without being changed.
func (b both) check() {
	b.t.Helper()
	b.checkNumbers()
	for _, frame := range b.frames() {
		want, kept := b.w.state(frame)
		if state, ok := b.c.State(frame); state != want || ok != kept {
			b.t.Fatalf("State(%d) = %v, %t, want %v, %t", frame, state, ok, want, kept)
		}
		sum := uint32(0)
		if kept {
			sum, _ = freeze.Sum(want)
		}
		if got, ok := b.c.Sum(frame); got != sum || ok != kept {
			b.t.Fatalf("Sum(%d) = %d, %t, want %d, %t", frame, got, ok, sum, kept)
		}
		if l := b.c.Mine(frame); !bytes.Equal(l, b.w.mine(frame)) {
			b.t.Fatalf("Mine(%d) = %v, want %v", frame, l, b.w.mine(frame))
		}
	}
}

func (b both) checkNumbers() {
	b.t.Helper()
	for _, x := range []struct {
		name      string
		got, want int
	}{
		{"Current", b.c.Current(), b.w.current()}, {"Common", b.c.Common(), b.w.common()}, {"Settled", b.c.Settled(), b.w.settled()},
		{"Kept", b.c.Kept(), b.w.current() - b.w.first + 1}, {"Theirs", b.c.Theirs(), len(b.w.known[1-b.w.c.Me])}, {"Ours", b.c.Ours(), len(b.w.known[b.w.c.Me])},
	} {
		if x.got != x.want {
			b.t.Fatalf("%s = %d, want %d", x.name, x.got, x.want)
		}
	}
}

// frames are those that are kept, some about both ends of them, and the furthest there are.
func (b both) frames() []int {
	first, last := b.w.first, max(b.w.current(), len(b.w.known[0]), len(b.w.known[1]))
	l := append(noFrames(), 0, 1, first-64, last+63, last+64, api.MaxFrame-1, api.MaxFrame)
	for frame := first - 2; frame <= last+2; frame++ {
		l = append(l, frame)
	}
	return l
}

func noFrames() []int {
	return []int{math.MinInt, math.MinInt + 1, -1 << 32, -api.MaxFrame, -2, -1, api.MaxFrame + 1, 1 << 31, 1 << 32, math.MaxInt - 1, math.MaxInt}
}

// samePages: a nil list and an empty one are one.
func samePages(a, b []api.Page) bool {
	if len(a) != len(b) {
		return false
	}
	for i := range a {
		if a[i].Frame != b[i].Frame || len(a[i].Events) != len(b[i].Events) {
			return false
		}
		if len(a[i].Events) > 0 && !reflect.DeepEqual(a[i].Events, b[i].Events) {
			return false
		}
	}
	return true
}

// truth is what the game tells from its beginning on, by both players' inputs: the events of each frame, and the state ahead of each and behind the last.
func truth(t *testing.T, seed uint32, ins [][2]uint8) ([]api.Page, []api.State) {
	t.Helper()
	var pages []api.Page
	states := []api.State{game.Begin(seed)}
	for frame, in := range ins {
		next, events, e := game.Step(states[frame], in)
		if e != api.OK {
			t.Fatalf("the game at frame %d: %d", frame, e)
		}
		pages = append(pages, api.Page{Frame: frame, Events: events})
		states = append(states, next)
	}
	return pages, states
}

// configs are all that may be, of a seed.
func configs(seed uint32) []api.Config {
	var l []api.Config
	for delay := range 9 {
		for window := 1; window <= 16; window++ {
			for me := range 2 {
				l = append(l, api.Config{Seed: seed, Delay: delay, Window: window, Me: me})
			}
		}
	}
	return l
}

// side puts an input of Me and one of the other one by their players.
func side(me int, own, other uint8) [2]uint8 {
	in := [2]uint8{other, own}
	if me == 0 {
		in = [2]uint8{own, other}
	}
	return in
}
