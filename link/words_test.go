package link

import (
	"bytes"
	"math"
	"slices"
	"testing"

	"promptbook/api"
	"promptbook/wire"
)

// strewn tells numbers from 0 up to below n, by a fixed rule.
type strewn uint32

func (s *strewn) below(n int) int {
	*s = *s*1664525 + 1013904223
	return int(uint64(*s) * uint64(n) >> 32)
}

// words is a link by the chapter's words said once more: all own inputs that ever were, and all that were ever told of the other end.
type words struct {
	nonce    uint32
	patience int
	first    int
	state    int
	bye      bool // it says good-bye, and hasn't yet
	own      []uint8
	acked    int // how many of them
	told     []uint8
	sending  []api.Msg
	ticks    int
	last     int // the tick behind which the last datagram was heard
	good     int
	bad      int
	stale    int
}

func newWords(nonce uint32, patience, first int) *words {
	return &words{nonce: nonce, patience: patience, first: first}
}

func (w *words) next() int {
	return w.first + len(w.told)
}

func (w *words) ackedFrame() int {
	return w.first + w.acked
}

func (w *words) waiting() []uint8 {
	return w.own[w.acked:]
}

func (w *words) addOwn(frame int, in uint8) api.Errno {
	switch {
	case w.state == 2:
		return api.ErrGone
	case in > 63:
		return api.ErrArg
	case frame != w.first+len(w.own):
		return api.ErrOrder
	case len(w.waiting()) == 64:
		return api.ErrFull
	}
	w.own = append(w.own, in)
	return api.OK
}

func (w *words) report(frame int, sum uint32) api.Errno {
	switch {
	case w.state == 2:
		return api.ErrGone
	case frame < 0 || frame > 1<<30:
		return api.ErrArg
	case len(w.sending) == 8:
		return api.ErrFull
	}
	w.sending = append(w.sending, api.Msg{Kind: 4, Serial: round(frame), Sum: sum})
	return api.OK
}

func (w *words) sayBye() {
	if w.state != 2 {
		w.state, w.bye = 2, true
	}
}

func (w *words) tick(lead int) []api.Msg {
	w.ticks++
	if w.state != 2 && w.ticks > w.last+w.patience {
		w.state = 2
	}
	if w.state == 2 {
		if w.bye {
			w.bye = false
			return []api.Msg{{Kind: 7}}
		}
		return nil
	}
	l := w.sending
	w.sending = nil
	if w.state == 0 {
		return append(l, api.Msg{Kind: 1, Nonce: w.nonce})
	}
	if len(w.waiting()) > 0 {
		l = append(l, api.Msg{Kind: 3, Serial: round(w.ackedFrame()), Ack: round(w.next()), Inputs: slices.Clone(w.waiting())})
	} else {
		l = append(l, api.Msg{Kind: 5, Ack: round(w.next())})
	}
	if w.ticks%8 == 0 {
		switch {
		case lead < -1000:
			lead = -1000
		case lead > 1000:
			lead = 1000
		}
		l = append(l, api.Msg{Kind: 6, Serial: round(w.next()), Lead: lead})
	}
	return l
}

func (w *words) hear(s string) (api.Heard, api.Errno) {
	if w.state == 2 {
		return api.Heard{}, api.ErrGone
	}
	m, e := wire.Unpack(s)
	if e != api.OK {
		w.bad++
		return api.Heard{}, e
	}
	w.last = w.ticks
	h, fresh := w.take(m)
	if !fresh {
		w.stale++
		return api.Heard{}, api.OK
	}
	w.good++
	h.Kind = m.Kind
	return h, api.OK
}

// take: what it brought, but its Kind; false, if it is stale.
func (w *words) take(m api.Msg) (api.Heard, bool) {
	open := w.state == 1
	switch m.Kind {
	case 1:
		if len(w.sending) < 8 {
			w.sending = append(w.sending, api.Msg{Kind: 2, Nonce: m.Nonce})
		}
		return api.Heard{}, true
	case 2:
		if m.Nonce == w.nonce {
			w.state = 1
		}
		return api.Heard{}, m.Nonce == w.nonce
	case 7:
		w.state = 2
		return api.Heard{}, true
	}
	if open && (m.Kind == 3 || m.Kind == 5) {
		if frame, ok := nearest(w.ackedFrame(), m.Ack); ok {
			for i := range len(w.own) + 1 {
				if i >= w.acked && w.first+i == frame {
					w.acked = i
				}
			}
		}
	}
	h := api.Heard{}
	switch {
	case open && m.Kind == 3:
		h.From = w.next()
		if frame, ok := nearest(w.next(), m.Serial); ok && frame <= w.next() {
			for i, in := range m.Inputs {
				if frame+i == w.next() {
					w.told = append(w.told, in)
					h.Inputs = append(h.Inputs, in)
				}
			}
		}
		return h, len(h.Inputs) > 0
	case open && m.Kind == 4:
		frame, ok := nearest(w.next(), m.Serial)
		return api.Heard{Frame: frame, Sum: m.Sum}, ok
	case open && m.Kind == 6:
		return api.Heard{Lead: m.Lead}, true
	}
	return h, open
}

// round: a frame modulo 65536.
func round(frame int) uint16 {
	return uint16(frame % 65536)
}

// nearest: the frame of that serial that is nearest to near, or to MaxFrame, if near is above it: of two the lesser one; false, if it is none.
func nearest(near int, s uint16) (int, bool) {
	if near > 1<<30 {
		near = 1 << 30
	}
	best := math.MinInt32
	for turn := near/65536 - 2; turn <= near/65536+2; turn++ {
		if frame := turn*65536 + int(s); apart(frame, near) < apart(best, near) {
			best = frame
		}
	}
	return best, best >= 0 && best <= 1<<30
}

func apart(a, b int) int {
	return max(a-b, b-a)
}

// both is a link, and its words: what is done to the one is done to the other, and what they answer is held against one another.
type both struct {
	t *testing.T
	l *Link
	w *words
}

func newBoth(t *testing.T, nonce uint32, patience, first int) both {
	t.Helper()
	l, e := New(nonce, patience, first)
	if l == nil || e != api.OK {
		t.Fatalf("New(%d, %d, %d) = %v, %d", nonce, patience, first, l, e)
	}
	b := both{t, l, newWords(nonce, patience, first)}
	b.check()
	return b
}

const (
	ownNonce   = 0x80000001
	otherNonce = 0x80000002
)

// greeting is a link that greets, from a first frame on.
func greeting(t *testing.T, first int) both {
	t.Helper()
	return newBoth(t, ownNonce, api.MostPatience, first)
}

// open is a link that is open, with so many own inputs that wait.
func open(t *testing.T, first, waits int) both {
	t.Helper()
	b := greeting(t, first)
	b.say(api.Msg{Kind: api.MsgWelcome, Nonce: ownNonce})
	b.owns(waits)
	if b.l.State() != api.LinkOpen {
		t.Fatalf("State = %d", b.l.State())
	}
	return b
}

// gone is a link that is gone since the other end said good-bye.
func gone(t *testing.T, first, waits int) both {
	t.Helper()
	b := open(t, first, waits)
	b.say(api.Msg{Kind: api.MsgBye})
	if b.l.State() != api.LinkGone {
		t.Fatalf("State = %d", b.l.State())
	}
	return b
}

// owns adds so many own inputs, which are to be taken.
func (b both) owns(n int) {
	b.t.Helper()
	for range n {
		frame := b.w.first + len(b.w.own)
		if e := b.own(frame, uint8((frame*7+3)%64)); e != api.OK {
			b.t.Fatalf("Own(%d) = %d", frame, e)
		}
	}
}

func (b both) own(frame int, in uint8) api.Errno {
	b.t.Helper()
	want := b.w.addOwn(frame, in)
	if e := b.l.Own(frame, in); e != want {
		b.t.Fatalf("Own(%d, %d) = %d, want %d", frame, in, e, want)
	}
	b.check()
	return want
}

func (b both) report(frame int, sum uint32) api.Errno {
	b.t.Helper()
	want := b.w.report(frame, sum)
	if e := b.l.Report(frame, sum); e != want {
		b.t.Fatalf("Report(%d, %d) = %d, want %d", frame, sum, e, want)
	}
	b.check()
	return want
}

func (b both) bye() {
	b.t.Helper()
	b.w.sayBye()
	b.l.Bye()
	b.check()
}

// tick answers what is sent, as datagrams.
func (b both) tick(lead int) []api.Msg {
	b.t.Helper()
	want := b.w.tick(lead)
	got := opened(b.t, b.l.Tick(lead))
	if !slices.EqualFunc(got, want, wire.Same) {
		b.t.Fatalf("Tick(%d) = %v, want %v", lead, got, want)
	}
	b.check()
	return got
}

func (b both) ticks(n int) {
	b.t.Helper()
	for range n {
		b.tick(0)
	}
}

func (b both) hear(s string) (api.Heard, api.Errno) {
	b.t.Helper()
	want, e := b.w.hear(s)
	got, f := b.l.Hear(s)
	if f != e || !sameHeard(got, want) {
		b.t.Fatalf("Hear(%q) = %v, %d, want %v, %d", s, got, f, want, e)
	}
	b.check()
	return got, f
}

// say has a datagram heard.
func (b both) say(m api.Msg) (api.Heard, api.Errno) {
	b.t.Helper()
	return b.hear(sealed(b.t, m))
}

// check asks all that a link answers without being changed.
func (b both) check() {
	b.t.Helper()
	for _, x := range []struct {
		name      string
		got, want int
	}{
		{"State", b.l.State(), b.w.state}, {"Next", b.l.Next(), b.w.next()}, {"Acked", b.l.Acked(), b.w.ackedFrame()},
		{"Waits", b.l.Waits(), len(b.w.waiting())}, {"Ticks", b.l.Ticks(), b.w.ticks},
	} {
		if x.got != x.want {
			b.t.Fatalf("%s = %d, want %d", x.name, x.got, x.want)
		}
	}
	if good, bad, stale := b.l.Counts(); good != b.w.good || bad != b.w.bad || stale != b.w.stale {
		b.t.Fatalf("Counts = %d, %d, %d, want %d, %d, %d", good, bad, stale, b.w.good, b.w.bad, b.w.stale)
	}
}

// sealed: a datagram's bytes.
func sealed(t *testing.T, m api.Msg) string {
	t.Helper()
	s, e := wire.Pack(m)
	if e != api.OK {
		t.Fatalf("Pack(%v) = %d", m, e)
	}
	return s
}

// opened: the datagrams whose bytes these are.
func opened(t *testing.T, l []string) []api.Msg {
	t.Helper()
	var ms []api.Msg
	for _, s := range l {
		m, e := wire.Unpack(s)
		if e != api.OK {
			t.Fatalf("Unpack(%q) = %d", s, e)
		}
		ms = append(ms, m)
	}
	return ms
}

// sameHeard: a nil list and an empty one are one.
func sameHeard(a, b api.Heard) bool {
	return a.Kind == b.Kind && a.From == b.From && bytes.Equal(a.Inputs, b.Inputs) && a.Frame == b.Frame && a.Sum == b.Sum && a.Lead == b.Lead
}

// isNothing: is it what is told of what is stale, and besides an error?
func isNothing(h api.Heard) bool {
	return sameHeard(h, api.Heard{})
}

// kinds: of datagrams.
func kinds(l []api.Msg) []int {
	var ks []int
	for _, m := range l {
		ks = append(ks, m.Kind)
	}
	return ks
}

func noFrames() []int {
	return []int{math.MinInt, math.MinInt + 1, -1 << 32, -api.MaxFrame, -65536, -2, -1, api.MaxFrame + 1, api.MaxFrame + 65536, 1 << 31, 1 << 32, math.MaxInt - 1, math.MaxInt}
}

// firsts: first frames at both ends, and about where serials begin again.
func firsts() []int {
	return []int{0, 1, 2, 8, 63, 64, 32767, 32768, 32769, 65470, 65535, 65536, 98304, 1 << 20, api.MaxFrame - 65536, api.MaxFrame - 200, api.MaxFrame - 64, api.MaxFrame - 63, api.MaxFrame - 2, api.MaxFrame - 1, api.MaxFrame}
}
