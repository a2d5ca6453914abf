package link

import (
	"math"
	"slices"
	"testing"

	"promptbook/api"
)

// P16.1: each patience and each first frame that may be make a link, which greets.
func TestNew(t *testing.T) {
	for _, patience := range []int{1, 2, 100, 9999, 10000} {
		for _, first := range firsts() {
			for _, nonce := range []uint32{0, 1, math.MaxUint32} {
				b := newBoth(t, nonce, patience, first)
				if b.l.State() != 0 || b.l.Next() != first || b.l.Acked() != first || b.l.Waits() != 0 || b.l.Ticks() != 0 {
					t.Fatalf("New(%d, %d, %d): %d, %d, %d, %d, %d", nonce, patience, first, b.l.State(), b.l.Next(), b.l.Acked(), b.l.Waits(), b.l.Ticks())
				}
				if e := b.own(first, 63); e != api.OK {
					t.Fatalf("Own(%d) = %d", first, e)
				}
			}
		}
	}
}

// P16.1: ErrArg, and no link, beyond each end of patience and first frame, of one of them and of both.
func TestNewArg(t *testing.T) {
	patiences := []int{math.MinInt, -1 << 32, -10000, -1, 0, 10001, 10002, 65537, 1<<32 + 1, math.MaxInt}
	for _, patience := range patiences {
		for _, first := range append(firsts(), noFrames()...) {
			if l, e := New(1, patience, first); l != nil || e != api.ErrArg {
				t.Errorf("New(1, %d, %d) = %v, %d", patience, first, l, e)
			}
		}
	}
	for _, first := range noFrames() {
		for _, patience := range []int{1, 100, 10000} {
			if l, e := New(1, patience, first); l != nil || e != api.ErrArg {
				t.Errorf("New(1, %d, %d) = %v, %d", patience, first, l, e)
			}
		}
	}
}

// P16.2: the example: a new link ticks: one datagram, MsgHello, of its nonce.
func TestExample(t *testing.T) {
	l, _ := New(12345, 100, 2)
	ms := opened(t, l.Tick(0))
	if len(ms) != 1 || ms[0].Kind != api.MsgHello || ms[0].Nonce != 12345 {
		t.Errorf("Tick = %v", ms)
	}
}

// P16.1: two links have nothing in common.
func TestLinksApart(t *testing.T) {
	one, other := open(t, 5, 3), open(t, 5, 1)
	one.report(7, 70)
	other.owns(2)
	one.say(api.Msg{Kind: api.MsgInputs, Serial: 5, Ack: 7, Inputs: []uint8{1, 2}})
	other.check()
	other.tick(0)
	one.tick(0)
	other.bye()
	one.check()
	one.tick(0)
	other.tick(0)
}

// P16.1, P16.2: all calls of a nil link, whatever they are handed.
func TestNil(t *testing.T) {
	var l *Link
	frames := append(noFrames(), 0, 1, api.MaxFrame)
	for _, frame := range frames {
		for _, in := range []uint8{0, 1, 63, 64, 255} {
			if e := l.Own(frame, in); e != api.ErrNil {
				t.Errorf("Own(%d, %d) = %d", frame, in, e)
			}
		}
		if e := l.Report(frame, 9); e != api.ErrNil {
			t.Errorf("Report(%d) = %d", frame, e)
		}
		if sent := l.Tick(frame); len(sent) != 0 {
			t.Errorf("Tick(%d) = %v", frame, sent)
		}
	}
	l.Bye()
	for _, s := range []string{"", "xx", sealed(t, api.Msg{Kind: api.MsgHello, Nonce: 1}), sealed(t, api.Msg{Kind: api.MsgBye})} {
		if h, e := l.Hear(s); !isNothing(h) || e != api.ErrNil {
			t.Errorf("Hear(%q) = %v, %d", s, h, e)
		}
	}
	if l.State() != api.LinkGone || l.Next() != 0 || l.Acked() != 0 || l.Waits() != 0 || l.Ticks() != 0 {
		t.Errorf("%d, %d, %d, %d, %d", l.State(), l.Next(), l.Acked(), l.Waits(), l.Ticks())
	}
	if good, bad, stale := l.Counts(); good != 0 || bad != 0 || stale != 0 {
		t.Errorf("Counts = %d, %d, %d", good, bad, stale)
	}
}

// P16.2: what is answered is new memory.
func TestNewMemory(t *testing.T) {
	b := open(t, 3, 4)
	s := sealed(t, api.Msg{Kind: api.MsgInputs, Serial: 1, Ack: 3, Inputs: []uint8{1, 2, 3, 4, 5}})
	h, _ := b.hear(s)
	inputs := h.Inputs
	if !slices.Equal(inputs, []uint8{3, 4, 5}) {
		t.Fatalf("Hear = %v", h)
	}
	for i := range inputs {
		inputs[i] = 60
	}
	_ = append(inputs, 61, 62)
	b.check()
	sent := b.l.Tick(0)
	b.w.tick(0)
	for i := range sent {
		sent[i] = "turned"
	}
	b.tick(0)
	b.say(api.Msg{Kind: api.MsgInputs, Serial: 6, Ack: 5, Inputs: []uint8{9}})
}
