package link

import (
	"math"
	"slices"
	"testing"

	"promptbook/api"
)

// P16.1: Own of what comes next waits, from any first frame on; of an input at each end.
func TestOwn(t *testing.T) {
	for _, first := range firsts() {
		b := greeting(t, first)
		for i, in := range []uint8{0, 63, 1, 32, 62} {
			if e := b.own(first+i, in); e != api.OK || b.l.Waits() != i+1 || b.l.Acked() != first {
				t.Fatalf("Own(%d, %d) = %d, Waits = %d", first+i, in, e, b.l.Waits())
			}
		}
	}
}

// P16.1: ErrArg of each input above MaxInput; nothing waits by it.
func TestOwnArg(t *testing.T) {
	b := greeting(t, 4)
	for in := 64; in < 256; in++ {
		if e := b.own(4, uint8(in)); e != api.ErrArg {
			t.Errorf("Own(4, %d) = %d", in, e)
		}
	}
	b.owns(1)
}

// P16.1: ErrOrder of a frame ahead of what comes next, and behind it, by 1 and by as much as there is.
func TestOwnOrder(t *testing.T) {
	for _, first := range firsts() {
		for _, has := range []int{0, 1, 5, 63} {
			b := open(t, first, has)
			next := first + has
			for _, frame := range append(noFrames(), next-65536, next-2, next-1, next+1, next+2, next+65536, next+1<<32) {
				if frame == next {
					continue
				}
				if e := b.own(frame, 1); e != api.ErrOrder {
					t.Fatalf("Own(%d) where %d comes next = %d", frame, next, e)
				}
			}
			b.owns(1)
		}
	}
}

// P16.1: what comes next is behind all own inputs, acknowledged ones too.
func TestOwnBehindAcknowledged(t *testing.T) {
	for acked := range 6 {
		b := open(t, 20, 5)
		b.say(api.Msg{Kind: api.MsgAlive, Ack: uint16(20 + acked)})
		if b.l.Waits() != 5-acked {
			t.Fatalf("Waits = %d", b.l.Waits())
		}
		for frame := 19; frame < 25; frame++ {
			if e := b.own(frame, 1); e != api.ErrOrder {
				t.Errorf("Own(%d) = %d", frame, e)
			}
		}
		b.owns(1)
	}
}

// P16.1: ErrFull with MaxRun that wait; one that is acknowledged makes room for one.
func TestOwnFull(t *testing.T) {
	for _, first := range firsts() {
		b := open(t, first, 64)
		if e := b.own(first+64, 0); e != api.ErrFull || b.l.Waits() != 64 {
			t.Fatalf("Own = %d, Waits = %d", e, b.l.Waits())
		}
		if first+1 > api.MaxFrame {
			continue
		}
		b.say(api.Msg{Kind: api.MsgAlive, Ack: round(first + 1)})
		b.owns(1)
		if e := b.own(first+65, 0); e != api.ErrFull || b.l.Waits() != 64 {
			t.Fatalf("Own = %d, Waits = %d", e, b.l.Waits())
		}
	}
}

// P16.1: of several errors of Own the one that is named first.
func TestOwnFirstError(t *testing.T) {
	full, left := open(t, 7, 64), gone(t, 7, 64)
	for _, x := range []struct {
		b     both
		frame int
		in    uint8
		want  api.Errno
	}{
		{full, 71, 64, api.ErrArg}, {full, 70, 64, api.ErrArg}, {full, 72, 255, api.ErrArg}, {full, -1, 64, api.ErrArg},
		{full, 70, 63, api.ErrOrder}, {full, 72, 0, api.ErrOrder}, {full, -1, 0, api.ErrOrder}, {full, 71, 0, api.ErrFull},
		{left, 71, 64, api.ErrGone}, {left, 70, 64, api.ErrGone}, {left, 70, 0, api.ErrGone}, {left, 71, 0, api.ErrGone}, {gone(t, 7, 1), 8, 0, api.ErrGone},
	} {
		if e := x.b.own(x.frame, x.in); e != x.want {
			t.Errorf("Own(%d, %d) = %d, want %d", x.frame, x.in, e, x.want)
		}
	}
}

// P16.1: Report of a frame waits, and is sent once: MsgReport of its serial and its sum.
func TestReport(t *testing.T) {
	for _, frame := range firsts() {
		for _, sum := range []uint32{0, 1, 99, math.MaxUint32} {
			for _, b := range []both{greeting(t, 3), open(t, 3, 0), open(t, 3, 2)} {
				if e := b.report(frame, sum); e != api.OK {
					t.Fatalf("Report(%d, %d) = %d", frame, sum, e)
				}
				ms := b.tick(0)
				if len(ms) != 2 || ms[0].Kind != api.MsgReport || ms[0].Serial != round(frame) || ms[0].Sum != sum {
					t.Fatalf("Tick = %v", ms)
				}
				if ms := b.tick(0); len(ms) != 1 {
					t.Fatalf("Tick = %v", ms)
				}
			}
		}
	}
}

// P16.1: ErrArg of what is no frame; nothing waits by it.
func TestReportArg(t *testing.T) {
	for _, b := range []both{greeting(t, 3), open(t, 3, 0), open(t, api.MaxFrame, 3)} {
		for _, frame := range noFrames() {
			if e := b.report(frame, 5); e != api.ErrArg {
				t.Errorf("Report(%d) = %d", frame, e)
			}
		}
		if ms := b.tick(0); len(ms) != 1 {
			t.Errorf("Tick = %v", ms)
		}
	}
}

// P16.1: 8 wait, of whichever kind; behind a tick there is room for 8 again.
func TestReportFull(t *testing.T) {
	for hellos := range 9 {
		for _, b := range []both{greeting(t, 3), open(t, 3, 1)} {
			for round := range 3 {
				for i := range 8 {
					if i < hellos {
						b.say(api.Msg{Kind: api.MsgHello, Nonce: uint32(i)})
					} else if e := b.report(i+round, 7); e != api.OK {
						t.Fatalf("Report of the %d-th = %d", i, e)
					}
				}
				if e := b.report(99, 7); e != api.ErrFull {
					t.Fatalf("Report with 8 that wait = %d", e)
				}
				if ms := b.tick(0); len(ms) != 9 {
					t.Fatalf("Tick = %v", ms)
				}
			}
		}
	}
}

// P16.1: of several errors of Report the one that is named first.
func TestReportFirstError(t *testing.T) {
	full := open(t, 3, 0)
	for frame := range 8 {
		full.report(frame, 1)
	}
	for _, frame := range noFrames() {
		if e := full.report(frame, 1); e != api.ErrArg {
			t.Errorf("Report(%d) with 8 that wait = %d", frame, e)
		}
	}
	if e := full.report(0, 1); e != api.ErrFull {
		t.Errorf("Report(0) with 8 that wait = %d", e)
	}
	full.say(api.Msg{Kind: api.MsgBye})
	for _, frame := range append(noFrames(), 0, 1, api.MaxFrame) {
		if e := full.report(frame, 1); e != api.ErrGone {
			t.Errorf("Report(%d) of one that is gone = %d", frame, e)
		}
		if e := gone(t, 3, 0).report(frame, 1); e != api.ErrGone {
			t.Errorf("Report(%d) of one that is gone = %d", frame, e)
		}
	}
}

// P16.1: Bye of a link that greets, or is open, whatever waits: it is gone; good-bye is said once, and nothing else.
func TestBye(t *testing.T) {
	full := open(t, 3, 64)
	for frame := range 8 {
		full.report(frame, 1)
	}
	for i, b := range []both{greeting(t, 3), open(t, 3, 0), open(t, 3, 5), full} {
		b.ticks(i % 2)
		b.bye()
		if b.l.State() != api.LinkGone {
			t.Fatalf("State = %d", b.l.State())
		}
		b.bye()
		if ms := b.tick(0); !slices.Equal(kinds(ms), []int{api.MsgBye}) {
			t.Fatalf("Tick = %v", ms)
		}
		for range 20 {
			b.bye()
			if ms := b.tick(0); len(ms) != 0 {
				t.Fatalf("Tick = %v", ms)
			}
		}
	}
}

// P16.1: Bye of a link that is gone already, by the other one's good-bye or by its patience, says nothing.
func TestByeOfGone(t *testing.T) {
	impatient := newBoth(t, 1, 3, 0)
	impatient.report(1, 1)
	impatient.ticks(4)
	for _, b := range []both{gone(t, 3, 0), gone(t, 3, 5), impatient} {
		for range 10 {
			b.bye()
			if ms := b.tick(0); len(ms) != 0 || b.l.State() != api.LinkGone {
				t.Fatalf("Tick = %v, State = %d", ms, b.l.State())
			}
		}
	}
}

// P16.1: good-bye is said even where the patience ends at the tick that says it, or ended.
func TestByeAsPatienceEnds(t *testing.T) {
	for _, ahead := range []int{0, 1, 4, 5} {
		b := newBoth(t, 1, 5, 0)
		b.ticks(ahead)
		b.bye()
		if ms := b.tick(0); !slices.Equal(kinds(ms), []int{api.MsgBye}) {
			t.Fatalf("Tick = %v", ms)
		}
	}
}
