package link

import (
	"math"
	"slices"
	"testing"

	"promptbook/api"
)

// P16.2: each tick while it greets sends MsgHello of the nonce, and nothing else, own inputs or not, whatever the ticks.
func TestTickGreets(t *testing.T) {
	for _, nonce := range []uint32{0, 1, ownNonce, math.MaxUint32} {
		b := newBoth(t, nonce, 10000, 6)
		for i := range 40 {
			if ms := b.tick(i); len(ms) != 1 || ms[0].Kind != api.MsgHello || ms[0].Nonce != nonce {
				t.Fatalf("Tick = %v", ms)
			}
			if b.l.Ticks() != i+1 {
				t.Fatalf("Ticks = %d", b.l.Ticks())
			}
			b.owns(1)
		}
	}
}

// P16.2: while it is open with inputs that wait: all of them, each tick again, with the serial of the first one, and of NEXT.
func TestTickInputs(t *testing.T) {
	for _, first := range firsts() {
		for _, n := range []int{1, 2, 63, 64} {
			b := open(t, first, n)
			b.say(api.Msg{Kind: api.MsgInputs, Serial: round(first), Ack: round(first), Inputs: []uint8{1, 2, 3}})
			for range 3 {
				ms := b.tick(0)
				if len(ms) != 1 || ms[0].Kind != api.MsgInputs || ms[0].Serial != round(first) || ms[0].Ack != round(first+3) || !slices.Equal(ms[0].Inputs, b.w.own) {
					t.Fatalf("Tick = %v", ms)
				}
			}
			if n < 2 || first+1 > api.MaxFrame {
				continue
			}
			b.say(api.Msg{Kind: api.MsgAlive, Ack: round(first + 1)})
			if ms := b.tick(0); ms[0].Serial != round(first+1) || !slices.Equal(ms[0].Inputs, b.w.own[1:]) {
				t.Fatalf("Tick = %v", ms)
			}
		}
	}
}

// P16.2: while it is open and none waits: MsgAlive with the serial of NEXT.
func TestTickAlive(t *testing.T) {
	for _, first := range firsts() {
		b := open(t, first, 0)
		for heard := range 7 {
			if ms := b.tick(0); len(ms) != 1 || ms[0].Kind != api.MsgAlive || ms[0].Ack != round(first+heard) {
				t.Fatalf("Tick = %v", ms)
			}
			// Near MaxFrame frames above it are reached from one that isn't.
			from := min(b.l.Next(), api.MaxFrame)
			b.say(api.Msg{Kind: api.MsgInputs, Serial: round(from), Ack: round(first), Inputs: make([]uint8, b.l.Next()-from+1)})
		}
	}
}

// P16.2: while it is gone a tick counts, and sends nothing, whatever waits and whatever the ticks.
func TestTickGone(t *testing.T) {
	for _, waits := range []int{0, 3, 64} {
		b := open(t, 4, waits)
		b.report(1, 1)
		b.say(api.Msg{Kind: api.MsgHello, Nonce: 9})
		b.say(api.Msg{Kind: api.MsgBye})
		for i := range 20 {
			if ms := b.tick(i); len(ms) != 0 || b.l.Ticks() != i+1 {
				t.Fatalf("Tick = %v, Ticks = %d", ms, b.l.Ticks())
			}
		}
	}
}

// P16.2: the patience, from the beginning on: it is gone at the tick behind as many as it tells, which sends nothing more, and not ahead of that.
func TestPatience(t *testing.T) {
	for _, patience := range []int{1, 2, 3, 7, 8, 100, 9999, 10000} {
		for _, isOpen := range []bool{false, true} {
			b := newBoth(t, ownNonce, patience, 0)
			if isOpen {
				b.say(api.Msg{Kind: api.MsgWelcome, Nonce: ownNonce})
				b.owns(1)
			}
			b.report(1, 1)
			b.ticks(patience)
			if b.l.State() == api.LinkGone || b.l.Ticks() != patience {
				t.Fatalf("patience %d: State = %d, Ticks = %d", patience, b.l.State(), b.l.Ticks())
			}
			if ms := b.tick(0); len(ms) != 0 || b.l.State() != api.LinkGone {
				t.Fatalf("patience %d: Tick = %v, State = %d", patience, ms, b.l.State())
			}
		}
	}
}

// P16.2: each datagram that is heard begins the patience anew, good or stale; bytes that are none don't, nor does what the own side does.
func TestPatienceAnew(t *testing.T) {
	hello, alive := api.Msg{Kind: api.MsgHello, Nonce: 1}, api.Msg{Kind: api.MsgAlive}
	for _, patience := range []int{1, 2, 5, 50} {
		for ahead := range patience + 1 {
			for _, x := range []struct {
				what string
				do   func(b both)
				anew bool
			}{
				{"good", func(b both) { b.say(hello) }, true},
				{"stale", func(b both) { b.say(alive) }, true},
				{"own welcome", func(b both) { b.say(api.Msg{Kind: api.MsgWelcome, Nonce: ownNonce}) }, true},
				{"other welcome", func(b both) { b.say(api.Msg{Kind: api.MsgWelcome, Nonce: otherNonce}) }, true},
				{"bad", func(b both) { b.hear("nothing of the kind") }, false},
				{"nothing", func(b both) { b.hear("") }, false},
				{"own", func(b both) { b.owns(1); b.report(1, 1) }, false},
			} {
				b := newBoth(t, ownNonce, patience, 3)
				b.ticks(ahead)
				x.do(b)
				more := patience - ahead
				if x.anew {
					more = patience
				}
				b.ticks(more)
				if b.l.State() == api.LinkGone {
					t.Fatalf("%s at tick %d, patience %d: it is gone at tick %d", x.what, ahead, patience, b.l.Ticks())
				}
				if b.ticks(1); b.l.State() != api.LinkGone {
					t.Fatalf("%s at tick %d, patience %d: it isn't gone at tick %d", x.what, ahead, patience, b.l.Ticks())
				}
			}
		}
	}
}

// P16.2: MsgQuality at each tick that is a multiple of QualityTicks, while it is open, and at no other: as it counts from the beginning on, not from when it was open.
func TestQualityTicks(t *testing.T) {
	for ahead := range 20 {
		b := greeting(t, 3)
		for range ahead {
			if ms := b.tick(1); len(ms) != 1 {
				t.Fatalf("Tick = %v", ms)
			}
		}
		b.say(api.Msg{Kind: api.MsgWelcome, Nonce: ownNonce})
		b.owns(ahead % 3)
		for range 40 {
			ms := b.tick(5)
			want := 1
			if b.l.Ticks()%8 == 0 {
				want = 2
			}
			if len(ms) != want || want == 2 && (ms[1].Kind != api.MsgQuality || ms[1].Serial != 3 || ms[1].Lead != 5) {
				t.Fatalf("tick %d: %v", b.l.Ticks(), ms)
			}
		}
	}
}

// P16.2: the lead that is told is the one that is handed, held at -1000 and at 1000; with the serial of NEXT.
func TestQualityLead(t *testing.T) {
	for _, first := range firsts() {
		for _, x := range [][2]int{
			{0, 0}, {1, 1}, {-1, -1}, {999, 999}, {1000, 1000}, {1001, 1000}, {1002, 1000}, {65536, 1000}, {1 << 32, 1000}, {math.MaxInt, 1000},
			{-999, -999}, {-1000, -1000}, {-1001, -1000}, {-1002, -1000}, {-65536, -1000}, {-1 << 32, -1000}, {math.MinInt, -1000},
		} {
			b := open(t, first, 0)
			b.say(api.Msg{Kind: api.MsgInputs, Serial: round(first), Ack: round(first), Inputs: []uint8{1, 2}})
			b.ticks(7)
			ms := b.tick(x[0])
			if len(ms) != 2 || ms[1].Kind != api.MsgQuality || ms[1].Lead != x[1] || ms[1].Serial != round(first+2) {
				t.Fatalf("Tick(%d) = %v", x[0], ms)
			}
		}
	}
}

// P16.2: the order of what a tick sends: what waits, in the order in which it came to wait; inputs or MsgAlive; MsgQuality. While it greets MsgHello is last.
func TestTickOrder(t *testing.T) {
	for _, waits := range []int{0, 4} {
		b := open(t, 3, waits)
		b.ticks(7)
		b.report(9, 1)
		b.say(api.Msg{Kind: api.MsgHello, Nonce: 5})
		b.report(8, 2)
		b.say(api.Msg{Kind: api.MsgHello, Nonce: 4})
		ms := b.tick(2)
		talk := api.MsgAlive
		if waits > 0 {
			talk = api.MsgInputs
		}
		if !slices.Equal(kinds(ms), []int{api.MsgReport, api.MsgWelcome, api.MsgReport, api.MsgWelcome, talk, api.MsgQuality}) {
			t.Fatalf("Tick = %v", ms)
		}
		if ms[0].Serial != 9 || ms[0].Sum != 1 || ms[1].Nonce != 5 || ms[2].Serial != 8 || ms[2].Sum != 2 || ms[3].Nonce != 4 {
			t.Fatalf("Tick = %v", ms)
		}
	}
	b := greeting(t, 3)
	b.ticks(7)
	b.say(api.Msg{Kind: api.MsgHello, Nonce: 5})
	b.report(9, 1)
	if ms := b.tick(2); !slices.Equal(kinds(ms), []int{api.MsgWelcome, api.MsgReport, api.MsgHello}) {
		t.Fatalf("Tick = %v", ms)
	}
}
