package link

import (
	"math"
	"slices"
	"testing"

	"promptbook/api"
	"promptbook/sum"
	"promptbook/wire"
)

// all is one datagram of each kind, such as a link that is open, from frame 3 on, with two that wait, takes.
func all() []api.Msg {
	return []api.Msg{
		{Kind: api.MsgHello, Nonce: 77},
		{Kind: api.MsgWelcome, Nonce: ownNonce},
		{Kind: api.MsgInputs, Serial: 3, Ack: 4, Inputs: []uint8{8, 9}},
		{Kind: api.MsgReport, Serial: 16, Sum: 1600},
		{Kind: api.MsgAlive, Ack: 5},
		{Kind: api.MsgQuality, Serial: 3, Lead: -7},
		{Kind: api.MsgBye},
	}
}

// P16.2: what is heard of each kind while it is open.
func TestHearOpen(t *testing.T) {
	for _, x := range []struct {
		m     api.Msg
		want  api.Heard
		state int
		next  int
		acked int
	}{
		{all()[0], api.Heard{Kind: 1}, 1, 3, 3},
		{all()[1], api.Heard{Kind: 2}, 1, 3, 3},
		{all()[2], api.Heard{Kind: 3, From: 3, Inputs: []uint8{8, 9}}, 1, 5, 4},
		{all()[3], api.Heard{Kind: 4, Frame: 16, Sum: 1600}, 1, 3, 3},
		{all()[4], api.Heard{Kind: 5}, 1, 3, 5},
		{all()[5], api.Heard{Kind: 6, Lead: -7}, 1, 3, 3},
		{all()[6], api.Heard{Kind: 7}, 2, 3, 3},
	} {
		b := open(t, 3, 2)
		h, e := b.say(x.m)
		if e != api.OK || !sameHeard(h, x.want) || b.l.State() != x.state || b.l.Next() != x.next || b.l.Acked() != x.acked || b.l.Waits() != 5-x.acked {
			t.Errorf("Hear of %v = %v, %d: %d, %d, %d", x.m, h, e, b.l.State(), b.l.Next(), b.l.Acked())
		}
		if good, bad, stale := b.l.Counts(); good != 2 || bad != 0 || stale != 0 {
			t.Errorf("Hear of %v: Counts = %d, %d, %d", x.m, good, bad, stale)
		}
	}
}

// P16.2: while it greets MsgHello, the own MsgWelcome and MsgBye are heard; all others are stale, and do nothing.
func TestHearGreets(t *testing.T) {
	for i, m := range all() {
		b := greeting(t, 3)
		b.owns(2)
		h, e := b.say(m)
		fresh := m.Kind == api.MsgHello || m.Kind == api.MsgWelcome || m.Kind == api.MsgBye
		want, state := api.Heard{}, []int{0, 1, 0, 0, 0, 0, 2}[i]
		if fresh {
			want.Kind = m.Kind
		}
		if e != api.OK || !sameHeard(h, want) || b.l.State() != state || b.l.Next() != 3 || b.l.Acked() != 3 || b.l.Waits() != 2 {
			t.Errorf("Hear of %v = %v, %d: %d", m, h, e, b.l.State())
		}
		if good, bad, stale := b.l.Counts(); good+stale != 1 || bad != 0 || (good == 1) != fresh {
			t.Errorf("Hear of %v: Counts = %d, %d, %d", m, good, bad, stale)
		}
	}
}

// P16.2: while it is gone nothing is heard, and nothing counted: ErrGone, of bytes that are none as well.
func TestHearGone(t *testing.T) {
	said, impatient := open(t, 3, 2), newBoth(t, ownNonce, 1, 3)
	said.bye()
	impatient.ticks(2)
	for _, b := range []both{gone(t, 3, 2), said, impatient} {
		good, bad, stale := b.l.Counts()
		var l []string
		for _, m := range all() {
			l = append(l, sealed(t, m))
		}
		for _, s := range append(l, "", "xx", "nothing of the kind") {
			if h, e := b.hear(s); !isNothing(h) || e != api.ErrGone {
				t.Errorf("Hear(%q) = %v, %d", s, h, e)
			}
		}
		if g, b, s := b.l.Counts(); g != good || b != bad || s != stale {
			t.Errorf("Counts = %d, %d, %d, were %d, %d, %d", g, b, s, good, bad, stale)
		}
	}
	// Good-bye is still owed, and nothing else.
	if ms := said.tick(0); !slices.Equal(kinds(ms), []int{api.MsgBye}) {
		t.Errorf("Tick = %v", ms)
	}
}

// P16.2: a MsgWelcome of the own nonce opens, of each other one it is stale and does nothing, whether it is open or not.
func TestHearWelcome(t *testing.T) {
	nonces := []uint32{0, 1, 0x80000000, ownNonce, otherNonce, math.MaxUint32}
	for _, own := range nonces {
		for _, nonce := range nonces {
			b := newBoth(t, own, 10, 0)
			for range 3 {
				h, e := b.say(api.Msg{Kind: api.MsgWelcome, Nonce: nonce})
				if e != api.OK || (own == nonce) != (h.Kind == api.MsgWelcome) || (own == nonce) != (b.l.State() == api.LinkOpen) {
					t.Fatalf("Hear of a welcome of %d by %d = %v, %d", nonce, own, h, e)
				}
			}
			b.say(api.Msg{Kind: api.MsgWelcome, Nonce: own})
			if h, _ := b.say(api.Msg{Kind: api.MsgWelcome, Nonce: nonce}); (own == nonce) != (h.Kind == api.MsgWelcome) || b.l.State() != api.LinkOpen {
				t.Fatalf("Hear of a welcome of %d by %d, open = %v", nonce, own, h)
			}
		}
	}
}

// P16.2: each MsgHello is answered by one MsgWelcome of its nonce, as long as fewer than 8 wait; beyond that it is heard, and not answered.
func TestHearHello(t *testing.T) {
	for _, b := range []both{greeting(t, 3), open(t, 3, 0), open(t, 3, 2)} {
		for reports := range 9 {
			for frame := range reports {
				b.report(frame, 1)
			}
			for i := range 12 {
				if h, e := b.say(api.Msg{Kind: api.MsgHello, Nonce: uint32(100 + i)}); e != api.OK || !sameHeard(h, api.Heard{Kind: api.MsgHello}) {
					t.Fatalf("Hear of the %d-th hello = %v, %d", i, h, e)
				}
			}
			ms := b.tick(0)
			for i := reports; i < 8; i++ {
				if ms[i].Kind != api.MsgWelcome || ms[i].Nonce != uint32(100+i-reports) {
					t.Fatalf("Tick = %v", ms)
				}
			}
			if ms[8].Kind == api.MsgWelcome || ms[8].Kind == api.MsgReport {
				t.Fatalf("Tick = %v", ms)
			}
		}
	}
}

// acks: what tells an Ack: with MsgAlive, with new inputs, with stale ones behind a gap, and with stale ones that were heard.
func acks(first int, ack uint16) []api.Msg {
	return []api.Msg{
		{Kind: api.MsgAlive, Ack: ack},
		{Kind: api.MsgInputs, Serial: round(first), Ack: ack, Inputs: []uint8{1}},
		{Kind: api.MsgInputs, Serial: round(first + 9), Ack: ack, Inputs: []uint8{1}},
		{Kind: api.MsgInputs, Serial: round(first + 65535), Ack: ack, Inputs: []uint8{1}},
	}
}

// P16.2: an Ack ahead of the first one that waits, and behind the last one and 1, does nothing; at the first one nothing either; within, and at the last one and 1, those ahead of it are acknowledged.
func TestAck(t *testing.T) {
	for _, first := range []int{0, 1, 5, 32767, 32768, 65470, 65535, 65536, 98304, api.MaxFrame - 65536, api.MaxFrame - 200} {
		for _, waits := range []int{0, 1, 2, 5, 63, 64} {
			for _, gap := range []int{-40000, -32769, -32768, -32767, -66, -65, -2, -1, 0, 1, 2, 4, 5, 6, 7, 62, 63, 64, 65, 66, 1000, 32767, 32768, 32769, 65535} {
				for _, m := range acks(first, uint16(first+gap)) {
					b := open(t, first, waits)
					b.say(m)
					want := 0
					if gap >= 1 && gap <= waits {
						want = gap
					}
					if b.l.Acked() != first+want || b.l.Waits() != waits-want {
						t.Fatalf("first %d, %d wait, %v: Acked = %d, Waits = %d", first, waits, m, b.l.Acked(), b.l.Waits())
					}
				}
			}
		}
	}
}

// P16.2: acknowledged ones stay so; Acks that come late, and again, do nothing; what waits is then sent from there on.
func TestAckLate(t *testing.T) {
	b := open(t, 65530, 20)
	for _, ack := range []int{3, 2, 3, 0, 1, 10, 9, 3, 20, 10, 0, 21, 20} {
		b.say(api.Msg{Kind: api.MsgAlive, Ack: round(65530 + ack)})
		b.tick(0)
	}
	if b.l.Acked() != 65550 || b.l.Waits() != 0 {
		t.Fatalf("Acked = %d, Waits = %d", b.l.Acked(), b.l.Waits())
	}
	b.owns(3)
	b.say(api.Msg{Kind: api.MsgAlive, Ack: round(65552)})
	if ms := b.tick(0); ms[0].Serial != round(65552) || len(ms[0].Inputs) != 1 {
		t.Fatalf("Tick = %v", ms)
	}
}

// P16.2: an Ack in the frames about MaxFrame: those ahead of a frame that there is are acknowledged; no frame is behind MaxFrame.
func TestAckNearMaxFrame(t *testing.T) {
	for _, back := range []int{0, 1, 2, 5, 63, 64} {
		first := api.MaxFrame - back
		for gap := -3; gap <= 70; gap++ {
			b := open(t, first, 64)
			b.say(api.Msg{Kind: api.MsgAlive, Ack: round(first + gap)})
			want := 0
			if gap >= 1 && gap <= back && gap <= 64 {
				want = gap
			}
			if b.l.Acked() != first+want || b.l.Waits() != 64-want {
				t.Fatalf("first %d, Ack of %d: Acked = %d, Waits = %d", first, first+gap, b.l.Acked(), b.l.Waits())
			}
		}
	}
}

// P16.2: inputs that begin ahead of NEXT, at it, or behind it, and whose last one is ahead of it, at it, or behind it: new are those from NEXT on, if none is missing; else it is stale.
func TestInputs(t *testing.T) {
	for _, next := range []int{70, 32768, 65535, 65540, 98304, api.MaxFrame - 65536, api.MaxFrame - 200} {
		for begin := -66; begin <= 3; begin++ {
			for _, n := range []int{1, 2, 3, 5, 62, 63, 64} {
				b := open(t, next, 1)
				var ins []uint8
				for i := range n {
					ins = append(ins, uint8(i%64))
				}
				h, e := b.say(api.Msg{Kind: api.MsgInputs, Serial: round(next + begin), Ack: round(next), Inputs: ins})
				fresh := begin <= 0 && begin+n > 0
				want, end := api.Heard{}, next
				if fresh {
					end = next + begin + n
					want = api.Heard{Kind: api.MsgInputs, From: next, Inputs: ins[-begin:]}
				}
				if e != api.OK || !sameHeard(h, want) || b.l.Next() != end {
					t.Fatalf("NEXT %d, from %d on, %d of them: %v, %d, Next = %d", next, begin, n, h, e, b.l.Next())
				}
				if good, _, stale := b.l.Counts(); good+stale != 2 || (good == 2) != fresh {
					t.Fatalf("NEXT %d, from %d on, %d of them: %d good, %d stale", next, begin, n, good, stale)
				}
			}
		}
	}
}

// P16.2: inputs whose frame is none are stale: below 0, and above MaxFrame; so are those far from NEXT.
func TestInputsOfNoFrame(t *testing.T) {
	for _, x := range []struct {
		next   int
		serial uint16
	}{
		{0, 65535}, {0, 65473}, {2, 65535}, {2, 65534}, {40, 65530}, {5, 32773}, {5, 32772}, {70000, round(70000 + 32768)}, {70000, round(70000 - 32768)}, {70000, round(70000 - 65)},
		{api.MaxFrame, 1}, {api.MaxFrame, 2}, {api.MaxFrame - 1, 1}, {api.MaxFrame - 1, 0},
	} {
		b := open(t, x.next, 0)
		for _, n := range []int{1, 64} {
			if h, e := b.say(api.Msg{Kind: api.MsgInputs, Serial: x.serial, Inputs: make([]uint8, n)}); !isNothing(h) || e != api.OK || b.l.Next() != x.next {
				t.Errorf("NEXT %d, serial %d: %v, %d", x.next, x.serial, h, e)
			}
		}
	}
}

// P16.2: inputs about MaxFrame: where NEXT is above it they are near MaxFrame, and new as elsewhere.
func TestInputsNearMaxFrame(t *testing.T) {
	for begin := -70; begin <= 3; begin++ {
		for _, n := range []int{1, 2, 10, 64} {
			b := open(t, api.MaxFrame-1, 0)
			// NEXT is MaxFrame and 4 behind it.
			b.say(api.Msg{Kind: api.MsgInputs, Serial: 65535, Inputs: []uint8{1, 2, 3, 4, 5}})
			if b.l.Next() != api.MaxFrame+4 {
				t.Fatalf("Next = %d", b.l.Next())
			}
			h, _ := b.say(api.Msg{Kind: api.MsgInputs, Serial: uint16(begin), Inputs: make([]uint8, n)})
			if fresh := begin <= 0 && begin+n > 4; fresh != (h.Kind == api.MsgInputs) || fresh && (h.From != api.MaxFrame+4 || len(h.Inputs) != begin+n-4) {
				t.Fatalf("from %d on, %d of them: %v", begin, n, h)
			}
		}
	}
}

// P16.2: a report's frame is the nearest to NEXT, or to MaxFrame where NEXT is above that, the lesser of two; where that is none it is stale.
func TestHearReport(t *testing.T) {
	for _, x := range []struct {
		next   int
		serial uint16
		frame  int // -1: none
	}{
		{0, 0, 0}, {0, 1, 1}, {0, 32767, 32767}, {0, 32768, -1}, {0, 65535, -1}, {5, 65535, -1}, {5, 32772, 32772}, {5, 32773, -1}, {32768, 0, 0}, {32768, 65535, 65535}, {32767, 65535, -1},
		{70000, 5, 65541}, {70000, 4464, 70000}, {70000, 4463, 69999}, {70000, 65535, 65535}, {70000, 37231, 102767}, {70000, 37232, 37232}, {70000, 37233, 37233},
		{api.MaxFrame, 0, api.MaxFrame}, {api.MaxFrame, 1, -1}, {api.MaxFrame, 65535, api.MaxFrame - 1}, {api.MaxFrame, 32768, api.MaxFrame - 32768}, {api.MaxFrame, 32767, -1},
		{api.MaxFrame - 1, 0, api.MaxFrame}, {api.MaxFrame - 1, 1, -1}, {api.MaxFrame - 1, 32767, api.MaxFrame - 32769},
	} {
		b := open(t, x.next, 0)
		checkReport(b, x.serial, x.frame)
		// Reports of any frame and order are told, as often as they come.
		checkReport(b, x.serial, x.frame)
	}
}

// checkReport has a report heard, whose frame is to be that one; below 0 it is to be stale.
func checkReport(b both, serial uint16, frame int) {
	b.t.Helper()
	_, _, before := b.l.Counts()
	want := api.Heard{}
	if frame >= 0 {
		want = api.Heard{Kind: api.MsgReport, Frame: frame, Sum: math.MaxUint32}
	}
	if h, e := b.say(api.Msg{Kind: api.MsgReport, Serial: serial, Sum: math.MaxUint32}); e != api.OK || !sameHeard(h, want) {
		b.t.Fatalf("NEXT %d: report of serial %d: %v, %d, want %v", b.l.Next(), serial, h, e, want)
	}
	if _, _, stale := b.l.Counts(); (stale > before) != (frame < 0) {
		b.t.Fatalf("NEXT %d: report of serial %d: %d stale, were %d", b.l.Next(), serial, stale, before)
	}
}

// P16.2: reports where NEXT is above MaxFrame are near MaxFrame, not near NEXT.
func TestHearReportAboveMaxFrame(t *testing.T) {
	for above := 1; above < 64; above++ {
		b := open(t, api.MaxFrame, 0)
		b.say(api.Msg{Kind: api.MsgInputs, Serial: 0, Inputs: make([]uint8, above)})
		if b.l.Next() != api.MaxFrame+above {
			t.Fatalf("Next = %d", b.l.Next())
		}
		for serial, frame := range map[uint16]int{0: api.MaxFrame, 1: -1, 64: -1, 65535: api.MaxFrame - 1, 32768: api.MaxFrame - 32768, 32767: -1, 32769: api.MaxFrame - 32767} {
			checkReport(b, serial, frame)
		}
	}
}

// P16.2: of MsgQuality its Lead is told, whatever its Serial.
func TestHearQuality(t *testing.T) {
	for _, lead := range []int{-1000, -999, -1, 0, 1, 999, 1000} {
		for _, serial := range []uint16{0, 1, 9, 32768, 65535} {
			b := open(t, 3, 1)
			if h, e := b.say(api.Msg{Kind: api.MsgQuality, Serial: serial, Lead: lead}); e != api.OK || !sameHeard(h, api.Heard{Kind: api.MsgQuality, Lead: lead}) {
				t.Errorf("Hear of a lead of %d = %v, %d", lead, h, e)
			}
		}
	}
}

// P16.2: MsgBye of a link that greets or is open: it is gone, and says nothing more.
func TestHearBye(t *testing.T) {
	for _, b := range []both{greeting(t, 3), open(t, 3, 0), open(t, 3, 4)} {
		b.report(1, 1)
		if h, e := b.say(api.Msg{Kind: api.MsgBye}); e != api.OK || !sameHeard(h, api.Heard{Kind: api.MsgBye}) || b.l.State() != api.LinkGone {
			t.Errorf("Hear of MsgBye = %v, %d", h, e)
		}
		if ms := b.tick(0); len(ms) != 0 {
			t.Errorf("Tick = %v", ms)
		}
	}
}

// noDatagrams are bytes that are none, of each of wire's errors.
func noDatagrams(t *testing.T) map[string]api.Errno {
	t.Helper()
	l := map[string]api.Errno{
		"": api.ErrShort, "x": api.ErrShort, "xxx": api.ErrShort, "xxxx": api.ErrSum, "nothing of the kind": api.ErrSum,
		sum.Seal(""): api.ErrForm, sum.Seal("P"): api.ErrForm, sum.Seal("P\x00"): api.ErrForm, sum.Seal("P\x08"): api.ErrForm, sum.Seal("Q\x07"): api.ErrForm, sum.Seal("P\x07\x00"): api.ErrForm,
	}
	for _, m := range all() {
		s := sealed(t, m)
		turned := []byte(s)
		turned[len(s)-1] ^= 1
		l[string(turned)] = api.ErrSum
		l[s+"\x00"] = api.ErrSum
	}
	return l
}

// P16.2: bytes that are no datagram: wire's error, whether it greets or is open; they are bad, and do nothing else.
func TestHearBad(t *testing.T) {
	for s, want := range noDatagrams(t) {
		if _, e := wire.Unpack(s); e != want {
			t.Fatalf("Unpack(%q) = %d", s, e)
		}
		for _, b := range []both{greeting(t, 3), open(t, 3, 0), open(t, 3, 2)} {
			b.report(4, 4)
			good, bad, stale := b.l.Counts()
			if h, e := b.hear(s); !isNothing(h) || e != want {
				t.Errorf("Hear(%q) = %v, %d, want %d", s, h, e, want)
			}
			if g, c, d := b.l.Counts(); g != good || c != bad+1 || d != stale {
				t.Errorf("Hear(%q): Counts = %d, %d, %d, were %d, %d, %d", s, g, c, d, good, bad, stale)
			}
			b.tick(0)
		}
	}
}

// P16.2: Counts counts each datagram once, as good, as bad, or as stale, and calls that fail otherwise not at all.
func TestCounts(t *testing.T) {
	b := greeting(t, 3)
	good, bad, stale := 0, 0, 0
	want := func() {
		t.Helper()
		if g, c, d := b.l.Counts(); g != good || c != bad || d != stale {
			t.Fatalf("Counts = %d, %d, %d, want %d, %d, %d", g, c, d, good, bad, stale)
		}
	}
	for range 3 {
		b.say(api.Msg{Kind: api.MsgAlive, Ack: 3})
		stale++
		want()
		b.say(api.Msg{Kind: api.MsgHello})
		good++
		want()
		b.hear("bad")
		bad++
		want()
	}
	b.say(api.Msg{Kind: api.MsgWelcome, Nonce: ownNonce})
	good++
	for i := range 5 {
		m := api.Msg{Kind: api.MsgInputs, Serial: round(3 + i), Ack: 3, Inputs: []uint8{1}}
		b.say(m)
		good++
		want()
		b.say(m)
		stale++
		want()
		b.say(api.Msg{Kind: api.MsgAlive, Ack: 9999})
		good++
		want()
		b.own(99, 99)
		b.report(-1, 0)
		b.tick(0)
		want()
	}
	b.say(api.Msg{Kind: api.MsgBye})
	good++
	b.say(api.Msg{Kind: api.MsgBye})
	b.hear("bad")
	want()
}
