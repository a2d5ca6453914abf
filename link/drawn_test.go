package link

import (
	"bytes"
	"math"
	"testing"

	"promptbook/api"
)

// drawnMsg draws a datagram of any kind, mostly near to what a link expects.
func drawnMsg(s *strewn, w *words) api.Msg {
	nonces := []uint32{ownNonce, ownNonce, otherNonce, uint32(s.below(5))}
	inputs := make([]uint8, 1+s.below(8))
	if s.below(8) == 0 {
		inputs = make([]uint8, 1+s.below(64))
	}
	for i := range inputs {
		inputs[i] = uint8(s.below(64))
	}
	near := func(frame int) uint16 {
		switch s.below(8) {
		case 0:
			return uint16(s.below(65536))
		case 1:
			return uint16(frame - 70 + s.below(140))
		}
		return uint16(frame - 4 + s.below(6))
	}
	ack := near(w.ackedFrame() + s.below(len(w.waiting())+2))
	switch s.below(12) {
	case 0:
		return api.Msg{Kind: api.MsgHello, Nonce: nonces[s.below(4)]}
	case 1:
		return api.Msg{Kind: api.MsgWelcome, Nonce: nonces[s.below(4)]}
	case 2, 3:
		return api.Msg{Kind: api.MsgReport, Serial: near(w.next()), Sum: uint32(s.below(1 << 30))}
	case 4, 5:
		return api.Msg{Kind: api.MsgAlive, Ack: ack}
	case 6:
		return api.Msg{Kind: api.MsgQuality, Serial: near(w.next()), Lead: s.below(2001) - 1000}
	}
	return api.Msg{Kind: api.MsgInputs, Serial: near(w.next()), Ack: ack, Inputs: inputs}
}

// drawn does one drawn thing to a link.
func drawn(s *strewn, b both) {
	b.t.Helper()
	next := b.w.first + len(b.w.own)
	switch n := s.below(400); {
	case n < 60:
		b.tick(s.below(3000) - 1500)
	case n < 160:
		b.own(next, uint8(s.below(64)))
	case n < 180:
		b.own(next-3+s.below(6), uint8(s.below(80)))
	case n < 210:
		b.report(s.below(1<<20)-10, uint32(s.below(1<<30)))
	case n < 225:
		bad := []byte(sealed(b.t, drawnMsg(s, b.w)))
		bad[s.below(len(bad))] ^= byte(1 + s.below(255))
		b.hear(string(bad))
	case n < 399:
		b.say(drawnMsg(s, b.w))
	case s.below(4) == 0:
		b.bye()
	case s.below(4) == 0:
		b.say(api.Msg{Kind: api.MsgBye})
	}
}

// drawnLink draws a new one.
func drawnLink(s *strewn, t *testing.T) both {
	t.Helper()
	l := append(firsts(), s.below(1<<20), s.below(1<<20), s.below(api.MaxFrame))
	return newBoth(t, ownNonce, []int{1, 5, 20, 100, 10000}[s.below(5)], l[s.below(len(l))])
}

// P16.1, P16.2: drawn calls of all kinds, held against the chapter's words said once more.
func TestByTurns(t *testing.T) {
	for seed := range 400 {
		s := strewn(seed)
		b := drawnLink(&s, t)
		for range 500 {
			drawn(&s, b)
		}
	}
}

// P16.1, P16.2: the drawn calls come by all that the promises tell apart.
func TestByTurnsHasAll(t *testing.T) {
	var states, freshKinds [8]int
	acked, cut, full, welcomeFull := 0, 0, 0, 0
	for seed := range 400 {
		s := strewn(seed)
		b := drawnLink(&s, t)
		for range 500 {
			before := b.w.acked
			drawn(&s, b)
			states[b.w.state]++
			if b.w.acked > before {
				acked++
			}
			if len(b.w.waiting()) == 64 {
				full++
			}
			if len(b.w.sending) == 8 {
				welcomeFull++
			}
			// Asked of copies of the words alone, of which nothing is done to the link's own.
			w := *b.w
			w.own, w.told, w.sending = bytes.Clone(w.own), bytes.Clone(w.told), append([]api.Msg(nil), w.sending...)
			x := s
			m := drawnMsg(&x, &w)
			h, _ := w.hear(sealed(t, m))
			freshKinds[h.Kind]++
			if h.Kind == api.MsgInputs && len(h.Inputs) < len(m.Inputs) {
				cut++
			}
		}
	}
	for kind, n := range freshKinds {
		if n < 1000 && kind != api.MsgBye {
			t.Errorf("kind %d was heard %d times", kind, n)
		}
	}
	for what, n := range map[string]int{
		"greets": states[0], "open": states[1], "gone": states[2], "acknowledged": acked, "inputs of which some were heard": cut, "own ones full": full, "what is sent full": welcomeFull,
	} {
		if n < 100 {
			t.Errorf("%s: %d times", what, n)
		}
	}
}

// end is one end of a talk, what it said of inputs itself, and what it was told of the other one's.
type end struct {
	l     *Link
	first int
	own   []uint8
	told  []uint8
}

// talk is two ends, and what flies to each, and all that ever flew to it.
type talk struct {
	t     *testing.T
	ends  [2]*end
	fly   [2][]string
	flown [2][]string
	stale int
	most  int // own inputs of each end
}

func newTalk(t *testing.T, first int) *talk {
	t.Helper()
	x := &talk{t: t, most: math.MaxInt}
	for who := range x.ends {
		l, e := New(uint32(1000+who), api.MostPatience, first)
		if e != api.OK {
			t.Fatalf("New = %d", e)
		}
		x.ends[who] = &end{l: l, first: first}
	}
	return x
}

func (x *talk) own(who int, in uint8) {
	x.t.Helper()
	o := x.ends[who]
	if len(o.own) >= x.most {
		return
	}
	switch e := o.l.Own(o.first+len(o.own), in); e {
	case api.OK:
		o.own = append(o.own, in)
	case api.ErrFull:
		if o.l.Waits() != api.MaxRun {
			x.t.Fatalf("ErrFull with %d that wait", o.l.Waits())
		}
	default:
		x.t.Fatalf("Own = %d", e)
	}
}

func (x *talk) tick(who int) {
	for _, s := range x.ends[who].l.Tick(who) {
		x.fly[1-who] = append(x.fly[1-who], s)
		x.flown[1-who] = append(x.flown[1-who], s)
	}
}

// hear has an end hear bytes, and holds what it is told of inputs against what the other one said.
func (x *talk) hear(who int, s string) {
	x.t.Helper()
	me, other := x.ends[who], x.ends[1-who]
	h, e := me.l.Hear(s)
	if e != api.OK && !isNothing(h) {
		x.t.Fatalf("Hear = %v, %d", h, e)
	}
	if e == api.OK && h.Kind == 0 {
		x.stale++
	}
	if h.Kind != api.MsgInputs {
		return
	}
	if h.From != me.first+len(me.told) || len(h.Inputs) == 0 {
		x.t.Fatalf("told from %d on %v, behind %d", h.From, h.Inputs, me.first+len(me.told))
	}
	me.told = append(me.told, h.Inputs...)
	if !bytes.HasPrefix(other.own, me.told) {
		x.t.Fatalf("told %v, of %v", me.told, other.own)
	}
}

// check: what is acknowledged was told, and what waits is the rest.
func (x *talk) check() {
	x.t.Helper()
	for who, o := range x.ends {
		acked := o.l.Acked() - o.first
		if acked > len(x.ends[1-who].told) || acked+o.l.Waits() != len(o.own) || o.l.Next() != o.first+len(o.told) {
			x.t.Fatalf("%d acknowledged, %d wait, of %d; told are %d; Next %d", acked, o.l.Waits(), len(o.own), len(x.ends[1-who].told), o.l.Next())
		}
	}
}

// storm does one drawn thing: an input, a tick, or a datagram that is taken, lost, heard twice, late or spoilt.
func (x *talk) storm(s *strewn, loss int) {
	x.t.Helper()
	who := s.below(2)
	switch n := s.below(16); {
	case n < 4:
		x.own(who, uint8(s.below(64)))
	case n < 7:
		x.tick(who)
	case n == 7 && len(x.flown[who]) > 0:
		x.hear(who, x.flown[who][s.below(len(x.flown[who]))])
	case n == 8 && len(x.flown[who]) > 0:
		bad := []byte(x.flown[who][s.below(len(x.flown[who]))])
		bad[s.below(len(bad))] ^= byte(1 + s.below(255))
		x.hear(who, string(bad))
		if _, spoilt, _ := x.ends[who].l.Counts(); spoilt == 0 {
			x.t.Fatal("a datagram of which a byte is turned is heard")
		}
	case len(x.fly[who]) > 0:
		i := 0
		if s.below(3) == 0 {
			i = s.below(len(x.fly[who]))
		}
		d := x.fly[who][i]
		x.fly[who] = append(x.fly[who][:i], x.fly[who][i+1:]...)
		if s.below(100) >= loss {
			x.hear(who, d)
		}
	}
	x.check()
}

// calm: both tick, and some of what is sent comes both ways, as drawn; for so many rounds at most, till nothing waits.
func (x *talk) calm(s *strewn, rounds int) bool {
	x.t.Helper()
	for range rounds {
		for who := range x.ends {
			x.tick(who)
			for _, d := range x.fly[1-who] {
				if s.below(3) == 0 {
					x.hear(1-who, d)
				}
			}
			x.fly[1-who] = nil
			x.check()
		}
		if x.ends[0].l.Waits() == 0 && x.ends[1].l.Waits() == 0 {
			return true
		}
	}
	return false
}

// P16.3: over drawn lists of what is sent, lost, heard twice, late and spoilt what is told of inputs are the other end's own ones, each once, in order; where some of what is sent comes both ways all that waits is acknowledged.
func TestEachOnce(t *testing.T) {
	told, stale := 0, 0
	for seed := range 300 {
		s := strewn(5000 + seed)
		l := []int{0, 1, 8, 32000, 65500, 65535, 1 << 20, api.MaxFrame - 65536, api.MaxFrame - 5000}
		x := newTalk(t, l[seed%len(l)])
		for range 1500 {
			x.storm(&s, seed%80)
		}
		if !x.calm(&s, 400) {
			t.Fatalf("seed %d: %d and %d wait", seed, x.ends[0].l.Waits(), x.ends[1].l.Waits())
		}
		for who, o := range x.ends {
			if !bytes.Equal(o.told, x.ends[1-who].own) {
				t.Fatalf("seed %d: told %v, want %v", seed, o.told, x.ends[1-who].own)
			}
			told += len(o.told)
		}
		stale += x.stale
	}
	if told < 50000 || stale < 20000 {
		t.Errorf("%d inputs were told, %d datagrams stale", told, stale)
	}
}

// P16.3: over so many frames that serials go round what is told are the other end's own inputs still, and all are acknowledged.
func TestSerialsGoRound(t *testing.T) {
	s := strewn(9)
	x := newTalk(t, 65000)
	for len(x.ends[0].own) < 140000 {
		for who := range x.ends {
			for range 24 {
				x.own(who, uint8(s.below(64)))
			}
			o, other := x.ends[who], x.ends[1-who]
			for _, d := range o.l.Tick(0) {
				if s.below(4) == 0 {
					continue
				}
				h, _ := other.l.Hear(d)
				for i, in := range h.Inputs {
					if n := len(other.told); h.From+i != other.first+n || in != o.own[n] {
						t.Fatalf("told %d at frame %d", in, h.From+i)
					}
					other.told = append(other.told, in)
				}
			}
		}
		x.check()
	}
	if !x.calm(&s, 400) || x.ends[0].l.Next() != 65000+len(x.ends[1].own) {
		t.Errorf("%d and %d wait", x.ends[0].l.Waits(), x.ends[1].l.Waits())
	}
}

// P16.3: about MaxFrame what is told are the other end's own inputs, each once, in order, as elsewhere; those ahead of MaxFrame are all acknowledged, as long as there are none behind them.
func TestTalkNearMaxFrame(t *testing.T) {
	for back := range 70 {
		for _, behind := range []int{0, 1, 70} {
			s := strewn(700 + back)
			x := newTalk(t, api.MaxFrame-back)
			x.most = back + behind
			for range 600 {
				x.storm(&s, 30)
			}
			if !x.calm(&s, 200) && behind == 0 {
				t.Fatalf("%d ahead of MaxFrame: %d and %d wait", back, x.ends[0].l.Waits(), x.ends[1].l.Waits())
			}
		}
	}
}

// P16.2, P16.3: links hear, in drawn order, what two others say, none of which is meant for them: they answer as their words do.
func TestStrangers(t *testing.T) {
	for seed := range 60 {
		s := strewn(8000 + seed)
		x := newTalk(t, 100)
		b := newBoth(t, 1000, 50, 100)
		for range 400 {
			x.storm(&s, 10)
			if l := x.flown[s.below(2)]; len(l) > 0 {
				b.hear(l[len(l)-1])
			}
			if s.below(4) == 0 {
				b.tick(0)
			}
			if s.below(4) == 0 {
				b.own(100+len(b.w.own), uint8(s.below(64)))
			}
		}
	}
}
