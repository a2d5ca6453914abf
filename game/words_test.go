package game

import (
	"math/big"

	"promptbook/api"
)

// down divides down; by is above 0.
func down(n, by int64) int64 {
	q := n / by
	if q*by > n {
		q--
	}
	return q
}

func held(n int64) api.Fix {
	return api.Fix(max(-1<<31, min(1<<31-1, n)))
}

func mul(a, b api.Fix) api.Fix {
	return held(down(int64(a)*int64(b), 65536))
}

// sine is trig's wave, said once more.
func sine(angle int) api.Fix {
	angle %= 65536
	if angle >= 32768 {
		return -sine(angle - 32768)
	}
	p := int64(angle) * int64(32768-angle)
	return api.Fix(16 * p * 65536 / (5<<30 - 4*p))
}

// isNear: are two places at most r apart?
func isNear(a, b api.Vec, r int64) bool {
	x, y := int64(a.X)-int64(b.X), int64(a.Y)-int64(b.Y)
	return x*x+y*y <= r*r
}

// longest is a way that is cut to 2, if it is longer.
func longest(v api.Vec) api.Vec {
	x, y := big.NewInt(int64(v.X)), big.NewInt(int64(v.Y))
	n := new(big.Int).Add(x.Mul(x, x), y.Mul(y, y))
	length := n.Sqrt(n).Int64()
	if length <= 2*65536 {
		return v
	}
	part := func(a api.Fix) api.Fix {
		return held(down(int64(mul(a, 2*65536))*65536, min(length, 1<<31-1)))
	}
	return vec(part(v.X), part(v.Y))
}

// game is a step as the chapter's words tell it.
type game struct {
	s    api.State
	told []api.Event
}

func (g *game) tell(emitter, kind, gain, prio, length int) {
	e := api.Event{Key: api.Key{Frame: g.s.Frame, Emitter: emitter, Kind: kind}, Asset: kind, Gain: gain, Prio: prio, Len: length}
	if emitter > 0 {
		e.Pan = int(max(-32768, min(32768, down(int64(g.s.Players[emitter-1].At.X)*32768, 64*65536))))
	}
	for _, other := range g.told {
		if other.Key.Emitter == emitter && other.Key.Kind == kind {
			e.Key.Ord++
		}
	}
	g.told = append(g.told, e)
}

// inOrder are the events by Emitter, Kind and Ord.
func (g *game) inOrder() []api.Event {
	var l []api.Event
	for emitter := range 3 {
		for kind := range 10 {
			for _, e := range g.told {
				if e.Key.Emitter == emitter && e.Key.Kind == kind {
					l = append(l, e)
				}
			}
		}
	}
	return l
}

// stepByWords is the chapter's section 'A step', of a state and inputs that may be.
func stepByWords(s api.State, in [2]uint8) (api.State, []api.Event) {
	g := &game{s: s}
	for who := range 2 {
		g.player(who, in[who])
	}
	a, b := &g.s.Players[0], &g.s.Players[1]
	if a.Down == 0 && b.Down == 0 && isNear(a.At, b.At, 8*65536) {
		a.Way, b.Way = b.Way, a.Way
		g.tell(0, 4, 16384, 6, 0)
	}
	for i := range 6 {
		if g.s.Shots[i].Owner != 0 {
			g.shot(&g.s.Shots[i])
		}
	}
	g.s.Left--
	if g.s.Left == 0 || a.Score >= 3 || b.Score >= 3 {
		g.s.Round++
		g.s.Left = 600
		*a = api.Player{At: vec(-32*one, 0), Hp: 3}
		*b = api.Player{At: vec(32*one, 0), Facing: 32768, Hp: 3}
		for i := range 6 {
			g.s.Shots[i] = api.Shot{}
		}
		g.tell(0, 7, 32768, 12, 0)
	}
	g.s.Frame++
	return g.s, g.inOrder()
}

func (g *game) player(who int, in uint8) {
	p := &g.s.Players[who]
	if p.Down > 0 {
		p.Down--
		if p.Down == 0 {
			g.s.Dice = g.s.Dice*1664525 + 1013904223
			k := int(g.s.Dice>>16) * 4 / 65536
			p.At, p.Way, p.Facing, p.Hp, p.Cool, p.Wind = vec(-40*one, -40*one), vec(0, 0), 0, 3, 0, 0
			if k%2 == 1 {
				p.At.X = 40 * one
			}
			if k >= 2 {
				p.At.Y = 40 * one
			}
			g.tell(who+1, 6, 16384, 9, 0)
		}
		return
	}
	if p.Cool > 0 {
		p.Cool--
	}
	if p.Wind > 0 {
		p.Wind--
	}
	if in&1 != 0 {
		p.Facing = (p.Facing + 65536 - 1024) % 65536
	}
	if in&2 != 0 {
		p.Facing = (p.Facing + 1024) % 65536
	}
	h := vec(sine(p.Facing+16384), sine(p.Facing))
	add := func(by api.Fix) {
		p.Way = vec(held(int64(p.Way.X)+int64(mul(h.X, by))), held(int64(p.Way.Y)+int64(mul(h.Y, by))))
	}
	if in&8 != 0 {
		p.Way = vec(mul(p.Way.X, 32768), mul(p.Way.Y, 32768))
	}
	if in&4 != 0 {
		add(8192)
		if g.s.Frame%8 == 0 {
			g.tell(who+1, 8, 4096, 1, 8)
		}
	}
	if in&32 != 0 && p.Wind == 0 {
		add(65536)
		p.Wind = 20
		g.tell(who+1, 9, 8192, 4, 0)
	}
	p.Way = longest(vec(mul(p.Way.X, 61440), mul(p.Way.Y, 61440)))
	if met := meets(&p.At.X, &p.Way.X); meets(&p.At.Y, &p.Way.Y) || met {
		g.tell(who+1, 3, 8192, 3, 0)
	}
	if in&16 != 0 && p.Cool == 0 {
		g.fire(who, h)
	}
}

// meets moves by one number of a way, and tells whether a wall is met by that.
func meets(at, way *api.Fix) bool {
	*at += *way
	if *at >= -60*one && *at <= 60*one {
		return false
	}
	*at = max(-60*one, min(60*one, *at))
	*way = mul(-*way, 32768)
	return true
}

func (g *game) fire(who int, h api.Vec) {
	p := &g.s.Players[who]
	for i := range 6 {
		if g.s.Shots[i].Owner == 0 {
			g.s.Shots[i] = api.Shot{At: vec(p.At.X+mul(h.X, 4*one), p.At.Y+mul(h.Y, 4*one)), Way: vec(mul(h.X, 3*one), mul(h.Y, 3*one)), Owner: who + 1, Life: 40}
			p.Cool = 8
			g.tell(who+1, 1, 16384, 5, 0)
			return
		}
	}
}

func (g *game) shot(x *api.Shot) {
	x.Life--
	if x.Life == 0 {
		*x = api.Shot{}
		return
	}
	x.At = vec(held(int64(x.At.X)+int64(x.Way.X)), held(int64(x.At.Y)+int64(x.Way.Y)))
	if x.At.X < -64*one || x.At.X > 64*one || x.At.Y < -64*one || x.At.Y > 64*one {
		*x = api.Shot{}
		return
	}
	owner, other := 0, 1
	if x.Owner == 2 {
		owner, other = 1, 0
	}
	p := &g.s.Players[other]
	if p.Down > 0 || !isNear(p.At, x.At, 5*65536) {
		return
	}
	*x = api.Shot{}
	p.Hp--
	g.tell(other+1, 2, 32768, 8, 0)
	if p.Hp == 0 {
		p.Down = 30
		g.s.Players[owner].Score++
		g.tell(other+1, 5, 32768, 10, 0)
	}
}
