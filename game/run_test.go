package game

import (
	"slices"
	"testing"

	"promptbook/api"
)

// oneOf is any of them.
func oneOf[T any](r *strewn, l ...T) T {
	return l[r.below(len(l))]
}

// near is a number about another one, at times that one, within -far and far.
func (r *strewn) near(n api.Fix, by, far api.Fix) api.Fix {
	return max(-far, min(far, n+api.Fix(r.from(-int(by), int(by)))))
}

func (r *strewn) way() api.Vec {
	size := oneOf(r, 0, 1, 100, 65536, 200000, 1<<24)
	v := vec(api.Fix(r.from(-size, size)), api.Fix(r.from(-size, size)))
	if r.below(40) == 0 {
		v.X = oneOf(r, api.MinFix, api.MaxFix, -1)
	}
	if r.below(40) == 0 {
		v.Y = oneOf(r, api.MinFix, api.MaxFix, 1)
	}
	return v
}

// player is any that may be, at times at a wall, or about a place.
func (r *strewn) player(about api.Vec) api.Player {
	far := 60 * one
	p := api.Player{
		At:  vec(r.near(0, far, far), r.near(0, far, far)),
		Way: r.way(), Facing: oneOf(r, 0, 1, 1024, 16384, 32768, 49152, 65535, r.below(65536)),
		Hp: r.from(1, 3), Cool: r.below(9), Wind: r.below(21), Score: r.below(3),
	}
	switch r.below(4) {
	case 0:
		p.At = vec(r.near(about.X, 9*one, far), r.near(about.Y, 9*one, far))
	case 1:
		p.At.X = r.near(oneOf(r, -far, far), one, far)
	case 2:
		p.At.Y = r.near(oneOf(r, -far, far), one, far)
	}
	if r.below(4) == 0 {
		p.Hp, p.Down = 0, oneOf(r, 1, 2, 30, r.from(1, 30))
	}
	if r.below(3) == 0 {
		p.Cool, p.Wind = r.below(2), r.below(2)
	}
	return p
}

// shot is any that may be, mostly near one of the players, at times at a wall, or none.
func (r *strewn) shot(players [2]api.Player) api.Shot {
	far := 64 * one
	about := players[r.below(2)].At
	x := api.Shot{
		At:  vec(r.near(about.X, 6*one, far), r.near(about.Y, 6*one, far)),
		Way: r.way(), Owner: r.from(1, 2), Life: r.from(1, 40),
	}
	switch r.below(6) {
	case 0:
		return api.Shot{}
	case 1:
		x.At.X = r.near(oneOf(r, -far, far), one, far)
	case 2:
		x.At.Y = r.near(oneOf(r, -far, far), one, far)
	case 3:
		x.Life = r.from(1, 2)
	}
	return x
}

// state is any that may be, and from which a step may be made.
func (r *strewn) state() api.State {
	s := api.State{
		Frame: oneOf(r, 0, 8, 9, r.below(1000), r.below(most), most-1, most-8),
		Dice:  uint32(r.below(1 << 32)),
		Round: oneOf(r, 0, r.below(9), r.below(most), most-1),
		Left:  oneOf(r, 1, 2, 600, r.from(1, 600)),
	}
	s.Players[0] = r.player(vec(0, 0))
	s.Players[1] = r.player(s.Players[0].At)
	for i := range s.Shots {
		s.Shots[i] = r.shot(s.Players)
	}
	return s
}

func (r *strewn) inputs() [2]uint8 {
	return [2]uint8{uint8(r.below(64)), uint8(r.below(64))}
}

// P12.2 and P12.3: Step of many drawn states and inputs, by the chapter's words; each leads to a state that may be, its events are in order, and it tells the same once more.
func TestStepByWords(t *testing.T) {
	r := strewn(88172645463325252)
	met := map[api.Key]int{}
	for range 60000 {
		s, in := r.state(), r.inputs()
		if !Right(s) {
			t.Fatalf("drawn, and may not be: %v", s)
		}
		n, events, e := Step(s, in)
		want, told := stepByWords(s, in)
		if e != api.OK || n != want || !slices.Equal(events, told) {
			t.Fatalf("Step(%v, %v) = %v, %v, %d, want %v, %v", s, in, n, events, e, want, told)
		}
		if !Right(n) {
			t.Fatalf("Step(%v, %v) = %v, which may not be", s, in, n)
		}
		if again, l, e := Step(s, in); e != api.OK || again != n || !slices.Equal(l, events) {
			t.Fatalf("Step(%v, %v) tells otherwise once more: %v, %v, %d", s, in, again, l, e)
		}
		for _, e := range events {
			e.Key.Frame = 0
			met[e.Key]++
		}
	}
	for _, k := range []api.Key{{Kind: 4}, {Kind: 7}, {Emitter: 1, Kind: 2, Ord: 1}, {Emitter: 2, Kind: 2, Ord: 2}, {Emitter: 1, Kind: 5}, {Emitter: 2, Kind: 5}, {Emitter: 1, Kind: 6}, {Emitter: 2, Kind: 6}, {Emitter: 1, Kind: 1}, {Emitter: 2, Kind: 3}, {Emitter: 1, Kind: 8}, {Emitter: 2, Kind: 9}} {
		if met[k] < 20 {
			t.Errorf("%v is told only %d times", k, met[k])
		}
	}
}

// drawnGame is so many inputs of players that hold what they press for some frames.
func (r *strewn) drawnGame(frames int) [][2]uint8 {
	var l [][2]uint8
	var in [2]uint8
	for range frames {
		for who := range in {
			if r.below(6) == 0 {
				in[who] = uint8(r.below(64)) | uint8(r.below(2))*fire
			}
		}
		l = append(l, in)
	}
	return l
}

// P12.2 and P12.3: long games from the beginning, step by step by the chapter's words, each state one that may be; Run at once tells the same.
func TestGamesByWords(t *testing.T) {
	r := strewn(4711)
	met := map[int]int{}
	for seed := range uint32(8) {
		s, l := Begin(seed), r.drawnGame(2000)
		var all []api.Event
		for _, in := range l {
			n, events, e := Step(s, in)
			want, told := stepByWords(s, in)
			if e != api.OK || n != want || !slices.Equal(events, told) || !Right(n) {
				t.Fatalf("Step(%v, %v) = %v, %v, %d, want %v, %v", s, in, n, events, e, want, told)
			}
			s = n
			all = append(all, events...)
		}
		if n, events, e := Run(Begin(seed), l); e != api.OK || n != s || !slices.Equal(events, all) {
			t.Fatalf("Run of seed %d: %v, %d, want %v", seed, n, e, s)
		}
		for _, e := range all {
			met[e.Key.Kind]++
		}
	}
	for kind := 1; kind <= 9; kind++ {
		if met[kind] == 0 {
			t.Errorf("kind %d is never told: %v", kind, met)
		}
	}
}

// P12.2: Run of no inputs is the state as it is, and no events; no step is made by which an error could be told.
func TestRunOfNone(t *testing.T) {
	last := Begin(1)
	last.Frame = most
	for _, s := range []api.State{Begin(5), middling(), last, {}, wrongStates()["Score 3"]} {
		for _, l := range [][][2]uint8{nil, {}} {
			if n, events, e := Run(s, l); n != s || len(events) != 0 || e != api.OK {
				t.Errorf("Run(%v) by none = %v, %v, %d", s, n, events, e)
			}
		}
	}
}

// P12.2: Run of one input is a step.
func TestRunOfOne(t *testing.T) {
	r := strewn(9)
	for range 300 {
		s, in := r.state(), r.inputs()
		want, told, _ := Step(s, in)
		if n, events, e := Run(s, [][2]uint8{in}); n != want || !slices.Equal(events, told) || e != api.OK {
			t.Fatalf("Run(%v) by %v = %v, %v, %d, want %v, %v", s, in, n, events, e, want, told)
		}
	}
}

// P12.2: Run of the document: three frames of thrust, in the first of which two engines are told.
func TestRunOfThree(t *testing.T) {
	n, events, e := Run(Begin(5), [][2]uint8{{4, 4}, {4, 4}, {4, 4}})
	if e != api.OK || n.Frame != 3 || n.Left != 597 || n.Players[0].Way.X != 21630 || !slices.Equal(events, inFrame(0, anEngine(1, panA), anEngine(2, panB))) {
		t.Errorf("by three: %v, %v, %d", n, events, e)
	}
}

// P12.2: Run with an error at the first input, in the midst and at the last: that error, with nothing.
func TestRunOfWrong(t *testing.T) {
	refused := func(name string, s api.State, l [][2]uint8, want api.Errno) {
		t.Helper()
		if n, events, e := Run(s, l); n != (api.State{}) || len(events) != 0 || e != want {
			t.Errorf("%s: %v, %v, %d, want %d", name, n, events, e, want)
		}
	}
	r := strewn(12)
	for _, at := range []int{0, 1, 10, 18, 19} {
		for who := range 2 {
			l := r.drawnGame(20)
			l[at][who] = 64
			refused("a wrong input", Begin(3), l, api.ErrArg)
		}
		s := middling()
		s.Frame = most - at
		refused("MaxFrame", s, r.drawnGame(at+1), api.ErrLong)
		refused("MaxFrame, and more", s, r.drawnGame(at+7), api.ErrLong)
		if n, _, e := Run(s, r.drawnGame(at)); e != api.OK || n.Frame != most {
			t.Errorf("up to MaxFrame: %v, %d", n, e)
		}
		l := r.drawnGame(at + 2)
		l[at+1][0] = 200
		refused("MaxFrame, then a wrong input", s, l, api.ErrLong)
		l[at][1] = 64
		refused("a wrong input at MaxFrame", s, l, api.ErrArg)
	}
	for name, s := range wrongStates() {
		refused(name, s, [][2]uint8{{}}, api.ErrArg)
		refused(name, s, r.drawnGame(9), api.ErrArg)
	}
}

// P12.3: Run in parts tells what Run at once tells, wherever it is parted.
func TestRunInParts(t *testing.T) {
	r := strewn(33)
	for range 60 {
		s := r.state()
		s.Frame, s.Round = r.below(1000), 0
		l := r.drawnGame(r.from(1, 90))
		want, told, e := Run(s, l)
		if e != api.OK {
			t.Fatal(s, l, e)
		}
		for range 10 {
			i := r.below(len(l) + 1)
			j := r.from(i, len(l))
			a, first, _ := Run(s, l[:i])
			b, second, _ := Run(a, l[i:j])
			n, third, e := Run(b, l[j:])
			if e != api.OK || n != want || !slices.Equal(slices.Concat(first, second, third), told) {
				t.Fatalf("Run(%v) by %v, parted at %d and %d = %v, %d, want %v", s, l, i, j, n, e, want)
			}
		}
	}
}

// P12.2 and P12.3: what is handed in isn't changed, its spare room neither; what is answered is new memory, and hangs on nothing that was told before.
func TestNothingIsSharedOrChanged(t *testing.T) {
	r := strewn(55)
	for range 40 {
		room := r.drawnGame(60)
		l := room[:40]
		was := slices.Clone(room)
		s := r.state()
		s.Frame, s.Round = 0, 0
		stateWas := s
		n, events, e := Run(s, l)
		if e != api.OK || s != stateWas || !slices.Equal(room, was) {
			t.Fatalf("Run changed what it was handed: %v, %v, %d", s, room, e)
		}
		told := slices.Clone(events)
		clear(events[:cap(events)])
		if again, l, e := Run(s, l); e != api.OK || again != n || !slices.Equal(l, told) {
			t.Fatalf("Run tells otherwise once more: %v, %v, %d", again, l, e)
		}
		first, one, _ := Step(s, l[0])
		oneWas := slices.Clone(one)
		Step(n, l[1])
		if !slices.Equal(one, oneWas) {
			t.Fatalf("another step changed what was told: %v, was %v", one, oneWas)
		}
		clear(one[:cap(one)])
		if again, l, _ := Step(s, l[0]); again != first || !slices.Equal(l, oneWas) {
			t.Fatalf("Step tells otherwise once more: %v, %v", again, l)
		}
	}
}
