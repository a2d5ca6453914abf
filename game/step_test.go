package game

import (
	"math"
	"slices"
	"testing"

	"promptbook/api"
)

const (
	left   = api.InLeft
	right  = api.InRight
	thrust = api.InThrust
	brake  = api.InBrake
	fire   = api.InFire
	dash   = api.InDash
)

// quiet is a state in which nothing happens of itself: both stand still, far apart, in a frame in which no engine is told.
func quiet() api.State {
	s := Begin(1)
	s.Frame, s.Left = 9, 100
	return s
}

// told is an event of the quiet state's frame.
func told(emitter, kind, ord, asset, gain, pan, prio, length int) api.Event {
	return api.Event{Key: api.Key{Frame: 9, Emitter: emitter, Kind: kind, Ord: ord}, Asset: asset, Gain: gain, Pan: pan, Prio: prio, Len: length}
}

// Each kind of event, in the quiet state's frame.
func aShot(emitter, pan int) api.Event         { return told(emitter, 1, 0, 1, 16384, pan, 5, 0) }
func aHit(emitter, ord int, pan int) api.Event { return told(emitter, 2, ord, 2, 32768, pan, 8, 0) }
func aBump(emitter, pan int) api.Event         { return told(emitter, 3, 0, 3, 8192, pan, 3, 0) }
func aClash() api.Event                        { return told(0, 4, 0, 4, 16384, 0, 6, 0) }
func aDeath(emitter, pan int) api.Event        { return told(emitter, 5, 0, 5, 32768, pan, 10, 0) }
func aSpawn(emitter, pan int) api.Event        { return told(emitter, 6, 0, 6, 16384, pan, 9, 0) }
func aRound() api.Event                        { return told(0, 7, 0, 7, 32768, 0, 12, 0) }
func anEngine(emitter, pan int) api.Event      { return told(emitter, 8, 0, 8, 4096, pan, 1, 8) }
func aDash(emitter, pan int) api.Event         { return told(emitter, 9, 0, 9, 8192, pan, 4, 0) }

// inFrame is the same events, of another frame.
func inFrame(frame int, l ...api.Event) []api.Event {
	m := slices.Clone(l)
	for i := range m {
		m[i].Key.Frame = frame
	}
	return m
}

// The pans of both players as they begin.
const (
	panA = -16384
	panB = 16384
)

// turn is a step: what is set of the quiet state ahead of it, the inputs, what is other behind it than it was (Frame and Left beside that), and the events.
type turn struct {
	name   string
	set    func(s *api.State)
	in     [2]uint8
	then   func(n *api.State)
	events []api.Event
}

func same(*api.State) {}

func checkTurns(t *testing.T, l []turn) {
	t.Helper()
	for _, x := range l {
		s := quiet()
		x.set(&s)
		if !Right(s) {
			t.Fatalf("%s: %v may not be", x.name, s)
		}
		want := s
		want.Frame++
		want.Left--
		x.then(&want)
		n, events, e := Step(s, x.in)
		if e != api.OK || n != want {
			t.Errorf("%s: %v, %d, want %v", x.name, n, e, want)
		}
		if !slices.Equal(events, x.events) {
			t.Errorf("%s: %v, want %v", x.name, events, x.events)
		}
		if !Right(n) {
			t.Errorf("%s: %v may not be", x.name, n)
		}
	}
}

// P12.2: a step in which nothing happens, and the document's example: both thrust, move toward each other, and two engines are told.
func TestStepOfTheDocument(t *testing.T) {
	checkTurns(t, []turn{{"nothing", same, [2]uint8{}, same, nil}})
	n, events, e := Step(Begin(7), [2]uint8{thrust, thrust})
	want := Begin(7)
	want.Frame, want.Left = 1, 599
	want.Players[0].At, want.Players[0].Way = vec(-32*one+7680, 0), vec(7680, 0)
	want.Players[1].At, want.Players[1].Way = vec(32*one-7680, 0), vec(-7680, 0)
	if e != api.OK || n != want || !slices.Equal(events, inFrame(0, anEngine(1, panA), anEngine(2, panB))) {
		t.Errorf("both thrust: %v, %v, %d", n, events, e)
	}
}

// P12.2: a player that is down only counts Down, whatever is pressed.
func TestStepOfOneThatIsDown(t *testing.T) {
	down := func(who, n int) func(s *api.State) {
		return func(s *api.State) {
			s.Players[who] = api.Player{At: vec(5*one, -6*one), Way: vec(one, one), Facing: 77, Cool: 3, Wind: 4, Down: n, Score: 1}
		}
	}
	for who := range 2 {
		for _, n := range []int{2, 3, 17, 30} {
			for _, in := range []uint8{0, 63, left, thrust, fire, dash} {
				both := [2]uint8{}
				both[who] = in
				checkTurns(t, []turn{{"down", down(who, n), both, func(n *api.State) { n.Players[who].Down-- }, nil}})
			}
		}
	}
}

// seedOf is a state of the dice whose throw of 4 sides tells k, and the state behind it.
func seedOf(k int) (uint32, uint32) {
	for seed := uint32(5); ; seed++ {
		next := seed*1664525 + 1013904223
		if int(next>>30) == k {
			return seed, next
		}
	}
}

// P12.2: a player whose Down falls to 0 comes back at the corner that the throw tells, as it began, but for its Score, and does nothing more.
func TestStepOfOneThatComesBack(t *testing.T) {
	corners := []struct {
		at  api.Vec
		pan int
	}{{vec(-40*one, -40*one), -20480}, {vec(40*one, -40*one), 20480}, {vec(-40*one, 40*one), -20480}, {vec(40*one, 40*one), 20480}}
	for who := range 2 {
		for k, corner := range corners {
			for score := range 3 {
				for _, in := range []uint8{0, 63, thrust | fire, left} {
					seed, next := seedOf(k)
					both := [2]uint8{}
					both[who] = in
					checkTurns(t, []turn{{"back", func(s *api.State) {
						s.Dice = seed
						s.Players[who] = api.Player{At: vec(5*one, -6*one), Way: vec(one, one), Facing: 77, Cool: 3, Wind: 4, Down: 1, Score: score}
					}, both, func(n *api.State) {
						n.Dice = next
						n.Players[who] = api.Player{At: corner.at, Hp: 3, Score: score}
					}, []api.Event{aSpawn(1+who, corner.pan)}}})
				}
			}
		}
	}
}

// P12.2: both come back in one frame, by two throws, player 0 first; where they come to one corner they clash.
func TestStepOfBothThatComeBack(t *testing.T) {
	bothDown := func(seed uint32) func(s *api.State) {
		return func(s *api.State) {
			s.Dice = seed
			s.Players[0] = api.Player{Down: 1, Way: vec(one, 0)}
			s.Players[1] = api.Player{Down: 1, Way: vec(0, one)}
		}
	}
	met := map[bool]int{}
	for seed := range uint32(40) {
		a := seed*1664525 + 1013904223
		b := a*1664525 + 1013904223
		at := func(dice uint32) api.Vec {
			return []api.Vec{vec(-40*one, -40*one), vec(40*one, -40*one), vec(-40*one, 40*one), vec(40*one, 40*one)}[dice>>30]
		}
		events := []api.Event{aSpawn(1, int(at(a).X>>7)), aSpawn(2, int(at(b).X>>7))}
		if at(a) == at(b) {
			events = append([]api.Event{aClash()}, events...)
		}
		met[at(a) == at(b)]++
		checkTurns(t, []turn{{"both back", bothDown(seed), [2]uint8{63, 63}, func(n *api.State) {
			n.Dice = b
			n.Players[0], n.Players[1] = api.Player{At: at(a), Hp: 3}, api.Player{At: at(b), Hp: 3}
		}, events}})
	}
	if met[true] < 3 || met[false] < 3 {
		t.Errorf("met so often: %v", met)
	}
}

// P12.2: Cool and Wind of one that is up are one less, but not below 0.
func TestStepCounts(t *testing.T) {
	for who := range 2 {
		for n := 0; n <= 20; n++ {
			cool := n % 9
			checkTurns(t, []turn{{"counts", func(s *api.State) { s.Players[who].Cool, s.Players[who].Wind = cool, n }, [2]uint8{}, func(s *api.State) {
				s.Players[who].Cool, s.Players[who].Wind = max(cool-1, 0), max(n-1, 0)
			}, nil}})
		}
	}
}

// P12.2: left, right and both, all the way round.
func TestStepTurns(t *testing.T) {
	for who := range 2 {
		for _, x := range []struct {
			from int
			in   uint8
			to   int
		}{
			{0, left, 64512}, {0, right, 1024}, {0, left | right, 0}, {1, left, 64513}, {1023, left, 65535}, {1024, left, 0}, {1025, left, 1}, {32768, left, 31744}, {32768, right, 33792}, {32768, left | right, 32768},
			{65535, right, 1023}, {65535, left, 64511}, {65535, left | right, 65535}, {64511, right, 65535}, {64512, right, 0}, {64513, right, 1}, {500, 0, 500},
		} {
			in := [2]uint8{}
			in[who] = x.in
			checkTurns(t, []turn{{"turns", func(s *api.State) { s.Players[who].Facing = x.from }, in, func(n *api.State) { n.Players[who].Facing = x.to }, nil}})
		}
	}
}

// way sets player 0's way, wayThen is how far it comes by that.
func way(x, y api.Fix) func(s *api.State) {
	return func(s *api.State) { s.Players[0].Way = vec(x, y) }
}

func wayThen(x, y api.Fix) func(n *api.State) {
	return func(n *api.State) {
		n.Players[0].Way = vec(x, y)
		n.Players[0].At.X += x
		n.Players[0].At.Y += y
	}
}

// all does one behind the other.
func all(l ...func(s *api.State)) func(s *api.State) {
	return func(s *api.State) {
		for _, f := range l {
			f(s)
		}
	}
}

func facing(n int) func(s *api.State) {
	return func(s *api.State) { s.Players[0].Facing = n }
}

// P12.2: a way is kept, less a sixteenth, and cut to MaxSpeed, if it is longer then.
func TestStepSlows(t *testing.T) {
	checkTurns(t, []turn{
		{"slows", way(one, -one), [2]uint8{}, wayThen(61440, -61440), nil}, {"slows down", way(1, -1), [2]uint8{}, wayThen(0, -1), nil},
		{"as fast as may be", way(139811, 0), [2]uint8{}, wayThen(131072, 0), nil}, {"a bit faster", way(139813, 0), [2]uint8{}, wayThen(131072, 0), nil}, {"a bit slower", way(139810, 0), [2]uint8{}, wayThen(131071, 0), nil},
		{"too fast", way(10*one, 0), [2]uint8{}, wayThen(131072, 0), nil}, {"too fast, aslant", way(-32*one, 24*one), [2]uint8{}, wayThen(-104858, 78643), nil},
		// What is so long is held at a number's end on its way to MaxSpeed: by that it comes out 16 / 15 long.
		{"the greatest way", way(0, api.MinFix), [2]uint8{}, wayThen(0, -69906), nil},
	})
}

// P12.2: brake halves the way ahead of what slows it.
func TestStepBrakes(t *testing.T) {
	checkTurns(t, []turn{
		{"brakes", way(one, -one), [2]uint8{brake}, wayThen(30720, -30720), nil}, {"brakes down", way(3, -3), [2]uint8{brake}, wayThen(0, -2), nil}, {"brakes nothing", same, [2]uint8{brake, brake}, same, nil},
		{"brakes what is too fast", way(5*one, 0), [2]uint8{brake}, wayThen(131072, 0), nil}, {"brakes to what isn't", way(4*one, 0), [2]uint8{brake}, wayThen(122880, 0), nil},
		{"player 1 brakes", func(s *api.State) { s.Players[1].Way.X = -2 * one }, [2]uint8{0, brake}, func(n *api.State) {
			n.Players[1].Way.X = -61440
			n.Players[1].At.X -= 61440
		}, nil},
	})
}

// P12.2: thrust adds the way of the Facing, turned already; brake comes ahead of it.
func TestStepThrusts(t *testing.T) {
	checkTurns(t, []turn{
		{"thrusts", same, [2]uint8{thrust}, wayThen(7680, 0), nil}, {"thrusts up", facing(16384), [2]uint8{thrust}, wayThen(0, 7680), nil}, {"thrusts back", facing(32768), [2]uint8{thrust}, wayThen(-7680, 0), nil}, {"thrusts down", facing(49152), [2]uint8{thrust}, wayThen(0, -7680), nil},
		{"thrusts on", way(one, one), [2]uint8{thrust}, wayThen(69120, 61440), nil}, {"turns first", facing(15360), [2]uint8{thrust | right}, all(facing(16384), wayThen(0, 7680)), nil}, {"brakes first", way(one, 0), [2]uint8{thrust | brake}, wayThen(38400, 0), nil},
		{"player 1 thrusts", same, [2]uint8{0, thrust}, func(n *api.State) {
			n.Players[1].Way.X = -7680
			n.Players[1].At.X -= 7680
		}, nil},
		{"the way is held at a number's end", way(api.MaxFix, 0), [2]uint8{thrust}, wayThen(69905, 0), nil},
	})
}

// P12.2: the engine is told in frames that are multiples of 8, with the place ahead of the move.
func TestStepTellsEngines(t *testing.T) {
	for frame := 0; frame < 40; frame++ {
		s := quiet()
		s.Frame = frame
		n, events, e := Step(s, [2]uint8{thrust, thrust})
		var want []api.Event
		if frame%8 == 0 {
			want = inFrame(frame, anEngine(1, panA), anEngine(2, panB))
		}
		if e != api.OK || n.Frame != frame+1 || n.Players[0].Way.X != 7680 || !slices.Equal(events, want) {
			t.Errorf("frame %d: %v, %v, %d", frame, n, events, e)
		}
		if _, events, _ := Step(s, [2]uint8{63 - thrust - fire - dash, 0}); len(events) != 0 {
			t.Errorf("frame %d, without thrust: %v", frame, events)
		}
	}
	s := quiet()
	s.Frame = most - 8
	s.Players[0].Way.X = 2 * one
	if _, events, e := Step(s, [2]uint8{thrust, 0}); e != api.OK || !slices.Equal(events, inFrame(most-8, anEngine(1, panA))) {
		t.Errorf("frame %d: %v, %d", s.Frame, events, e)
	}
}

func wind(n int) func(s *api.State) {
	return func(s *api.State) { s.Players[0].Wind = n }
}

// P12.2: a dash where Wind is 0, one less already, and none where it isn't; it is told with the place ahead of the move.
func TestStepDashes(t *testing.T) {
	checkTurns(t, []turn{
		{"dashes", same, [2]uint8{dash}, all(wayThen(61440, 0), wind(20)), []api.Event{aDash(1, panA)}}, {"dashes, once Wind is over", wind(1), [2]uint8{dash}, all(wayThen(61440, 0), wind(20)), []api.Event{aDash(1, panA)}},
		{"has Wind left", wind(2), [2]uint8{dash}, wind(1), nil}, {"has dashed right now", wind(20), [2]uint8{dash}, wind(19), nil},
		{"dashes up", facing(16384), [2]uint8{dash}, all(wayThen(0, 61440), wind(20)), []api.Event{aDash(1, panA)}}, {"dashes and thrusts", same, [2]uint8{dash | thrust}, all(wayThen(69120, 0), wind(20)), []api.Event{aDash(1, panA)}},
		{"dashes and brakes", way(one, 0), [2]uint8{dash | brake}, all(wayThen(92160, 0), wind(20)), []api.Event{aDash(1, panA)}}, {"turns and dashes", facing(17408), [2]uint8{dash | left}, all(facing(16384), wayThen(0, 61440), wind(20)), []api.Event{aDash(1, panA)}},
		{"dashes too fast", way(2*one, 0), [2]uint8{dash}, all(wayThen(131072, 0), wind(20)), []api.Event{aDash(1, panA)}},
		{"player 1 dashes", same, [2]uint8{0, dash}, func(n *api.State) {
			n.Players[1].Way.X, n.Players[1].Wind = -61440, 20
			n.Players[1].At.X -= 61440
		}, []api.Event{aDash(2, panB)}},
	})
}

// from sets player 0's place and way.
func from(at, way api.Vec) func(s *api.State) {
	return func(s *api.State) { s.Players[0].At, s.Players[0].Way = at, way }
}

// P12.2: walls met one way and both ways, just reached and passed; a bump is told once, with the place behind the move.
func TestStepMeetsWalls(t *testing.T) {
	far := 60 * one
	checkTurns(t, []turn{
		{"right", from(vec(far-1000, 0), vec(one, 0)), [2]uint8{}, from(vec(far, 0), vec(-30720, 0)), []api.Event{aBump(1, 30720)}}, {"left", from(vec(1000-far, 0), vec(-one, 0)), [2]uint8{}, from(vec(-far, 0), vec(30720, 0)), []api.Event{aBump(1, -30720)}},
		{"high", from(vec(5*one, far-1000), vec(0, one)), [2]uint8{}, from(vec(5*one, far), vec(0, -30720)), []api.Event{aBump(1, 2560)}}, {"low", from(vec(5*one, 1000-far), vec(0, -one)), [2]uint8{}, from(vec(5*one, -far), vec(0, 30720)), []api.Event{aBump(1, 2560)}},
		{"high, on the way right", from(vec(5*one, far-1000), vec(one, one)), [2]uint8{}, from(vec(5*one+61440, far), vec(61440, -30720)), []api.Event{aBump(1, 3040)}},
		{"right and high", from(vec(far-1, far-1), vec(one, one)), [2]uint8{}, from(vec(far, far), vec(-30720, -30720)), []api.Event{aBump(1, 30720)}}, {"left and low", from(vec(-far, -far), vec(-one, -one)), [2]uint8{}, from(vec(-far, -far), vec(30720, 30720)), []api.Event{aBump(1, -30720)}},
		{"just to the right", from(vec(far-61440, 0), vec(one, 0)), [2]uint8{}, from(vec(far, 0), vec(61440, 0)), nil}, {"one too far", from(vec(far-61439, 0), vec(one, 0)), [2]uint8{}, from(vec(far, 0), vec(-30720, 0)), []api.Event{aBump(1, 30720)}},
		{"at the wall, and away", from(vec(far, 0), vec(-one, 0)), [2]uint8{}, from(vec(far-61440, 0), vec(-61440, 0)), nil}, {"at the wall, and along", from(vec(far, 0), vec(0, one)), [2]uint8{}, from(vec(far, 61440), vec(0, 61440)), nil},
		{"player 1", func(s *api.State) { s.Players[1].At.X, s.Players[1].Way.X = far, 2*one }, [2]uint8{}, func(n *api.State) { n.Players[1].Way.X = -61440 }, []api.Event{aBump(2, 30720)}},
		{"thrust into the wall", from(vec(far, 0), vec(0, 0)), [2]uint8{thrust}, from(vec(far, 0), vec(-3840, 0)), []api.Event{aBump(1, 30720)}},
	})
}

// P12.2: pans go down, below 0, too; engines and dashes are told from ahead of the move, bumps and shots from behind it.
func TestStepPans(t *testing.T) {
	for _, x := range []struct {
		x   api.Fix
		pan int
	}{{0, 0}, {1, 0}, {127, 0}, {128, 1}, {-1, -1}, {-128, -1}, {-129, -2}, {60 * one, 30720}, {-60 * one, -30720}, {60*one - 1, 30719}, {1 - 60*one, -30720}} {
		checkTurns(t, []turn{{"pan", func(s *api.State) { s.Players[0].At = vec(x.x, -20*one); s.Players[0].Facing = 16384 }, [2]uint8{dash}, all(func(n *api.State) { n.Players[0].Facing = 16384 }, wayThen(0, 61440), wind(20)), []api.Event{aDash(1, x.pan)}}})
	}
	s := quiet()
	s.Frame = 16
	s.Players[0].At.X = 60*one - 128*10
	want := inFrame(16, aShot(1, 30720), aBump(1, 30720), anEngine(1, 30710), aDash(1, 30710))
	if _, events, e := Step(s, [2]uint8{thrust | dash | fire, 0}); e != api.OK || !slices.Equal(events, want) {
		t.Errorf("behind and ahead of the move: %v, %d, want %v", events, e, want)
	}
}

func cool(n int) func(s *api.State) {
	return func(s *api.State) { s.Players[0].Cool = n }
}

// shot sets the i-th shot.
func shot(i int, x api.Shot) func(s *api.State) {
	return func(s *api.State) { s.Shots[i] = x }
}

// still are shots up to the n-th that fly on nowhere, far from both.
func still(n int) func(s *api.State) {
	return func(s *api.State) {
		for i := range n {
			s.Shots[i] = api.Shot{At: vec(0, -55*one), Owner: 1 + i%2, Life: 9}
		}
	}
}

// stillThen is what becomes of them.
func stillThen(n int) func(s *api.State) {
	return func(s *api.State) {
		for i := range n {
			s.Shots[i].Life = 8
		}
	}
}

// P12.2: a shot where Cool is 0, one less already, and one is free; it flies on in the same frame.
func TestStepFires(t *testing.T) {
	ahead := api.Shot{At: vec(-25*one, 0), Way: vec(3*one, 0), Owner: 1, Life: 39}
	shots := []api.Event{aShot(1, panA)}
	checkTurns(t, []turn{
		{"fires", same, [2]uint8{fire}, all(cool(8), shot(0, ahead)), shots}, {"fires, once Cool is over", cool(1), [2]uint8{fire}, all(cool(8), shot(0, ahead)), shots},
		{"is hot", cool(2), [2]uint8{fire}, cool(1), nil}, {"has fired right now", cool(8), [2]uint8{fire}, cool(7), nil}, {"presses all else", cool(1), [2]uint8{left | right | brake}, cool(0), nil},
		{"the second one is free", still(1), [2]uint8{fire}, all(cool(8), stillThen(1), shot(1, ahead)), shots}, {"only the last one is free", still(5), [2]uint8{fire}, all(cool(8), stillThen(5), shot(5, ahead)), shots},
		{"the first free one is amid others", all(still(6), shot(2, api.Shot{}), shot(4, api.Shot{})), [2]uint8{fire}, all(cool(8), stillThen(6), shot(2, ahead), shot(4, api.Shot{})), shots},
		{"none is free", still(6), [2]uint8{fire}, stillThen(6), nil}, {"none is free, and it is hot", all(still(6), cool(5)), [2]uint8{fire}, all(stillThen(6), cool(4)), nil}, {"one is free in this frame only behind that", all(still(6), shot(3, api.Shot{At: vec(0, -55*one), Owner: 1, Life: 1})), [2]uint8{fire}, all(stillThen(6), shot(3, api.Shot{})), nil},
		{"fires up", facing(16384), [2]uint8{fire}, all(cool(8), shot(0, api.Shot{At: vec(-32*one, 7*one), Way: vec(0, 3*one), Owner: 1, Life: 39})), shots}, {"turns first", facing(15360), [2]uint8{fire | right}, all(facing(16384), cool(8), shot(0, api.Shot{At: vec(-32*one, 7*one), Way: vec(0, 3*one), Owner: 1, Life: 39})), shots},
		{"moves first", way(-one, 0), [2]uint8{fire}, all(wayThen(-61440, 0), cool(8), shot(0, api.Shot{At: vec(-25*one-61440, 0), Way: vec(3*one, 0), Owner: 1, Life: 39})), []api.Event{aShot(1, panA-480)}},
		{"player 1 fires", same, [2]uint8{0, fire}, func(n *api.State) {
			n.Players[1].Cool = 8
			n.Shots[0] = api.Shot{At: vec(25*one, 0), Way: vec(-3*one, 0), Owner: 2, Life: 39}
		}, []api.Event{aShot(2, panB)}},
		{"both fire", same, [2]uint8{fire, fire}, all(cool(8), shot(0, ahead), func(n *api.State) {
			n.Players[1].Cool = 8
			n.Shots[1] = api.Shot{At: vec(25*one, 0), Way: vec(-3*one, 0), Owner: 2, Life: 39}
		}), []api.Event{aShot(1, panA), aShot(2, panB)}},
		{"both fire, one is free", still(5), [2]uint8{fire, fire}, all(cool(8), stillThen(5), shot(5, ahead)), shots},
		{"fires at the wall", func(s *api.State) { s.Players[0].At.X = 60 * one; s.Players[1].At.Y = 30 * one }, [2]uint8{fire}, cool(8), []api.Event{aShot(1, 30720)}},
	})
}

// P12.2: what is fired aslant: each number of the way of the Facing by itself, down.
func TestStepFiresAslant(t *testing.T) {
	s := quiet()
	s.Players[0].Facing = 5000
	ahead := vec(sine(5000+16384), sine(5000))
	n, _, e := Step(s, [2]uint8{fire, 0})
	want := api.Shot{At: vec(-32*one+mul(ahead.X, 4*one)+mul(ahead.X, 3*one), mul(ahead.Y, 4*one)+mul(ahead.Y, 3*one)), Way: vec(mul(ahead.X, 3*one), mul(ahead.Y, 3*one)), Owner: 1, Life: 39}
	if e != api.OK || n.Shots[0] != want {
		t.Errorf("aslant: %v, want %v", n.Shots[0], want)
	}
}

// apart sets both players by their places and ways.
func apart(a, wayA, b, wayB api.Vec) func(s *api.State) {
	return func(s *api.State) {
		s.Players[0].At, s.Players[0].Way, s.Players[1].At, s.Players[1].Way = a, wayA, b, wayB
	}
}

// P12.2: both that touch exchange their ways, where they have moved already; those that don't, and where one is down, don't.
func TestStepClashes(t *testing.T) {
	clash := []api.Event{aClash()}
	nowhere := vec(0, 0)
	down := func(who int) func(s *api.State) {
		return func(s *api.State) { s.Players[who].Hp, s.Players[who].Down = 0, 9 }
	}
	downThen := func(who int) func(s *api.State) {
		return func(s *api.State) { s.Players[who].Down = 8 }
	}
	checkTurns(t, []turn{
		{"touch", apart(vec(-4*one, 0), nowhere, vec(4*one, 0), nowhere), [2]uint8{}, same, clash}, {"don't touch", apart(vec(-4*one, 0), nowhere, vec(4*one+1, 0), nowhere), [2]uint8{}, same, nil}, {"touch, one above the other", apart(vec(7, 4*one), nowhere, vec(7, -4*one), nowhere), [2]uint8{}, same, clash},
		{"don't touch, aslant", apart(vec(0, 0), nowhere, vec(6*one, 6*one), nowhere), [2]uint8{}, same, nil}, {"touch, aslant", apart(vec(0, 0), nowhere, vec(5*one, 5*one), nowhere), [2]uint8{}, same, clash}, {"are at one place", apart(vec(9, 9), nowhere, vec(9, 9), nowhere), [2]uint8{}, same, clash},
		{"exchange", apart(vec(0, 0), vec(one, 0), vec(5*one, 0), vec(0, -one)), [2]uint8{}, apart(vec(61440, 0), vec(0, -61440), vec(5*one, -61440), vec(61440, 0)), clash},
		{"meet by moving", apart(vec(-4*one-61440, 0), vec(one, 0), vec(4*one, 0), nowhere), [2]uint8{}, apart(vec(-4*one, 0), nowhere, vec(4*one, 0), vec(61440, 0)), clash}, {"part by moving", apart(vec(-4*one, 0), vec(-1*one, 0), vec(4*one, 0), nowhere), [2]uint8{}, apart(vec(-4*one-61440, 0), vec(-61440, 0), vec(4*one, 0), nowhere), nil},
		{"player 0 is down", all(apart(vec(0, 0), vec(one, 0), vec(5*one, 0), nowhere), down(0)), [2]uint8{}, downThen(0), nil}, {"player 1 is down", all(apart(vec(0, 0), nowhere, vec(5*one, 0), vec(one, 0)), down(1)), [2]uint8{}, downThen(1), nil}, {"both are down", all(apart(vec(0, 0), vec(one, 0), vec(0, 0), nowhere), down(0), down(1)), [2]uint8{}, all(downThen(0), downThen(1)), nil},
	})
}

// P12.2: a shot flies, till its Life ends, or it leaves the arena; at a wall it is inside.
func TestStepFlies(t *testing.T) {
	far := 64 * one
	checkTurns(t, []turn{
		{"flies", shot(3, api.Shot{At: vec(0, 20*one), Way: vec(5, -one), Owner: 2, Life: 40}), [2]uint8{}, shot(3, api.Shot{At: vec(5, 19*one), Way: vec(5, -one), Owner: 2, Life: 39}), nil}, {"flies a last time", shot(0, api.Shot{At: vec(0, 20*one), Way: vec(9, 0), Owner: 1, Life: 2}), [2]uint8{}, shot(0, api.Shot{At: vec(9, 20*one), Way: vec(9, 0), Owner: 1, Life: 1}), nil},
		{"ends", shot(0, api.Shot{At: vec(0, 20*one), Way: vec(9, 0), Owner: 1, Life: 1}), [2]uint8{}, shot(0, api.Shot{}), nil}, {"ends where it would hit", shot(5, api.Shot{At: vec(32*one, 0), Owner: 1, Life: 1}), [2]uint8{}, shot(5, api.Shot{}), nil}, {"would hit in its last frame", shot(5, api.Shot{At: vec(32*one, 0), Owner: 1, Life: 2}), [2]uint8{}, all(shot(5, api.Shot{}), hp(1, 2)), []api.Event{aHit(2, 0, panB)}},
		{"comes to the right wall", shot(1, api.Shot{At: vec(far-one, 30*one), Way: vec(one, 0), Owner: 1, Life: 5}), [2]uint8{}, shot(1, api.Shot{At: vec(far, 30*one), Way: vec(one, 0), Owner: 1, Life: 4}), nil}, {"leaves right", shot(1, api.Shot{At: vec(far-one+1, 30*one), Way: vec(one, 0), Owner: 1, Life: 5}), [2]uint8{}, shot(1, api.Shot{}), nil},
		{"comes to the left wall", shot(1, api.Shot{At: vec(one-far, 30*one), Way: vec(-one, 0), Owner: 2, Life: 5}), [2]uint8{}, shot(1, api.Shot{At: vec(-far, 30*one), Way: vec(-one, 0), Owner: 2, Life: 4}), nil}, {"leaves left", shot(1, api.Shot{At: vec(one-far-1, 30*one), Way: vec(-one, 0), Owner: 1, Life: 5}), [2]uint8{}, shot(1, api.Shot{}), nil},
		{"comes to the high wall", shot(1, api.Shot{At: vec(0, far), Owner: 2, Life: 5}), [2]uint8{}, shot(1, api.Shot{At: vec(0, far), Owner: 2, Life: 4}), nil}, {"leaves high", shot(1, api.Shot{At: vec(0, far), Way: vec(0, 1), Owner: 1, Life: 5}), [2]uint8{}, shot(1, api.Shot{}), nil},
		{"comes to the low wall", shot(1, api.Shot{At: vec(0, -far), Owner: 2, Life: 5}), [2]uint8{}, shot(1, api.Shot{At: vec(0, -far), Owner: 2, Life: 4}), nil}, {"leaves low", shot(1, api.Shot{At: vec(0, -far), Way: vec(0, -1), Owner: 1, Life: 5}), [2]uint8{}, shot(1, api.Shot{}), nil},
		{"leaves by the greatest way", shot(1, api.Shot{At: vec(one, one), Way: vec(api.MaxFix, api.MaxFix), Owner: 1, Life: 5}), [2]uint8{}, shot(1, api.Shot{}), nil}, {"leaves by the least way", shot(1, api.Shot{At: vec(-one, one), Way: vec(api.MinFix, 0), Owner: 1, Life: 5}), [2]uint8{}, shot(1, api.Shot{}), nil},
		{"all end", func(s *api.State) {
			for i := range s.Shots {
				s.Shots[i] = api.Shot{At: vec(0, 20*one), Owner: 1 + i%2, Life: 1}
			}
		}, [2]uint8{}, func(n *api.State) { n.Shots = [6]api.Shot{} }, nil},
	})
}

func hp(who, n int) func(s *api.State) {
	return func(s *api.State) { s.Players[who].Hp = n }
}

// at is a shot of an owner that flies nowhere.
func at(x, y api.Fix, owner int) api.Shot {
	return api.Shot{At: vec(x, y), Owner: owner, Life: 20}
}

// older is what becomes of it.
func older(x api.Shot) api.Shot {
	x.Life--
	return x
}

// P12.2: a shot that touches the other player, where both have moved, the own one, and one that is down.
func TestStepHits(t *testing.T) {
	near, far := at(27*one, 0, 1), at(27*one-1, 0, 1)
	moved := api.Shot{At: vec(24*one, 0), Way: vec(3*one, 0), Owner: 1, Life: 20}
	hitB, hitA := []api.Event{aHit(2, 0, panB)}, []api.Event{aHit(1, 0, panA)}
	down := func(s *api.State) { s.Players[1].Hp, s.Players[1].Down = 0, 9 }
	checkTurns(t, []turn{
		{"touches", shot(0, near), [2]uint8{}, all(shot(0, api.Shot{}), hp(1, 2)), hitB}, {"doesn't", shot(0, far), [2]uint8{}, shot(0, older(far)), nil}, {"touches behind its move", shot(0, moved), [2]uint8{}, all(shot(0, api.Shot{}), hp(1, 2)), hitB},
		{"no more behind its move", shot(0, api.Shot{At: vec(30*one, 0), Way: vec(-4*one, 0), Owner: 1, Life: 20}), [2]uint8{}, shot(0, api.Shot{At: vec(26*one, 0), Way: vec(-4*one, 0), Owner: 1, Life: 19}), nil},
		{"touches aslant", shot(4, at(28*one, 3*one, 1)), [2]uint8{}, all(shot(4, api.Shot{}), hp(1, 2)), hitB}, {"doesn't, aslant", shot(4, at(28*one, 3*one+1, 1)), [2]uint8{}, shot(4, older(at(28*one, 3*one+1, 1))), nil},
		{"touches player 0", shot(0, at(-32*one, -5*one, 2)), [2]uint8{}, all(shot(0, api.Shot{}), hp(0, 2)), hitA}, {"doesn't touch player 0", shot(0, at(-32*one, -5*one-1, 2)), [2]uint8{}, shot(0, older(at(-32*one, -5*one-1, 2))), nil},
		{"its own player 0", shot(0, at(-32*one, 0, 1)), [2]uint8{}, shot(0, older(at(-32*one, 0, 1))), nil}, {"its own player 1", shot(0, at(32*one, 0, 2)), [2]uint8{}, shot(0, older(at(32*one, 0, 2))), nil},
		{"one that is down", all(down, shot(0, near)), [2]uint8{}, all(func(n *api.State) { n.Players[1].Down = 8 }, shot(0, older(near))), nil}, {"its owner is down", all(down, shot(0, at(-32*one, 0, 2))), [2]uint8{}, all(func(n *api.State) { n.Players[1].Down = 8 }, shot(0, api.Shot{}), hp(0, 2)), hitA},
		{"one with 2", all(hp(1, 2), shot(2, near)), [2]uint8{}, all(shot(2, api.Shot{}), hp(1, 1)), hitB}, {"where it has moved to", all(shot(0, at(-32*one, 5*one+61440, 2)), way(0, one)), [2]uint8{}, all(shot(0, api.Shot{}), hp(0, 2), wayThen(0, 61440)), hitA},
		{"of both", all(shot(0, at(27*one, 0, 1)), shot(1, at(-27*one, 0, 2))), [2]uint8{}, all(shot(0, api.Shot{}), shot(1, api.Shot{}), hp(0, 2), hp(1, 2)), []api.Event{aHit(1, 0, panA), aHit(2, 0, panB)}},
		{"fired from close by", func(s *api.State) { s.Players[0].At.X = 20 * one }, [2]uint8{fire}, all(cool(8), hp(1, 2)), []api.Event{aShot(1, 10240), aHit(2, 0, panB)}},
	})
}

// P12.2: one whose strength falls to 0 is down, and the owner scores; nothing more hits it.
func TestStepKills(t *testing.T) {
	killed := func(s *api.State) {
		s.Players[1].Hp, s.Players[1].Down, s.Players[0].Score = 0, 30, s.Players[0].Score+1
	}
	near, late := at(27*one, 0, 1), at(32*one, 0, 1)
	score := func(s *api.State) { s.Players[0].Score, s.Players[1].Score = 1, 2 }
	checkTurns(t, []turn{
		{"kills", all(hp(1, 1), shot(0, near)), [2]uint8{}, all(shot(0, api.Shot{}), killed), []api.Event{aHit(2, 0, panB), aDeath(2, panB)}}, {"kills again", all(hp(1, 1), score, shot(0, near)), [2]uint8{}, all(shot(0, api.Shot{}), killed), []api.Event{aHit(2, 0, panB), aDeath(2, panB)}},
		{"kills player 0", all(hp(0, 1), shot(5, at(-32*one, 0, 2))), [2]uint8{}, all(shot(5, api.Shot{}), func(n *api.State) { n.Players[0].Hp, n.Players[0].Down, n.Players[1].Score = 0, 30, 1 }), []api.Event{aHit(1, 0, panA), aDeath(1, panA)}},
		{"the second one flies on", all(hp(1, 1), shot(0, near), shot(1, late)), [2]uint8{}, all(shot(0, api.Shot{}), shot(1, older(late)), killed), []api.Event{aHit(2, 0, panB), aDeath(2, panB)}},
		{"two kill", all(hp(1, 2), shot(1, near), shot(3, late)), [2]uint8{}, all(shot(1, api.Shot{}), shot(3, api.Shot{}), killed), []api.Event{aHit(2, 0, panB), aHit(2, 1, panB), aDeath(2, panB)}},
		{"three kill, two fly on", func(s *api.State) {
			for i := range 5 {
				s.Shots[i] = late
			}
		}, [2]uint8{}, all(killed, func(n *api.State) {
			n.Shots = [6]api.Shot{3: older(late), 4: older(late)}
		}), []api.Event{aHit(2, 0, panB), aHit(2, 1, panB), aHit(2, 2, panB), aDeath(2, panB)}},
		{"both are killed", all(hp(0, 1), hp(1, 1), shot(0, near), shot(1, at(-27*one, 0, 2))), [2]uint8{}, all(shot(0, api.Shot{}), shot(1, api.Shot{}), killed, func(n *api.State) { n.Players[0].Hp, n.Players[0].Down, n.Players[1].Score = 0, 30, 1 }), []api.Event{aHit(1, 0, panA), aDeath(1, panA), aHit(2, 0, panB), aDeath(2, panB)}},
		{"what else it has stays", all(hp(1, 1), shot(0, near), func(s *api.State) { s.Players[1].Cool, s.Players[1].Wind, s.Players[1].Facing = 4, 5, 6 }), [2]uint8{}, all(shot(0, api.Shot{}), killed, func(n *api.State) { n.Players[1].Cool, n.Players[1].Wind = 3, 4 }), []api.Event{aHit(2, 0, panB), aDeath(2, panB)}},
	})
}

// anew is the next round.
func anew(n *api.State) {
	n.Round++
	n.Left = 600
	n.Players = Begin(0).Players
	n.Shots = [6]api.Shot{}
}

// P12.2: the round ends by Left, and by a Score, and by both at once; the Dice stay.
func TestStepEndsRounds(t *testing.T) {
	lastFrame := func(s *api.State) { s.Left = 1 }
	messy := func(s *api.State) {
		s.Players[0] = api.Player{At: vec(one, 50*one), Way: vec(1, 2), Facing: 9, Hp: 1, Cool: 3, Wind: 4, Score: 2}
		s.Players[1] = api.Player{At: vec(-one, -50*one), Way: vec(1, 2), Facing: 9, Cool: 3, Wind: 4, Down: 5, Score: 1}
		still(6)(s)
		s.Round, s.Dice = 8, 5
	}
	wins := all(hp(1, 1), shot(0, at(27*one, 0, 1)), func(s *api.State) { s.Players[0].Score = 2 })
	loses := all(hp(0, 1), shot(0, at(-27*one, 0, 2)), func(s *api.State) { s.Players[1].Score = 2 })
	deathB, deathA := []api.Event{aRound(), aHit(2, 0, panB), aDeath(2, panB)}, []api.Event{aRound(), aHit(1, 0, panA), aDeath(1, panA)}
	checkTurns(t, []turn{
		{"one frame more", func(s *api.State) { s.Left = 2 }, [2]uint8{}, same, nil}, {"ends by Left", lastFrame, [2]uint8{}, anew, []api.Event{aRound()}}, {"ends by Left, with much under way", all(messy, lastFrame), [2]uint8{}, anew, []api.Event{aRound()}},
		{"a Score of 2", func(s *api.State) { s.Players[0].Score, s.Players[1].Score = 2, 2 }, [2]uint8{}, same, nil}, {"ends by player 0's Score", wins, [2]uint8{}, anew, deathB}, {"ends by player 1's Score", loses, [2]uint8{}, anew, deathA}, {"ends by both Scores", all(wins, loses, shot(1, at(27*one, 0, 1))), [2]uint8{}, anew, []api.Event{aRound(), aHit(1, 0, panA), aDeath(1, panA), aHit(2, 0, panB), aDeath(2, panB)}},
		{"ends by Left and a Score", all(wins, lastFrame), [2]uint8{}, anew, deathB}, {"Left is 2, ends by a Score", all(wins, func(s *api.State) { s.Left = 2 }), [2]uint8{}, anew, deathB}, {"a whole round is left, ends by a Score", all(loses, func(s *api.State) { s.Left = 600 }), [2]uint8{}, anew, deathA},
		{"comes back in the last frame", all(lastFrame, func(s *api.State) { s.Players[1] = api.Player{Down: 1}; s.Dice = 0 }), [2]uint8{}, all(anew, func(n *api.State) { n.Dice = 1013904223 }), []api.Event{aRound(), aSpawn(2, -20480)}},
		{"the last round but one", all(lastFrame, func(s *api.State) { s.Round = most - 1 }), [2]uint8{}, anew, []api.Event{aRound()}},
	})
}

// P12.2 and P12.3: the one corner where the words of the step and those of what follows say otherwise: behind the greatest Round there is one more.
func TestStepBehindTheLastRound(t *testing.T) {
	s := quiet()
	s.Round, s.Left = most, 1
	want := s
	want.Frame++
	anew(&want)
	if n, events, e := Step(s, [2]uint8{}); e != api.OK || n != want || !slices.Equal(events, []api.Event{aRound()}) {
		t.Errorf("behind the last round: %v, %v, %d", n, events, e)
	}
	s.Left = 2
	if n, _, e := Step(s, [2]uint8{}); e != api.OK || n.Round != most || !Right(n) {
		t.Errorf("in the last round: %v, %d", n, e)
	}
}

// P12.2: the events of a frame in which nearly all there is happens, in order, with their Ords.
func TestStepOrdersEvents(t *testing.T) {
	s := quiet()
	s.Frame, s.Left = 32, 1
	s.Players[0].At, s.Players[1].At = vec(-60*one, 59*one), vec(-60*one, 58*one)
	s.Players[0].Facing, s.Players[1].Facing = 32768, 32768
	for i := range 4 {
		s.Shots[i] = at(-60*one, 60*one, 1+i%2)
	}
	n, events, e := Step(s, [2]uint8{thrust | dash | fire, thrust | dash | fire})
	const pan = -30720
	want := inFrame(32, aClash(), aRound(),
		aShot(1, pan), aHit(1, 0, pan), aHit(1, 1, pan), aBump(1, pan), anEngine(1, pan), aDash(1, pan),
		aShot(2, pan), aHit(2, 0, pan), aHit(2, 1, pan), aBump(2, pan), anEngine(2, pan), aDash(2, pan))
	if e != api.OK || !slices.Equal(events, want) || n.Round != 1 {
		t.Errorf("all at once: %v, %d, want %v", events, e, want)
	}
}

// P12.2: Step of states that may not be, and of inputs above MaxInput, the one and the other.
func TestStepOfWrong(t *testing.T) {
	refused := func(name string, s api.State, in [2]uint8, want api.Errno) {
		t.Helper()
		if n, events, e := Step(s, in); n != (api.State{}) || len(events) != 0 || e != want {
			t.Errorf("%s: %v, %v, %d, want %d", name, n, events, e, want)
		}
	}
	for name, s := range wrongStates() {
		refused(name, s, [2]uint8{}, api.ErrArg)
		refused(name, s, [2]uint8{64, 64}, api.ErrArg)
		s.Frame = most
		if name != "Frame -1" && name != "Frame beyond MaxFrame" {
			refused(name+", at MaxFrame", s, [2]uint8{}, api.ErrArg)
		}
	}
	for _, n := range []uint8{64, 65, 127, 128, 192, 255} {
		for _, in := range [][2]uint8{{n, 0}, {0, n}, {n, 63}, {63, n}, {n, n}} {
			refused("a wrong input", Begin(1), in, api.ErrArg)
			s := Begin(1)
			s.Frame = most
			refused("a wrong input at MaxFrame", s, in, api.ErrArg)
		}
	}
	for i, f := range fields() {
		for _, n := range f.beyond() {
			s := middling()
			*f.of(&s) = n
			refused(f.name, s, [2]uint8{uint8(i), 0}, api.ErrArg)
		}
	}
	for _, in := range [][2]uint8{{}, {63, 63}, {0, 16}} {
		for _, s := range []api.State{Begin(1), middling(), quiet()} {
			s.Frame = most
			refused("at MaxFrame", s, in, api.ErrLong)
		}
	}
}

// P12.2: the last frame that is played is the one ahead of MaxFrame; the greatest inputs are taken.
func TestStepOfTheLastFrame(t *testing.T) {
	s := middling()
	s.Frame = most - 1
	if n, _, e := Step(s, [2]uint8{63, 63}); e != api.OK || n.Frame != most || !Right(n) {
		t.Errorf("from the last frame but one: %v, %d", n, e)
	}
	s = Begin(math.MaxUint32)
	if n, events, e := Step(s, [2]uint8{63, 63}); e != api.OK || n.Frame != 1 || len(events) != 6 {
		t.Errorf("all pressed: %v, %v, %d", n, events, e)
	}
}
