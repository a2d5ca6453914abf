package game

import (
	"math"
	"testing"

	"promptbook/api"
)

const (
	one  = api.One
	most = api.MaxFrame
)

// vec spares the tables their fields' names.
func vec(x, y api.Fix) api.Vec {
	return api.Vec{X: x, Y: y}
}

// strewn tells numbers from 0 up to below n, by a fixed rule.
type strewn uint64

func (r *strewn) below(n int) int {
	*r ^= *r << 13
	*r ^= *r >> 7
	*r ^= *r << 17
	return int(uint64(*r) >> 16 % uint64(n))
}

// from tells numbers from low up to high.
func (r *strewn) from(low, high int) int {
	return low + r.below(high-low+1)
}

// field is a whole number of a state, and from where to where it may be.
type field struct {
	name      string
	of        func(s *api.State) *int
	low, high int
}

// fields are all of a state that is middling, of both players and of all shots.
func fields() []field {
	l := []field{
		{"Frame", func(s *api.State) *int { return &s.Frame }, 0, 1 << 30},
		{"Round", func(s *api.State) *int { return &s.Round }, 0, 1 << 30},
		{"Left", func(s *api.State) *int { return &s.Left }, 1, 600},
	}
	for who := range 2 {
		l = append(l,
			field{"Facing", func(s *api.State) *int { return &s.Players[who].Facing }, 0, 65535},
			field{"Cool", func(s *api.State) *int { return &s.Players[who].Cool }, 0, 8},
			field{"Wind", func(s *api.State) *int { return &s.Players[who].Wind }, 0, 20},
			field{"Score", func(s *api.State) *int { return &s.Players[who].Score }, 0, 2},
		)
	}
	// Of a player that is up, and of one that is down.
	l = append(l,
		field{"Hp", func(s *api.State) *int { return &s.Players[0].Hp }, 1, 3},
		field{"Down", func(s *api.State) *int { return &s.Players[0].Down }, 0, 0},
		field{"Hp", func(s *api.State) *int { return &s.Players[1].Hp }, 0, 0},
		field{"Down", func(s *api.State) *int { return &s.Players[1].Down }, 1, 30},
	)
	for i := range 6 {
		l = append(l,
			field{"Owner", func(s *api.State) *int { return &s.Shots[i].Owner }, 1, 2},
			field{"Life", func(s *api.State) *int { return &s.Shots[i].Life }, 1, 40},
		)
	}
	return l
}

// beyond are numbers that the field may not be: one beyond each end first.
func (f field) beyond() []int {
	return []int{f.low - 1, f.high + 1, f.low - 2, f.high + 2, f.low + 1<<32, f.low - 1<<32, math.MinInt, math.MaxInt}
}

// place is a number of a place of a state, which may be from -far to far.
type place struct {
	name string
	of   func(s *api.State) *api.Fix
	far  api.Fix
}

// places are all of a state.
func places() []place {
	var l []place
	for who := range 2 {
		l = append(l,
			place{"a player's At.X", func(s *api.State) *api.Fix { return &s.Players[who].At.X }, 60 * one},
			place{"a player's At.Y", func(s *api.State) *api.Fix { return &s.Players[who].At.Y }, 60 * one},
		)
	}
	for i := range 6 {
		l = append(l,
			place{"a shot's At.X", func(s *api.State) *api.Fix { return &s.Shots[i].At.X }, 64 * one},
			place{"a shot's At.Y", func(s *api.State) *api.Fix { return &s.Shots[i].At.Y }, 64 * one},
		)
	}
	return l
}

// middling is a state in which player 1 is down and all shots fly, and hardly a number is at an end.
func middling() api.State {
	s := api.State{Frame: 700, Dice: 99, Round: 3, Left: 200}
	s.Players[0] = api.Player{At: vec(-5*one, 7), Way: vec(9, -one), Facing: 4000, Hp: 2, Cool: 3, Wind: 4, Score: 1}
	s.Players[1] = api.Player{At: vec(33*one, -4*one), Way: vec(-7, one), Facing: 9000, Cool: 2, Wind: 11, Down: 12, Score: 1}
	for i := range s.Shots {
		s.Shots[i] = api.Shot{At: vec(api.Fix(i)*one, -50*one), Way: vec(one, 2), Owner: 1 + i%2, Life: 20}
	}
	return s
}

// P12.1: Begin of the least, the greatest and other seeds: the state at its beginning, number by number.
func TestBegin(t *testing.T) {
	for _, seed := range []uint32{0, 1, 77, 1 << 31, math.MaxUint32} {
		want := api.State{Frame: 0, Dice: seed, Round: 0, Left: 600}
		want.Players[0] = api.Player{At: vec(-32*one, 0), Facing: 0, Hp: 3}
		want.Players[1] = api.Player{At: vec(32*one, 0), Facing: 32768, Hp: 3}
		if got := Begin(seed); got != want {
			t.Errorf("Begin(%d) = %v, want %v", seed, got, want)
		}
		if !Right(Begin(seed)) {
			t.Errorf("the beginning of %d may not be", seed)
		}
	}
}

// P12.1: Right of each whole number of a state, a player and a shot at its least and its greatest, and beyond each.
func TestRightOfEachField(t *testing.T) {
	if !Right(middling()) {
		t.Fatal("the middling state may not be")
	}
	for i, f := range fields() {
		for _, n := range []int{f.low, f.high, (f.low + f.high) / 2} {
			s := middling()
			*f.of(&s) = n
			if !Right(s) {
				t.Errorf("field %d, %s of %d: false", i, f.name, n)
			}
		}
		for _, n := range f.beyond() {
			s := middling()
			*f.of(&s) = n
			if Right(s) {
				t.Errorf("field %d, %s of %d: true", i, f.name, n)
			}
		}
	}
}

// P12.1: Right of places at the walls, of players in their box and of shots in the arena, and one beyond each.
func TestRightOfEachPlace(t *testing.T) {
	for i, p := range places() {
		for _, n := range []api.Fix{-p.far, p.far, 0} {
			s := middling()
			*p.of(&s) = n
			if !Right(s) {
				t.Errorf("place %d, %s of %d: false", i, p.name, n)
			}
		}
		for _, n := range []api.Fix{-p.far - 1, p.far + 1, api.MinFix, api.MaxFix} {
			s := middling()
			*p.of(&s) = n
			if Right(s) {
				t.Errorf("place %d, %s of %d: true", i, p.name, n)
			}
		}
	}
}

// P12.1: Right of a player that is up with each strength, and of one that is down with each: a player has strength just if it is up.
func TestRightOfUpAndDown(t *testing.T) {
	for who := range 2 {
		for hp := -1; hp <= 4; hp++ {
			for down := -1; down <= 31; down++ {
				s := Begin(1)
				s.Players[who].Hp, s.Players[who].Down = hp, down
				want := hp >= 1 && hp <= 3 && down == 0 || hp == 0 && down >= 1 && down <= 30
				if got := Right(s); got != want {
					t.Errorf("Hp %d and Down %d of player %d: %v", hp, down, who, got)
				}
			}
		}
	}
}

// P12.1: Right of shots that are all 0, and of those without an Owner that aren't, each number by itself.
func TestRightOfFreeShots(t *testing.T) {
	for i := range 6 {
		s := middling()
		s.Shots[i] = api.Shot{}
		if !Right(s) {
			t.Errorf("with shot %d free: false", i)
		}
		for _, x := range []api.Shot{
			{At: vec(1, 0)}, {At: vec(-1, 0)}, {At: vec(0, 1)}, {At: vec(0, 64*one)}, {Way: vec(1, 0)}, {Way: vec(0, -1)}, {Life: 1}, {Life: 40}, {Life: -1}, {Life: 41},
			{At: vec(one, one), Way: vec(one, one), Life: 5}, {Owner: 1}, {Owner: 2}, {Owner: -1}, {Owner: 3}, {Owner: 3, Life: 5}, {Owner: -1, Life: 5},
		} {
			s.Shots[i] = x
			if Right(s) {
				t.Errorf("with %v as shot %d: true", x, i)
			}
		}
		s.Shots[i] = api.Shot{Owner: 2, Life: 1}
		if !Right(s) {
			t.Errorf("with one of Life 1 as shot %d: false", i)
		}
	}
	s := Begin(3)
	if !Right(s) {
		t.Error("with all shots free: false")
	}
}

// P12.1: ways may be of any numbers, and so may the Dice.
func TestRightOfAnyWay(t *testing.T) {
	for _, n := range []api.Fix{api.MinFix, -1, 0, 1, api.MaxFix} {
		for _, dice := range []uint32{0, 1, math.MaxUint32} {
			s := middling()
			s.Dice = dice
			s.Players[0].Way, s.Players[1].Way = vec(n, -n), vec(api.MaxFix, n)
			s.Shots[0].Way, s.Shots[5].Way = vec(n, 0), vec(0, n)
			if !Right(s) {
				t.Errorf("with ways of %d and Dice %d: false", n, dice)
			}
		}
	}
	if Right(api.State{}) {
		t.Error("the zero state may be")
	}
}

// wrongStates are such as may not be, by what is wrong.
func wrongStates() map[string]api.State {
	m := map[string]api.State{"the zero state": {}}
	add := func(name string, change func(s *api.State)) {
		s := Begin(1)
		change(&s)
		m[name] = s
	}
	add("Frame -1", func(s *api.State) { s.Frame = -1 })
	add("Frame beyond MaxFrame", func(s *api.State) { s.Frame = most + 1 })
	add("Round beyond MaxFrame", func(s *api.State) { s.Round = most + 1 })
	add("Left 0", func(s *api.State) { s.Left = 0 })
	add("Facing a turn", func(s *api.State) { s.Players[1].Facing = 65536 })
	add("up without strength", func(s *api.State) { s.Players[0].Hp = 0 })
	add("down with strength", func(s *api.State) { s.Players[1].Down = 1 })
	add("Cool 9", func(s *api.State) { s.Players[0].Cool = 9 })
	add("Wind 21", func(s *api.State) { s.Players[1].Wind = 21 })
	add("Score 3", func(s *api.State) { s.Players[0].Score = 3 })
	add("At in the wall", func(s *api.State) { s.Players[1].At.X++; s.Players[1].At.Y = 60*one + 1 })
	add("a shot of nobody", func(s *api.State) { s.Shots[5].Life = 1 })
	add("a shot of a third one", func(s *api.State) { s.Shots[0] = api.Shot{Owner: 3, Life: 2} })
	add("a shot outside", func(s *api.State) { s.Shots[2] = api.Shot{At: vec(0, -64*one-1), Owner: 1, Life: 2} })
	return m
}
