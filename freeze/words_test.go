package freeze

import (
	"encoding/binary"
	"math"
	"strings"
	"testing"

	"promptbook/api"
	"promptbook/game"
)

const one = api.One

// vec spares the tables their fields' names.
func vec(x, y api.Fix) api.Vec {
	return api.Vec{X: x, Y: y}
}

// strewn tells numbers by a fixed rule.
type strewn uint64

func (r *strewn) next() uint64 {
	*r ^= *r << 13
	*r ^= *r >> 7
	*r ^= *r << 17
	return uint64(*r)
}

// below tells numbers from 0 up to below n.
func (r *strewn) below(n int) int {
	return int(r.next() >> 16 % uint64(n))
}

// number is one of a state, as it is told: in which part of it, and from where to where it may be in full and fallen.
type number struct {
	part, name string
	signed     bool // it is told with a sign
	low, high  int64
	get        func(s *api.State) int64
	set        func(s *api.State, n int64)
}

// within spares the list below what is the same of all whole numbers.
func within[T int | uint32](part, name string, of func(s *api.State) *T, low, high int64) number {
	return number{part, name, false, low, high, func(s *api.State) int64 { return int64(*of(s)) }, func(s *api.State, n int64) { *of(s) = T(n) }}
}

// upTo is a number of a place or a way, from low up to high.
func upTo(part, name string, of func(s *api.State) *api.Fix, low, high api.Fix) number {
	return number{part, name, true, int64(low), int64(high), func(s *api.State) int64 { return int64(*of(s)) }, func(s *api.State, n int64) { *of(s) = api.Fix(n) }}
}

// full is a state of which player 1 is down, all shots fly, and hardly a number is at an end, or is as another one.
func full() api.State {
	s := api.State{Frame: 700, Dice: 3000000099, Round: 3, Left: 200}
	s.Players[0] = api.Player{At: vec(-5*one, 7), Way: vec(9, -one), Facing: 4000, Hp: 2, Cool: 3, Wind: 4, Score: 1}
	s.Players[1] = api.Player{At: vec(33*one, -4*one), Way: vec(-700, 2*one), Facing: 59000, Cool: 5, Wind: 11, Down: 12, Score: 2}
	for i := range s.Shots {
		s.Shots[i] = api.Shot{At: vec(api.Fix(i)*one, -50*one-api.Fix(i)), Way: vec(one+api.Fix(i), -200*api.Fix(i)), Owner: 1 + i%2, Life: 20 + i}
	}
	return s
}

// fallen is as full, the other player down.
func fallen() api.State {
	s := full()
	s.Players[0], s.Players[1] = s.Players[1], s.Players[0]
	return s
}

// numbersOf are all of a state in which both players are up or down as in s, in the order in which they are told; a byte of shots is told ahead of the first one in the part shots.
func numbersOf(s api.State) []number {
	l := []number{
		within("frame", "Frame", func(s *api.State) *int { return &s.Frame }, 0, 1<<30),
		within("dice", "Dice", func(s *api.State) *uint32 { return &s.Dice }, 0, math.MaxUint32),
		within("round", "Round", func(s *api.State) *int { return &s.Round }, 0, 1<<30),
		within("left", "Left", func(s *api.State) *int { return &s.Left }, 1, 600),
	}
	for who, part := range []string{"one", "two"} {
		leastHp, mostHp, leastDown, mostDown := int64(1), int64(3), int64(0), int64(0)
		if s.Players[who].Down > 0 {
			leastHp, mostHp, leastDown, mostDown = 0, 0, 1, 30
		}
		l = append(l,
			upTo(part, "At.X", func(s *api.State) *api.Fix { return &s.Players[who].At.X }, -60*one, 60*one),
			upTo(part, "At.Y", func(s *api.State) *api.Fix { return &s.Players[who].At.Y }, -60*one, 60*one),
			upTo(part, "Way.X", func(s *api.State) *api.Fix { return &s.Players[who].Way.X }, math.MinInt32, math.MaxInt32),
			upTo(part, "Way.Y", func(s *api.State) *api.Fix { return &s.Players[who].Way.Y }, math.MinInt32, math.MaxInt32),
			within(part, "Facing", func(s *api.State) *int { return &s.Players[who].Facing }, 0, 65535),
			within(part, "Hp", func(s *api.State) *int { return &s.Players[who].Hp }, leastHp, mostHp),
			within(part, "Cool", func(s *api.State) *int { return &s.Players[who].Cool }, 0, 8),
			within(part, "Wind", func(s *api.State) *int { return &s.Players[who].Wind }, 0, 20),
			within(part, "Down", func(s *api.State) *int { return &s.Players[who].Down }, leastDown, mostDown),
			within(part, "Score", func(s *api.State) *int { return &s.Players[who].Score }, 0, 2),
		)
	}
	for i := range 6 {
		l = append(l,
			upTo("shots", "At.X", func(s *api.State) *api.Fix { return &s.Shots[i].At.X }, -64*one, 64*one),
			upTo("shots", "At.Y", func(s *api.State) *api.Fix { return &s.Shots[i].At.Y }, -64*one, 64*one),
			upTo("shots", "Way.X", func(s *api.State) *api.Fix { return &s.Shots[i].Way.X }, math.MinInt32, math.MaxInt32),
			upTo("shots", "Way.Y", func(s *api.State) *api.Fix { return &s.Shots[i].Way.Y }, math.MinInt32, math.MaxInt32),
			within("shots", "Owner", func(s *api.State) *int { return &s.Shots[i].Owner }, 1, 2),
			within("shots", "Life", func(s *api.State) *int { return &s.Shots[i].Life }, 1, 40),
		)
	}
	return l
}

// beyond are numbers of 32 bits with a sign that it may not be, one beyond each end first; a Dice may be any.
func (n number) beyond() []int64 {
	var l []int64
	if n.part == "dice" {
		return nil
	}
	for _, x := range []int64{n.low - 1, n.high + 1, n.low - 2, n.high + 2, math.MinInt32, math.MaxInt32} {
		if (x < n.low || x > n.high) && x >= math.MinInt32 && x <= math.MaxInt32 {
			l = append(l, x)
		}
	}
	return l
}

// told are the bytes of a number, as the library tells one of this kind.
func told(n int64, signed bool) string {
	if signed {
		return string(binary.AppendVarint(nil, n))
	}
	return string(binary.AppendUvarint(nil, uint64(n)))
}

// pieces are a state's bytes by the chapter's words, number by number, and the place of the byte of shots among them; the state needn't be such as may be.
func pieces(s api.State) ([]string, int) {
	l := []string{told(int64(s.Frame), false), told(int64(s.Dice), false), told(int64(s.Round), false), told(int64(s.Left), false)}
	way := func(v api.Vec) {
		l = append(l, told(int64(v.X), true), told(int64(v.Y), true))
	}
	for _, p := range s.Players {
		way(p.At)
		way(p.Way)
		l = append(l, told(int64(p.Facing), false), told(int64(p.Hp), false), told(int64(p.Cool), false))
		l = append(l, told(int64(p.Wind), false), told(int64(p.Down), false), told(int64(p.Score), false))
	}
	shots, at := byte(0), len(l)
	l = append(l, "")
	for i, bit := range []byte{1, 2, 4, 8, 16, 32} {
		x := s.Shots[i]
		if x == (api.Shot{}) {
			continue
		}
		shots += bit
		way(x.At)
		way(x.Way)
		l = append(l, told(int64(x.Owner), false), told(int64(x.Life), false))
	}
	l[at] = string([]byte{shots})
	return l, at
}

func bytesByWords(s api.State) string {
	l, _ := pieces(s)
	return strings.Join(l, "")
}

// source reads numbers with the library, and knows whether all was right till now.
type source struct {
	rest  []byte
	wrong bool
}

// number takes one that is told by as few bytes as can be.
func (x *source) number() uint64 {
	n, size := binary.Uvarint(x.rest)
	if size <= 0 || size > 1 && x.rest[size-1] == 0 {
		x.wrong = true
		return 0
	}
	x.rest = x.rest[size:]
	return n
}

// upTo takes one of at most so much.
func (x *source) upTo(most uint64) int {
	n := x.number()
	if n > most {
		x.wrong = true
		return 0
	}
	return int(n)
}

// vec takes two numbers of 32 bits with a sign.
func (x *source) vec() api.Vec {
	var l [2]api.Fix
	for i := range l {
		n := x.upTo(math.MaxUint32)
		if n%2 == 0 {
			l[i] = api.Fix(n / 2)
		} else {
			l[i] = api.Fix(-n/2 - 1)
		}
	}
	return vec(l[0], l[1])
}

// stateByWords is the state whose bytes t is, read number by number; false, if it is none's.
func stateByWords(t string) (api.State, bool) {
	x := source{rest: []byte(t)}
	var s api.State
	s.Frame, s.Dice, s.Round, s.Left = x.upTo(1<<30), uint32(x.upTo(math.MaxUint32)), x.upTo(1<<30), x.upTo(600)
	for i := range s.Players {
		p := &s.Players[i]
		p.At, p.Way = x.vec(), x.vec()
		p.Facing, p.Hp, p.Cool, p.Wind, p.Down, p.Score = x.upTo(65535), x.upTo(3), x.upTo(8), x.upTo(20), x.upTo(30), x.upTo(2)
	}
	if x.wrong || len(x.rest) == 0 || x.rest[0] > 63 {
		return api.State{}, false
	}
	shots := x.rest[0]
	x.rest = x.rest[1:]
	for i := range s.Shots {
		if shots>>i%2 == 0 {
			continue
		}
		s.Shots[i] = api.Shot{At: x.vec(), Way: x.vec(), Owner: x.upTo(2), Life: x.upTo(40)}
		if s.Shots[i] == (api.Shot{}) {
			return api.State{}, false
		}
	}
	if x.wrong || len(x.rest) > 0 || !game.Right(s) {
		return api.State{}, false
	}
	return s, true
}

// draw is any state that may be: each number at an end at times, shots free at times.
func (r *strewn) draw() api.State {
	s := full()
	if r.below(2) == 0 {
		s = fallen()
	}
	if r.below(3) == 0 {
		for i := range s.Players {
			s.Players[i].Hp, s.Players[i].Down = 1, 0
		}
	}
	ends := r.below(4)
	for _, n := range numbersOf(s) {
		n.set(&s, r.between(n.low, n.high, ends))
	}
	for i := range s.Shots {
		if r.below(2) == 0 {
			s.Shots[i] = api.Shot{}
		}
	}
	return s
}

// between is a number from low up to high, the more often at an end, about 0 or small the greater ends is.
func (r *strewn) between(low, high int64, ends int) int64 {
	n := low + int64(r.below(int(high-low+1)))
	if r.below(4) < ends {
		n = []int64{low, high, 0, 1, -1, 63, -64, 64, -65, 127, 128, n % 5, n % 300}[r.below(13)]
	}
	return max(low, min(high, n))
}

// drawn are many states, no two alike.
func drawn(seed uint64, many int) []api.State {
	r := strewn(seed)
	known := map[api.State]bool{}
	var l []api.State
	for len(l) < many {
		s := r.draw()
		if !known[s] {
			known[s] = true
			l = append(l, s)
		}
	}
	return l
}

// played are the states of a long game.
func played(t *testing.T, seed uint32, frames int) []api.State {
	t.Helper()
	r := strewn(uint64(seed) + 1)
	s := game.Begin(seed)
	l := []api.State{s}
	for range frames {
		next, _, e := game.Step(s, [2]uint8{uint8(r.below(64)), uint8(r.below(64) | api.InFire)})
		if e != api.OK {
			t.Fatalf("the game of %d stops at %v: %d", seed, s, e)
		}
		s = next
		l = append(l, s)
	}
	return l
}

// ends are states all of whose numbers are at their least, and at their greatest, either player down, and both up.
func ends() []api.State {
	var l []api.State
	up := full()
	up.Players[1].Hp, up.Players[1].Down = 1, 0
	for _, s := range []api.State{full(), fallen(), up} {
		least, greatest := s, s
		for _, n := range numbersOf(s) {
			n.set(&least, n.low)
			n.set(&greatest, n.high)
		}
		l = append(l, least, greatest)
	}
	return l
}

// oneByOne are states of which one number alone is at an end.
func oneByOne() []api.State {
	var l []api.State
	for _, from := range []api.State{full(), fallen()} {
		for _, n := range numbersOf(from) {
			for _, x := range []int64{n.low, n.high} {
				s := from
				n.set(&s, x)
				l = append(l, s)
			}
		}
	}
	return l
}

// withShots: of its shots those of the bits alone, the others free.
func withShots(s api.State, bits int) api.State {
	for i := range s.Shots {
		if bits>>i%2 == 0 {
			s.Shots[i] = api.Shot{}
		}
	}
	return s
}

// shooting are states with each choice of shots that fly: none, each one alone, all.
func shooting() []api.State {
	var l []api.State
	for bits := range 64 {
		l = append(l, withShots(full(), bits))
	}
	return l
}

// rightStates are of all these kinds.
func rightStates(t *testing.T) []api.State {
	t.Helper()
	l := []api.State{game.Begin(0), game.Begin(1), game.Begin(300), game.Begin(math.MaxUint32), full(), fallen()}
	l = append(l, ends()...)
	l = append(l, oneByOne()...)
	l = append(l, shooting()...)
	l = append(l, played(t, 5, 1500)...)
	l = append(l, drawn(6, 3000)...)
	for _, s := range l {
		if !game.Right(s) {
			t.Fatalf("%v may not be", s)
		}
	}
	return l
}

// wrong is a state that may not be, and by what.
type wrong struct {
	why string
	api.State
}

// wrongStates are such by each of their parts.
func wrongStates(t *testing.T) []wrong {
	t.Helper()
	l := []wrong{{"all 0", api.State{}}}
	for _, from := range []api.State{full(), fallen()} {
		for _, n := range numbersOf(from) {
			for _, x := range n.beyond() {
				s := from
				n.set(&s, x)
				l = append(l, wrong{n.part + " " + n.name, s})
			}
		}
	}
	for who := range 2 {
		for _, x := range [][2]int{{0, 0}, {1, 1}, {3, 30}, {2, 12}} {
			s := game.Begin(7)
			s.Players[who].Hp, s.Players[who].Down = x[0], x[1]
			l = append(l, wrong{"up or down", s})
		}
	}
	for i := range 6 {
		for _, x := range []api.Shot{{At: vec(1, 0)}, {At: vec(0, -1)}, {Way: vec(-1, 0)}, {Way: vec(0, 1)}, {Owner: 1}, {Owner: 2}, {Life: 1}, {Life: 40}, {At: vec(one, 3), Way: vec(2, 2), Life: 9}} {
			s := game.Begin(7)
			s.Shots[i] = x
			l = append(l, wrong{"a shot that is neither free nor flies", s})
		}
	}
	for _, x := range l {
		if game.Right(x.State) {
			t.Fatalf("%s: %v may be", x.why, x.State)
		}
	}
	return l
}
