package freeze

import (
	"slices"
	"testing"

	"promptbook/api"
	"promptbook/game"
)

// parts are all that Differ tells, in order.
var parts = []string{"frame", "dice", "round", "left", "one", "two", "shots"}

// checkDiffer asks both ways round.
func checkDiffer(t *testing.T, a, b api.State, want []string) {
	t.Helper()
	wasA, wasB := a, b
	for _, x := range [][2]api.State{{a, b}, {b, a}} {
		if got := Differ(x[0], x[1]); !slices.Equal(got, want) {
			t.Fatalf("Differ(%v, %v) = %v, want %v", x[0], x[1], got, want)
		}
	}
	if a != wasA || b != wasB {
		t.Fatalf("%v and %v were made %v and %v", wasA, wasB, a, b)
	}
}

// P13.2: the chapter's example, by another seed.
func TestDifferDice(t *testing.T) {
	checkDiffer(t, game.Begin(1), game.Begin(2), []string{"dice"})
	a := full()
	b := a
	b.Dice++
	checkDiffer(t, a, b, []string{"dice"})
}

// P13.2: nothing of states that are the same, also of such as may not be.
func TestDifferSame(t *testing.T) {
	for _, s := range rightStates(t) {
		checkDiffer(t, s, s, nil)
	}
	for _, x := range wrongStates(t) {
		checkDiffer(t, x.State, x.State, nil)
	}
}

// P13.2: of states that differ in one number alone its part, whether they may be or not.
func TestDifferOne(t *testing.T) {
	for _, from := range []api.State{full(), fallen(), game.Begin(4), {}} {
		for _, n := range numbersOf(from) {
			now := n.get(&from)
			for _, x := range append(n.beyond(), n.low, n.high, now+1, now-1) {
				s := from
				n.set(&s, x)
				if s != from {
					checkDiffer(t, from, s, []string{n.part})
				}
			}
		}
	}
}

// P13.2: numbers that are alike only if they are cut to 32 bits differ.
func TestDifferFarOff(t *testing.T) {
	for _, n := range numbersOf(full()) {
		if n.signed || n.name == "Dice" {
			continue
		}
		s, from := full(), full()
		n.set(&s, n.get(&s)+1<<32)
		checkDiffer(t, from, s, []string{n.part})
	}
}

// P13.2: of states that differ in several numbers each part once, in order, for each choice of parts.
func TestDifferSeveral(t *testing.T) {
	for _, from := range []api.State{full(), game.Begin(4), {Frame: -1, Round: -5}} {
		for bits := range 128 {
			var want []string
			all, single := from, from
			for i, part := range parts {
				if bits>>i%2 == 0 {
					continue
				}
				want = append(want, part)
				changed := false
				for _, n := range numbersOf(from) {
					if n.part != part {
						continue
					}
					n.set(&all, n.get(&all)+3)
					if !changed {
						n.set(&single, n.get(&single)+1)
						changed = true
					}
				}
			}
			checkDiffer(t, from, all, want)
			checkDiffer(t, from, single, want)
		}
	}
}

// P13.2: players and shots that are exchanged differ in both players, and in their shots.
func TestDifferExchanged(t *testing.T) {
	checkDiffer(t, full(), fallen(), []string{"one", "two"})
	a := full()
	b := a
	b.Shots[0], b.Shots[5] = b.Shots[5], b.Shots[0]
	checkDiffer(t, a, b, []string{"shots"})
	for i := range 6 {
		checkDiffer(t, withShots(a, 63-1<<i), a, []string{"shots"})
	}
}

// P13.2: of all kinds of states nothing is told just if they are the same, and unlike bytes tell that they aren't.
func TestDifferAndPack(t *testing.T) {
	l := few()
	for _, a := range l {
		for _, b := range l {
			same := len(Differ(a, b)) == 0
			if same != (a == b) || same != (mustPack(t, a) == mustPack(t, b)) {
				t.Fatalf("Differ(%v, %v) = %v", a, b, Differ(a, b))
			}
		}
	}
}

// P13.2: what is answered is new memory.
func TestDifferNewMemory(t *testing.T) {
	a, b := game.Begin(1), full()
	first := Differ(a, b)
	for i := range first {
		first[i] = "written over"
	}
	if got := Differ(a, b); !slices.Equal(got, parts) {
		t.Errorf("Differ after its answer was written over: %v", got)
	}
}
