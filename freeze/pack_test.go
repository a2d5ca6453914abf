package freeze

import (
	"hash/adler32"
	"math"
	"strings"
	"testing"

	"promptbook/api"
	"promptbook/game"
)

// mustPack is for states that may be.
func mustPack(t *testing.T, s api.State) string {
	t.Helper()
	b, e := Pack(s)
	if e != api.OK {
		t.Fatalf("Pack(%v) = %x, %d", s, b, e)
	}
	return b
}

// The bytes of both players as they begin.
const (
	firstBegins  = "\xff\xff\xff\x01\x00\x00\x00\x00\x03\x00\x00\x00\x00"
	secondBegins = "\x80\x80\x80\x02\x00\x00\x00\x80\x80\x02\x03\x00\x00\x00\x00"
)

// P13.1: Pack and Sum at the beginning, of the least, the greatest and other seeds, byte by byte.
func TestPackBegin(t *testing.T) {
	for seed, dice := range map[uint32]string{0: "\x00", 1: "\x01", 127: "\x7f", 128: "\x80\x01", 300: "\xac\x02", 1 << 31: "\x80\x80\x80\x80\x08", math.MaxUint32: "\xff\xff\xff\xff\x0f"} {
		want := "\x00" + dice + "\x00\xd8\x04" + firstBegins + secondBegins + "\x00"
		s := game.Begin(seed)
		if got, e := Pack(s); got != want || e != api.OK {
			t.Errorf("Pack of the beginning of %d = %x, %d, want %x", seed, got, e, want)
		}
		if got, e := Sum(s); got != adler32.Checksum([]byte(want)) || e != api.OK {
			t.Errorf("Sum of the beginning of %d = %d, %d", seed, got, e)
		}
	}
}

// P13.1: Pack of a state in which no two numbers beside one another are alike, byte by byte.
func TestPackOfEachNumber(t *testing.T) {
	s := api.State{Frame: 1, Dice: 2, Round: 3, Left: 4}
	s.Players[0] = api.Player{At: vec(5, -6), Way: vec(7, -8), Facing: 300, Hp: 1, Cool: 8, Wind: 20, Down: 0, Score: 2}
	s.Players[1] = api.Player{At: vec(-9, 10), Way: vec(-11, 12), Facing: 13, Hp: 0, Cool: 7, Wind: 19, Down: 30, Score: 1}
	s.Shots[1] = api.Shot{At: vec(14, -15), Way: vec(16, -17), Owner: 1, Life: 40}
	s.Shots[5] = api.Shot{At: vec(-18, 19), Way: vec(-20, 21), Owner: 2, Life: 39}
	want := "\x01\x02\x03\x04" +
		"\x0a\x0b\x0e\x0f\xac\x02\x01\x08\x14\x00\x02" +
		"\x11\x14\x15\x18\x0d\x00\x07\x13\x1e\x01" +
		"\x22" + "\x1c\x1d\x20\x21\x01\x28" + "\x23\x26\x27\x2a\x02\x27"
	if got := mustPack(t, s); got != want {
		t.Errorf("Pack = %x, want %x", got, want)
	}
}

// P13.1: Pack and Sum of states of all kinds, by the chapter's words and the library's sum of that name.
func TestPackByWords(t *testing.T) {
	for _, s := range rightStates(t) {
		want := bytesByWords(s)
		if got := mustPack(t, s); got != want {
			t.Fatalf("Pack(%v) = %x, want %x", s, got, want)
		}
		if got, e := Sum(s); got != adler32.Checksum([]byte(want)) || e != api.OK {
			t.Fatalf("Sum(%v) = %d, %d, want %d", s, got, e, adler32.Checksum([]byte(want)))
		}
	}
}

// P13.1: a game comes by shots of each place, and by players that are down, so that these are held against the words, too.
func TestPlayedHasAll(t *testing.T) {
	var flew [6]bool
	var fell, rounds int
	for _, s := range played(t, 5, 1500) {
		for i, x := range s.Shots {
			flew[i] = flew[i] || x.Owner != 0
		}
		if s.Players[0].Down > 0 || s.Players[1].Down > 0 {
			fell++
		}
		rounds = max(rounds, s.Round)
	}
	if flew != [6]bool{true, true, true, true, true, true} || fell == 0 || rounds == 0 {
		t.Errorf("shots that flew: %v, frames with one down: %d, rounds: %d", flew, fell, rounds)
	}
}

// P13.1: of shots the byte tells each one that flies by its bit, and only these are told.
func TestPackOfShots(t *testing.T) {
	ahead := bytesByWords(withShots(full(), 0))
	ahead = ahead[:len(ahead)-1]
	for bits := range 64 {
		s := withShots(full(), bits)
		want := ahead + string([]byte{byte(bits)})
		for i, x := range s.Shots {
			if bits>>i%2 == 1 {
				want += told(int64(x.At.X), true) + told(int64(x.At.Y), true) + told(int64(x.Way.X), true) + told(int64(x.Way.Y), true) +
					string([]byte{byte(x.Owner), byte(x.Life)})
			}
		}
		if got := mustPack(t, s); got != want {
			t.Errorf("Pack with the shots %b = %x, want %x", bits, got, want)
		}
	}
}

// P13.1: ErrArg, and nothing else, of states that may not be, by each of their parts.
func TestPackWrong(t *testing.T) {
	for _, x := range wrongStates(t) {
		if got, e := Pack(x.State); got != "" || e != api.ErrArg {
			t.Errorf("%s: Pack(%v) = %x, %d, want ErrArg", x.why, x.State, got, e)
		}
		if got, e := Sum(x.State); got != 0 || e != api.ErrArg {
			t.Errorf("%s: Sum(%v) = %d, %d, want ErrArg", x.why, x.State, got, e)
		}
	}
}

// P13.1: ErrArg of numbers that are right only if they are cut to 32 bits.
func TestPackFarTooGreat(t *testing.T) {
	for _, n := range numbersOf(full()) {
		if n.signed || n.name == "Dice" {
			continue
		}
		for _, more := range []int64{1 << 32, -1 << 32, 1 << 40, math.MinInt64} {
			s := full()
			n.set(&s, n.get(&s)+more)
			if got, e := Pack(s); got != "" || e != api.ErrArg {
				t.Errorf("Pack with %d more as %s %s = %x, %d", more, n.part, n.name, got, e)
			}
			if got, e := Sum(s); got != 0 || e != api.ErrArg {
				t.Errorf("Sum with %d more as %s %s = %d, %d", more, n.part, n.name, got, e)
			}
		}
	}
}

// P13.1: what is answered hangs on what is handed in alone, and what is handed in stays as it is.
func TestHandedIn(t *testing.T) {
	for _, s := range []api.State{full(), fallen(), {}} {
		was := s
		b, e := Pack(s)
		sum, e2 := Sum(s)
		if s != was {
			t.Errorf("%v was made %v", was, s)
		}
		if b2, e3 := Pack(s); b2 != b || e3 != e {
			t.Errorf("Pack again: %x, %d, was %x, %d", b2, e3, b, e)
		}
		if sum2, e3 := Sum(s); sum2 != sum || e3 != e2 {
			t.Errorf("Sum again: %d, %d, was %d, %d", sum2, e3, sum, e2)
		}
	}
	for _, x := range []string{bytesByWords(full()), bytesByWords(full()) + "\x00", "", "\x80\x00"} {
		was := strings.Clone(x)
		s, e := Unpack(x)
		s2, e2 := Unpack(x)
		if x != was || s2 != s || e2 != e {
			t.Errorf("Unpack(%x) = %v, %d, then of %x %v, %d", was, s, e, x, s2, e2)
		}
	}
}
