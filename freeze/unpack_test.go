package freeze

import (
	"math"
	"math/bits"
	"strings"
	"testing"

	"promptbook/api"
	"promptbook/game"
)

// few are states of all kinds, no two alike.
func few() []api.State {
	l := append(shooting(), game.Begin(0), game.Begin(300), fallen())
	l = append(l, ends()...)
	return append(l, drawn(8, 40)...)
}

// checkNone: t is no state's bytes.
func checkNone(t *testing.T, b, why string) {
	t.Helper()
	if s, e := Unpack(b); s != (api.State{}) || e != api.ErrForm {
		t.Fatalf("%s: Unpack(%x) = %v, %d, want ErrForm", why, b, s, e)
	}
}

// checkWords: Unpack answers what the bytes tell number by number.
func checkWords(t *testing.T, b string) {
	t.Helper()
	want, there := stateByWords(b)
	if !there {
		checkNone(t, b, "by the words")
		return
	}
	if s, e := Unpack(b); s != want || e != api.OK {
		t.Fatalf("Unpack(%x) = %v, %d, want %v", b, s, e, want)
	}
}

// P13.1 and P13.3: what is packed is unpacked, of states of all kinds; bytes made by the words are, too.
func TestUnpack(t *testing.T) {
	for _, s := range rightStates(t) {
		for _, b := range []string{mustPack(t, s), bytesByWords(s)} {
			if got, e := Unpack(b); got != s || e != api.OK {
				t.Fatalf("Unpack(%x) = %v, %d, want %v", b, got, e, s)
			}
		}
	}
}

// P13.1: the state of bytes that are written out.
func TestUnpackWritten(t *testing.T) {
	b := "\x00\xac\x02\x00\xd8\x04" + firstBegins + secondBegins + "\x04\x01\x00\x00\x02\x02\x09"
	want := game.Begin(300)
	want.Shots[2] = api.Shot{At: vec(-1, 0), Way: vec(0, 1), Owner: 2, Life: 9}
	if got, e := Unpack(b); got != want || e != api.OK {
		t.Errorf("Unpack(%x) = %v, %d, want %v", b, got, e, want)
	}
}

// P13.1: ErrForm of no bytes, of a few, and of many that are alike.
func TestUnpackNone(t *testing.T) {
	checkNone(t, "", "no bytes")
	for b := range 256 {
		x := string([]byte{byte(b)})
		for _, many := range []int{1, 2, 24, 25, 31, 60, 61, 62, 100, 5000} {
			checkNone(t, strings.Repeat(x, many), "like bytes")
		}
	}
}

// P13.1: ErrForm of a state's bytes cut at each place, from behind and from ahead.
func TestUnpackCut(t *testing.T) {
	for _, s := range few() {
		b := mustPack(t, s)
		for i := range len(b) {
			checkNone(t, b[:i], "cut behind")
			if i > 0 {
				checkWords(t, b[i:])
			}
		}
	}
}

// P13.1: ErrForm with one more byte behind, whichever it is, with several, and with the same bytes once more.
func TestUnpackMore(t *testing.T) {
	for _, s := range few() {
		b := mustPack(t, s)
		for x := range 256 {
			checkNone(t, b+string([]byte{byte(x)}), "one more byte")
		}
		for _, more := range []string{"\x00\x00", "\x80\x00", "\x80\x80\x80\x80\x80\x80\x80\x80\x80\x80\x80", "\x00\x00\x00\x00\x01\x01", b, strings.Repeat("\x00", 10000)} {
			checkNone(t, b+more, "more behind")
		}
	}
}

// P13.1 and P13.3: with each byte turned in each way it is another state's bytes, or none's.
func TestUnpackTurned(t *testing.T) {
	other := 0
	for _, s := range append(ends()[:4], game.Begin(300), full(), withShots(fallen(), 5), withShots(full(), 32)) {
		b := mustPack(t, s)
		for i := range len(b) {
			for by := 1; by < 256; by++ {
				turned := b[:i] + string([]byte{b[i] ^ byte(by)}) + b[i+1:]
				want, there := stateByWords(turned)
				if !there {
					checkNone(t, turned, "turned")
					continue
				}
				other++
				if got, e := Unpack(turned); got != want || got == s || e != api.OK {
					t.Fatalf("Unpack(%x) = %v, %d, want %v, which isn't %v", turned, got, e, want, s)
				}
			}
		}
	}
	if other == 0 {
		t.Error("no turned bytes were another state's")
	}
}

// P13.1: with a byte less or one more between, and with two of them exchanged.
func TestUnpackChanged(t *testing.T) {
	r := strewn(9)
	for _, s := range few() {
		b := mustPack(t, s)
		for i := range len(b) {
			checkWords(t, b[:i]+b[i+1:])
			for _, x := range []byte{0, 1, 63, 127, 128, 129, 255, byte(r.below(256))} {
				checkWords(t, b[:i]+string([]byte{x})+b[i:])
			}
			j := r.below(len(b))
			l := []byte(b)
			l[i], l[j] = l[j], l[i]
			checkWords(t, string(l))
		}
	}
}

// longer are the bytes of a number with groups of 0 behind.
func longer(number string, groups int) string {
	last := len(number) - 1
	return number[:last] + string([]byte{number[last] | 128}) + strings.Repeat("\x80", groups-1) + "\x00"
}

// P13.1: ErrForm, if a number is told in a longer way than pack tells it.
func TestUnpackLonger(t *testing.T) {
	for _, s := range few() {
		l, shots := pieces(s)
		for i, piece := range l {
			if i == shots {
				continue
			}
			for _, groups := range []int{1, 2, 3, 4, 5, 8, 9, 10} {
				b := strings.Join(l[:i], "") + longer(piece, groups) + strings.Join(l[i+1:], "")
				checkNone(t, b, "a longer number")
			}
		}
	}
}

// P13.1: ErrForm of a number that has no end.
func TestUnpackEndless(t *testing.T) {
	l, shots := pieces(full())
	for i := range l {
		if i == shots {
			continue
		}
		for _, x := range []string{"\x80", "\xff", "\x81"} {
			for _, many := range []int{1, 9, 10, 11, 1000} {
				checkNone(t, strings.Join(l[:i], "")+strings.Repeat(x, many), "a number without an end, and no more")
				checkNone(t, strings.Join(l[:i], "")+strings.Repeat(x, many)+strings.Join(l[i+1:], ""), "a number without an end")
			}
		}
	}
}

// place: where in the pieces of a state with all shots the number is.
func place(i, shots int) int {
	if i >= shots {
		return i + 1
	}
	return i
}

// P13.1: ErrForm of what would be a state's bytes, but for one number that it may not have, or that has too many bits.
func TestUnpackBeyond(t *testing.T) {
	for _, from := range []api.State{full(), fallen()} {
		l, shots := pieces(from)
		for i, n := range numbersOf(from) {
			at := place(i, shots)
			now := n.get(&from)
			for _, x := range []int64{n.low - 1, n.high + 1, n.low - 2, n.high + 2, now + 1<<32, now - 1<<32, now + 1<<33, now + 1<<40, now + 1<<62, math.MinInt64, math.MaxInt64, now + math.MinInt64} {
				if x >= n.low && x <= n.high {
					continue
				}
				b := strings.Join(l[:at], "") + told(x, n.signed) + strings.Join(l[at+1:], "")
				checkNone(t, b, n.part+" "+n.name+" beyond its ends")
			}
			for _, x := range []int64{n.low, n.high, now} {
				want := from
				n.set(&want, x)
				b := strings.Join(l[:at], "") + told(x, n.signed) + strings.Join(l[at+1:], "")
				if got, e := Unpack(b); got != want || e != api.OK {
					t.Fatalf("Unpack with %d as %s %s = %v, %d, want %v", x, n.part, n.name, got, e, want)
				}
			}
		}
	}
}

// P13.1: ErrForm of what would be the bytes of states that may not be, by each of their parts.
func TestUnpackWrong(t *testing.T) {
	for _, x := range wrongStates(t) {
		checkNone(t, bytesByWords(x.State), x.why)
	}
}

// P13.1: ErrForm, if the byte of shots has a bit that is no shot's, with all that might stand behind it.
func TestUnpackNoShots(t *testing.T) {
	shot := "\x02\x04\x06\x08\x01\x05"
	for right := range 64 {
		l, shots := pieces(withShots(full(), right))
		ahead, behind := strings.Join(l[:shots], ""), strings.Join(l[shots+1:], "")
		if got, e := Unpack(ahead + string([]byte{byte(right)}) + behind); got != withShots(full(), right) || e != api.OK {
			t.Fatalf("with the shots %b: %v, %d", right, got, e)
		}
		for _, more := range []int{64, 128, 192} {
			for _, x := range []string{"", shot, shot + shot} {
				checkNone(t, ahead+string([]byte{byte(right + more)})+behind+x, "a bit that is no shot's")
			}
		}
		for other := range 64 {
			if other != right {
				checkWords(t, ahead+string([]byte{byte(other)})+behind)
			}
		}
	}
}

// P13.1: ErrForm, if a shot is told that is free, all 0 or not, alone, and among others that fly.
func TestUnpackFreeShot(t *testing.T) {
	flies := "\x02\x04\x06\x08\x01\x05"
	l, i := pieces(game.Begin(1))
	ahead := strings.Join(l[:i], "")
	for shots := 1; shots < 64; shots++ {
		many := bits.OnesCount(uint(shots))
		begun := ahead + string([]byte{byte(shots)})
		for at := range many {
			for _, free := range []string{"\x00\x00\x00\x00\x00\x00", "\x02\x04\x06\x08\x00\x05", "\x00\x00\x00\x00\x00\x01", "\x02\x04\x06\x08\x00\x00"} {
				checkNone(t, begun+strings.Repeat(flies, at)+free+strings.Repeat(flies, many-at-1), "a free shot")
			}
		}
		if _, e := Unpack(begun + strings.Repeat(flies, many)); e != api.OK {
			t.Fatalf("shots %b that fly: %d", shots, e)
		}
	}
}

// P13.1: any bytes are read as the words say, and nothing panics.
func TestUnpackAny(t *testing.T) {
	r := strewn(10)
	for range 20000 {
		l := make([]byte, r.below(120))
		most := []int{2, 4, 64, 130, 256}[r.below(5)]
		for i := range l {
			l[i] = byte(r.below(most))
		}
		checkWords(t, string(l))
	}
}

// P13.3: unlike states have unlike bytes, over many drawn ones, and where they differ in one number alone.
func TestUnlikeStates(t *testing.T) {
	known := map[string]api.State{}
	for _, s := range append(drawn(11, 20000), few()...) {
		b := mustPack(t, s)
		if was, there := known[b]; there && was != s {
			t.Fatalf("%v and %v have the same bytes", was, s)
		}
		known[b] = s
	}
	for _, from := range []api.State{full(), fallen()} {
		b := mustPack(t, from)
		for _, n := range numbersOf(from) {
			for _, x := range []int64{n.low, n.high, n.get(&from) - 1, n.get(&from) + 1} {
				s := from
				n.set(&s, x)
				if s != from && game.Right(s) && mustPack(t, s) == b {
					t.Errorf("%v and %v have the same bytes", from, s)
				}
			}
		}
	}
}
