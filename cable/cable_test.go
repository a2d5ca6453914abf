package cable

import (
	"math"
	"slices"
	"strconv"
	"strings"
	"testing"
	"unsafe"

	"promptbook/api"
)

// strewn tells numbers from 0 up to below n, by a fixed rule.
type strewn uint32

func (s *strewn) below(n int) int {
	*s = *s*1664525 + 1013904223
	return int(uint64(*s) * uint64(n) >> 32)
}

// wrongEnds are those that no cable has.
func wrongEnds() []int {
	return []int{-1, -2, 2, 3, 1 << 32, 1<<32 + 1, math.MinInt, math.MaxInt}
}

// wrongPlaces are those at which none of n datagrams stands.
func wrongPlaces(n int) []int {
	return []int{-1, -2, -n - 1, n, n + 1, api.MaxFlight, api.MaxRing, 1 << 32, math.MinInt, math.MaxInt}
}

// inRow are n bytes that rise from first on, and go round.
func inRow(first byte, n int) string {
	b := make([]byte, n)
	for i := range b {
		b[i] = first + byte(i)
	}
	return string(b)
}

func newCable(t *testing.T, most int) *Cable {
	t.Helper()
	c, e := New(most)
	if e != api.OK || c == nil {
		t.Fatalf("New(%d) = %v, %d", most, c, e)
	}
	return c
}

func send(t *testing.T, c *Cable, to int, all ...string) {
	t.Helper()
	for _, s := range all {
		if ok, e := c.Send(to, s); !ok || e != api.OK {
			t.Fatalf("Send(%d, %q) = %t, %d", to, s, ok, e)
		}
	}
}

// full is a cable on which as many fly to both ends as may.
func full(t *testing.T, most int) (*Cable, [2][]string) {
	t.Helper()
	c := newCable(t, most)
	var sent [2][]string
	for to := range sent {
		for i := range most {
			sent[to] = append(sent[to], "to "+strconv.Itoa(to)+" as "+strconv.Itoa(i))
		}
		send(t, c, to, sent[to]...)
	}
	return c, sent
}

// check asks a cable all that it answers without being changed.
func check(t *testing.T, c *Cable, lost int, want [2][]string) {
	t.Helper()
	if got := c.Lost(); got != lost {
		t.Fatalf("Lost = %d, want %d", got, lost)
	}
	for to, all := range want {
		if got := c.Flying(to); got != len(all) {
			t.Fatalf("Flying(%d) = %d, want %d", to, got, len(all))
		}
		for i, s := range all {
			if got, ok := c.Copy(to, i); got != s || !ok {
				t.Fatalf("Copy(%d, %d) = %q, %t, want %q", to, i, got, ok, s)
			}
		}
		for _, i := range []int{-1, len(all)} {
			if got, ok := c.Copy(to, i); got != "" || ok {
				t.Fatalf("Copy(%d, %d) of %d = %q, %t", to, i, len(all), got, ok)
			}
		}
	}
}

// P8.1: New of what may be, and at its ends: nothing flies, nothing is lost, and to each end just so many may fly.
func TestNew(t *testing.T) {
	for _, most := range []int{1, 2, 3, 63, 64, api.MaxFlight} {
		check(t, newCable(t, most), 0, [2][]string{})
		c, sent := full(t, most)
		check(t, c, 0, sent)
		for to := range 2 {
			if ok, e := c.Send(to, "more"); ok || e != api.OK {
				t.Errorf("Send(%d) behind %d = %t, %d", to, most, ok, e)
			}
			check(t, c, to+1, sent)
		}
	}
}

// P8.1: New of what can't be.
func TestNewWrong(t *testing.T) {
	for _, most := range []int{0, -1, -2, -64, 65, 66, api.MaxFlight + 1, api.MaxRing, api.MaxRing + 1, 1<<32 + 1, math.MinInt, math.MaxInt} {
		if c, e := New(most); c != nil || e != api.ErrArg {
			t.Errorf("New(%d) = %v, %d, want ErrArg", most, c, e)
		}
	}
}

// P8.1: what is sent flies as the last one, to that end alone.
func TestSend(t *testing.T) {
	c := newCable(t, 5)
	var want [2][]string
	for i, to := range []int{1, 0, 0, 1, 1, 0} {
		s := "as " + strconv.Itoa(i)
		send(t, c, to, s)
		want[to] = append(want[to], s)
		check(t, c, 0, want)
	}
	// The same bytes once more are one more datagram.
	send(t, c, 0, "as 1")
	want[0] = append(want[0], "as 1")
	check(t, c, 0, want)
}

// P8.1: datagrams of 1 to 256 bytes, of every byte, fly as they are.
func TestSendBytes(t *testing.T) {
	for n := 1; n <= api.MaxBytes; n++ {
		c := newCable(t, 2)
		a, b := inRow(byte(7*n), n), strings.Repeat("\x00", n)
		send(t, c, n%2, a, b)
		var want [2][]string
		want[n%2] = []string{a, b}
		check(t, c, 0, want)
		if got, ok := c.Take(n%2, 0); got != a || !ok {
			t.Errorf("Take of %d bytes = %q, %t", n, got, ok)
		}
	}
}

// P8.1: Send to no end, of no bytes and of too many; no end, and no bytes, come first. It is told of a full cable too, and is neither sent nor lost.
func TestSendWrong(t *testing.T) {
	tooLong := []string{strings.Repeat("x", api.MaxBytes+1), strings.Repeat("x", api.MaxBytes+2), strings.Repeat("x", 1<<16+1)}
	empty, some := newCable(t, 3), newCable(t, 3)
	send(t, some, 1, "a", "b")
	brim, sent := full(t, 3)
	for _, x := range []struct {
		c    *Cable
		want [2][]string
	}{{empty, [2][]string{}}, {some, [2][]string{1: {"a", "b"}}}, {brim, sent}} {
		refused := func(to int, s string, want api.Errno) {
			t.Helper()
			if ok, e := x.c.Send(to, s); ok || e != want {
				t.Errorf("Send(%d, %d bytes) = %t, %d, want %d", to, len(s), ok, e, want)
			}
			check(t, x.c, 0, x.want)
		}
		for _, to := range wrongEnds() {
			for _, s := range append(tooLong, "", "x", strings.Repeat("x", api.MaxBytes)) {
				refused(to, s, api.ErrArg)
			}
		}
		for to := range 2 {
			refused(to, "", api.ErrArg)
			for _, s := range tooLong {
				refused(to, s, api.ErrLong)
			}
		}
	}
}

// P8.1: on a cable that is full at an end what is sent there is lost, and what is sent to the other one isn't.
func TestSendFull(t *testing.T) {
	for to := range 2 {
		c := newCable(t, 2)
		send(t, c, to, "a", "b")
		var want [2][]string
		want[to] = []string{"a", "b"}
		for i := range 3 {
			if ok, e := c.Send(to, "no"); ok || e != api.OK {
				t.Errorf("Send(%d) to a full end = %t, %d", to, ok, e)
			}
			check(t, c, i+1, want)
		}
		send(t, c, 1-to, "c", "d")
		want[1-to] = []string{"c", "d"}
		check(t, c, 3, want)
	}
}

// P8.1, P8.2: behind a Take, a Drop and a Spoil there is room for one more, behind a Copy there is none, behind a Cut there is all.
func TestRoomAgain(t *testing.T) {
	lost := func(c *Cable) bool {
		ok, e := c.Send(1, "more")
		return !ok && e == api.OK
	}
	for _, x := range []struct {
		name string
		do   func(c *Cable)
		room int
	}{
		{"Take", func(c *Cable) { c.Take(1, 1) }, 1},
		{"Drop", func(c *Cable) { c.Drop(1, 1) }, 1},
		{"Spoil", func(c *Cable) { c.Spoil(1, 1, 0, 1) }, 1},
		{"Copy", func(c *Cable) { c.Copy(1, 1) }, 0},
		{"Cut", func(c *Cable) { c.Cut() }, 3},
		{"Take to the other end", func(c *Cable) { c.Take(0, 1) }, 0},
	} {
		c, _ := full(t, 3)
		x.do(c)
		for i := range x.room {
			if lost(c) {
				t.Errorf("behind %s: lost as %d of %d", x.name, i, x.room)
			}
		}
		if !lost(c) {
			t.Errorf("behind %s: more than %d fly", x.name, x.room)
		}
	}
}

// P8.1: nothing flies to an end that isn't.
func TestFlyingNowhere(t *testing.T) {
	c, sent := full(t, 4)
	for _, to := range wrongEnds() {
		if got := c.Flying(to); got != 0 {
			t.Errorf("Flying(%d) = %d", to, got)
		}
	}
	check(t, c, 0, sent)
}

// P8.1, P8.2: Lost counts what found no room, was dropped and was cut, to both ends; not what was taken, copied or spoilt.
func TestLost(t *testing.T) {
	c, _ := full(t, 4)
	for i, x := range []struct {
		do   func()
		lost int
	}{
		{func() {}, 0},
		{func() { c.Send(0, "no") }, 1},
		{func() { c.Send(1, "no") }, 2},
		{func() { c.Send(2, "no"); c.Send(0, ""); c.Send(0, strings.Repeat("x", 257)) }, 2},
		{func() { c.Take(0, 0); c.Copy(0, 0); c.Spoil(0, 0, 0, 9); c.Copy(1, 3) }, 2},
		{func() { c.Drop(0, 1) }, 3},
		{func() { c.Drop(1, 3) }, 4},
		{func() { c.Drop(1, 3); c.Drop(1, -1); c.Drop(2, 0) }, 4},
		{func() { c.Cut() }, 8}, // 1 to the end 0, 3 to the end 1
		{func() { c.Cut() }, 8},
		{func() { c.Drop(0, 0); c.Take(0, 0) }, 8},
		{func() { c.Send(0, "a"); c.Send(1, "b"); c.Cut() }, 10},
	} {
		x.do()
		if got := c.Lost(); got != x.lost {
			t.Fatalf("behind %d: Lost = %d, want %d", i, got, x.lost)
		}
	}
}

// P8.2: the document's example.
func TestExample(t *testing.T) {
	c := newCable(t, 64)
	send(t, c, 1, "a", "b")
	if s, ok := c.Take(1, 1); s != "b" || !ok {
		t.Errorf("Take(1, 1) = %q, %t", s, ok)
	}
	check(t, c, 0, [2][]string{1: {"a"}})
}

// P8.2: Take, Copy, Drop and Spoil of the first one, of those within and of the last one; the other end isn't touched.
func TestOneOfMany(t *testing.T) {
	for to := range 2 {
		for i := range 5 {
			c, sent := full(t, 5)
			s, left := sent[to][i], sent
			left[to] = slices.Concat(sent[to][:i], sent[to][i+1:])
			if got, ok := c.Copy(to, i); got != s || !ok {
				t.Errorf("Copy(%d, %d) = %q, %t", to, i, got, ok)
			}
			check(t, c, 0, sent)
			if got, ok := c.Take(to, i); got != s || !ok {
				t.Errorf("Take(%d, %d) = %q, %t", to, i, got, ok)
			}
			check(t, c, 0, left)

			c, _ = full(t, 5)
			if !c.Drop(to, i) {
				t.Errorf("Drop(%d, %d) = false", to, i)
			}
			check(t, c, 1, left)

			c, _ = full(t, 5)
			turned := s[:2] + string(s[2]^5) + s[3:]
			if got, ok := c.Spoil(to, i, 2, 5); got != turned || !ok {
				t.Errorf("Spoil(%d, %d) = %q, %t, want %q", to, i, got, ok, turned)
			}
			check(t, c, 0, left)
		}
	}
}

// checkNone asks for a datagram that isn't there in all ways.
func checkNone(t *testing.T, c *Cable, to, i int) {
	t.Helper()
	if s, ok := c.Take(to, i); s != "" || ok {
		t.Errorf("Take(%d, %d) = %q, %t", to, i, s, ok)
	}
	if s, ok := c.Copy(to, i); s != "" || ok {
		t.Errorf("Copy(%d, %d) = %q, %t", to, i, s, ok)
	}
	if c.Drop(to, i) {
		t.Errorf("Drop(%d, %d) = true", to, i)
	}
	for _, at := range []int{0, 1, -1, math.MinInt, math.MaxInt} {
		if s, ok := c.Spoil(to, i, at, 255); s != "" || ok {
			t.Errorf("Spoil(%d, %d, %d) = %q, %t", to, i, at, s, ok)
		}
	}
}

// P8.2: nothing and false where none is: behind the last, below 0, at ends that aren't, where nothing flies, or flies no more; nothing is changed.
func TestNone(t *testing.T) {
	brim, sent := full(t, 4)
	roomy, oneEnd, emptied := newCable(t, 4), newCable(t, 4), newCable(t, 4)
	send(t, roomy, 0, "a", "b")
	send(t, roomy, 1, "c")
	send(t, oneEnd, 1, "d", "e")
	send(t, emptied, 0, "f")
	emptied.Take(0, 0)
	for _, x := range []struct {
		c    *Cable
		want [2][]string
	}{
		{brim, sent}, {roomy, [2][]string{{"a", "b"}, {"c"}}}, {oneEnd, [2][]string{1: {"d", "e"}}},
		{emptied, [2][]string{}}, {newCable(t, 64), [2][]string{}}, {newCable(t, 1), [2][]string{}},
	} {
		for to, all := range x.want {
			for _, i := range wrongPlaces(len(all)) {
				checkNone(t, x.c, to, i)
			}
		}
		for _, to := range wrongEnds() {
			for _, i := range []int{0, 1, -1, 3, 4, math.MinInt, math.MaxInt} {
				checkNone(t, x.c, to, i)
			}
		}
		check(t, x.c, 0, x.want)
	}
}

// P8.2: the first ones that are taken come out as they were sent; those behind them move up.
func TestTakeAll(t *testing.T) {
	c, sent := full(t, 64)
	for i := range 64 {
		for to := range 2 {
			if s, ok := c.Take(to, 0); s != sent[to][i] || !ok {
				t.Fatalf("Take(%d, 0) = %q, %t, want %q", to, s, ok, sent[to][i])
			}
		}
	}
	check(t, c, 0, [2][]string{})
}

// P8.2: one that is copied flies on: it is copied again, spoilt or taken, as it was sent.
func TestCopyFliesOn(t *testing.T) {
	c := newCable(t, 2)
	send(t, c, 0, "abc", "def")
	for range 3 {
		if s, ok := c.Copy(0, 1); s != "def" || !ok {
			t.Errorf("Copy = %q, %t", s, ok)
		}
	}
	check(t, c, 0, [2][]string{{"abc", "def"}})
	if s, ok := c.Spoil(0, 1, 0, 1); s != "eef" || !ok {
		t.Errorf("Spoil = %q, %t", s, ok)
	}
	c.Copy(0, 0)
	if s, ok := c.Take(0, 0); s != "abc" || !ok {
		t.Errorf("Take = %q, %t", s, ok)
	}
	check(t, c, 0, [2][]string{})
}

// P8.2: the place of the byte that is turned: within, at the datagram's length and beyond it, below 0, and at both ends of the numbers.
func TestSpoilPlace(t *testing.T) {
	for _, x := range []struct{ n, at, want int }{
		{3, 0, 0}, {3, 1, 1}, {3, 2, 2}, {3, 3, 0}, {3, 4, 1}, {3, 5, 2}, {3, 6, 0}, {3, 301, 1},
		{3, -1, 2}, {3, -2, 1}, {3, -3, 0}, {3, -4, 2}, {3, -6, 0}, {3, -301, 2},
		{3, math.MaxInt64, 1}, {3, math.MinInt64, 1}, {3, math.MinInt64 + 1, 2}, // 2^63 is 2 modulo 3
		{7, math.MaxInt64, 0}, {7, math.MinInt64, 6}, {7, math.MinInt64 + 1, 0}, // 2^63 is 1 modulo 7
		{1, 0, 0}, {1, 1, 0}, {1, -1, 0}, {1, math.MaxInt64, 0}, {1, math.MinInt64, 0},
		{256, 255, 255}, {256, 256, 0}, {256, -1, 255}, {256, -256, 0}, {256, -257, 255}, {256, math.MaxInt64, 255}, {256, math.MinInt64, 0},
		{255, 255, 0}, {255, -255, 0}, {255, 1 << 32, 1}, {255, -1 << 32, 254},
	} {
		c := newCable(t, 1)
		s := inRow(100, x.n)
		send(t, c, 1, s)
		want := []byte(s)
		want[x.want] ^= 0x81
		if got, ok := c.Spoil(1, 0, x.at, 0x81); got != string(want) || !ok {
			t.Errorf("Spoil of %d bytes at %d = %q, %t, want %q", x.n, x.at, got, ok, want)
		}
		check(t, c, 0, [2][]string{})
	}
}

// P8.2: places rise by 1, and go round, through 0 too.
func TestSpoilPlaceGoesRound(t *testing.T) {
	for _, n := range []int{1, 2, 3, 5, 16, 100, api.MaxBytes} {
		s, place := strings.Repeat("\x00", n), 0
		c := newCable(t, 1)
		for at := -3 * n; at <= 3*n; at++ {
			send(t, c, 0, s)
			got, ok := c.Spoil(0, 0, at, 1)
			if !ok || len(got) != n || strings.IndexByte(got, 1) != place || strings.Count(got, "\x00") != n-1 {
				t.Fatalf("Spoil of %d bytes at %d = %q, %t, want it turned at %d", n, at, got, ok, place)
			}
			place = (place + 1) % n
		}
	}
}

// P8.2: every byte, turned by every one: by 0 it comes out as it was, and is gone all the same; by 255 each bit is turned.
func TestSpoilBy(t *testing.T) {
	c := newCable(t, 1)
	for was := range 256 {
		for by := range 256 {
			send(t, c, 0, string([]byte{byte(was)}))
			got, ok := c.Spoil(0, 0, 0, byte(by))
			if want := string([]byte{byte(was ^ by)}); got != want || !ok {
				t.Fatalf("Spoil of %d by %d = %q, %t, want %q", was, by, got, ok, want)
			}
			if c.Flying(0) != 0 {
				t.Fatalf("what was spoilt by %d flies on", by)
			}
		}
	}
	send(t, c, 1, "as it was")
	if got, ok := c.Spoil(1, 0, 3, 0); got != "as it was" || !ok {
		t.Errorf("Spoil by 0 = %q, %t", got, ok)
	}
	send(t, c, 1, "\x00\xff\x55")
	if got, ok := c.Spoil(1, 0, 2, 255); got != "\x00\xff\xaa" || !ok {
		t.Errorf("Spoil by 255 = %q, %t", got, ok)
	}
	check(t, c, 0, [2][]string{})
}

// P8.2: Cut where nothing flies, where something flies at one end, and at both; all of it is lost, once.
func TestCut(t *testing.T) {
	for _, x := range [][2]int{{0, 0}, {1, 0}, {0, 1}, {3, 0}, {0, 3}, {1, 1}, {2, 5}, {5, 2}, {64, 0}, {0, 64}, {64, 64}} {
		c := newCable(t, 64)
		for to, n := range x {
			for i := range n {
				send(t, c, to, strconv.Itoa(i))
			}
		}
		if got := c.Cut(); got != x[0]+x[1] {
			t.Errorf("Cut of %v = %d", x, got)
		}
		check(t, c, x[0]+x[1], [2][]string{})
		if got := c.Cut(); got != 0 {
			t.Errorf("Cut once more = %d", got)
		}
		checkNone(t, c, 0, 0)
		checkNone(t, c, 1, 0)
		send(t, c, 1, "later")
		check(t, c, x[0]+x[1], [2][]string{1: {"later"}})
	}
}

// P8.1, P8.2: Cut counts what flew, not what was lost before it.
func TestCutBehindLost(t *testing.T) {
	c, _ := full(t, 3)
	c.Send(0, "no")
	c.Drop(1, 0)
	c.Take(1, 0)
	if got := c.Cut(); got != 4 {
		t.Errorf("Cut = %d", got)
	}
	check(t, c, 6, [2][]string{})
}

// P8.1, P8.2: all calls of a nil cable, whatever they are handed.
func TestNil(t *testing.T) {
	var c *Cable
	for _, to := range append(wrongEnds(), 0, 1) {
		for _, s := range []string{"", "x", strings.Repeat("x", api.MaxBytes), strings.Repeat("x", api.MaxBytes+1)} {
			if ok, e := c.Send(to, s); ok || e != api.ErrNil {
				t.Errorf("Send(%d, %d bytes) = %t, %d", to, len(s), ok, e)
			}
		}
		for _, i := range []int{0, 1, -1, math.MinInt, math.MaxInt} {
			checkNone(t, c, to, i)
		}
		if got := c.Flying(to); got != 0 {
			t.Errorf("Flying(%d) = %d", to, got)
		}
	}
	if c.Lost() != 0 || c.Cut() != 0 || c.Lost() != 0 {
		t.Errorf("Lost = %d, Cut = %d", c.Lost(), c.Cut())
	}
}

// P8.1, P8.2: two cables are two: what is done to one isn't told by the other.
func TestTwoCables(t *testing.T) {
	one, other := newCable(t, 2), newCable(t, 2)
	send(t, one, 0, "a", "b")
	send(t, one, 1, "c")
	other.Send(0, "d")
	one.Send(0, "no")
	check(t, one, 1, [2][]string{{"a", "b"}, {"c"}})
	check(t, other, 0, [2][]string{{"d"}})
	one.Cut()
	check(t, one, 4, [2][]string{})
	check(t, other, 0, [2][]string{{"d"}})
}

// P8.1, P8.2: what is sent isn't changed and its memory isn't kept: to write over it later turns nothing that flies or came out.
func TestSentIsNotKept(t *testing.T) {
	c := newCable(t, 8)
	held := []byte("datagram")
	piece := unsafe.String(&held[0], len(held))
	for range 4 {
		send(t, c, 1, piece)
	}
	copied, _ := c.Copy(1, 0)
	taken, _ := c.Take(1, 0)
	unturned, _ := c.Spoil(1, 0, 0, 0)
	if string(held) != "datagram" {
		t.Errorf("what was sent is now %q", held)
	}
	copy(held, "MARGATAD")
	for _, s := range []string{copied, taken, unturned} {
		if s != "datagram" {
			t.Errorf("came out, and is now %q", s)
		}
	}
	if s, ok := c.Spoil(1, 0, 0, 1); s != "eatagram" || !ok {
		t.Errorf("Spoil = %q, %t", s, ok)
	}
	check(t, c, 0, [2][]string{1: {"datagram"}})
	if string(held) != "MARGATAD" {
		t.Errorf("what was sent, written over, is now %q", held)
	}
}

// P8.2: what comes out is new memory, of a copy as well: no two answers share any, nor one with what flies on.
func TestAnswersAreNewMemory(t *testing.T) {
	for _, s := range []string{"x", "datagram", strings.Repeat("x", api.MaxBytes)} {
		c := newCable(t, 2)
		send(t, c, 0, s, s)
		first, _ := c.Copy(0, 0)
		second, _ := c.Copy(0, 0)
		third, _ := c.Take(0, 0)
		fourth, _ := c.Take(0, 0)
		all := []string{s, first, second, third, fourth}
		for i := range all {
			for j := range i {
				if unsafe.StringData(all[i]) == unsafe.StringData(all[j]) {
					t.Errorf("of %d bytes: %d and %d share memory", len(s), j, i)
				}
			}
		}
	}
}

// fate is what became of datagrams of the same bytes: how many were sent, and how many of them fly no more.
type fate struct {
	sent, gone int
}

// byTurns is a cable, and what it has to answer by the chapter's words, from lists that are copied whole at each call.
type byTurns struct {
	c      *Cable
	most   int
	flying [2][]string
	lost   int
	fates  map[string]fate
}

func (b *byTurns) send(t *testing.T, to int, s string) {
	t.Helper()
	room := len(b.flying[to]) < b.most
	if ok, e := b.c.Send(to, s); ok != room || e != api.OK {
		t.Fatalf("Send(%d, %q) behind %d of %d = %t, %d", to, s, len(b.flying[to]), b.most, ok, e)
	}
	f := b.fates[s]
	f.sent++
	if room {
		b.flying[to] = append(slices.Clone(b.flying[to]), s)
	} else {
		f.gone++
		b.lost++
	}
	b.fates[s] = f
}

// take answers what stands there, and whether; it is off the list.
func (b *byTurns) take(to, i int) (string, bool) {
	all := b.flying[to]
	if i < 0 || i >= len(all) {
		return "", false
	}
	b.flying[to] = slices.Concat(all[:i], all[i+1:])
	f := b.fates[all[i]]
	f.gone++
	b.fates[all[i]] = f
	return all[i], true
}

// move does one of all that is done to what flies.
func (b *byTurns) move(t *testing.T, s *strewn) {
	t.Helper()
	to, i := s.below(2), s.below(b.most+2)-1
	switch s.below(5) {
	case 0:
		want, there := b.take(to, i)
		if got, ok := b.c.Take(to, i); got != want || ok != there {
			t.Fatalf("Take(%d, %d) = %q, %t, want %q, %t", to, i, got, ok, want, there)
		}
	case 1:
		if want, there := b.take(to, i); b.c.Drop(to, i) != there {
			t.Fatalf("Drop(%d, %d) = %t, of %q", to, i, !there, want)
		} else if there {
			b.lost++
		}
	case 2:
		at, by := s.below(41)-20, byte(s.below(256))
		was, there := b.take(to, i)
		want := []byte(was)
		if there {
			n := len(was)
			want[((at%n)+n)%n] ^= by
		}
		if got, ok := b.c.Spoil(to, i, at, by); got != string(want) || ok != there {
			t.Fatalf("Spoil(%d, %d, %d, %d) = %q, %t, want %q, %t", to, i, at, by, got, ok, want, there)
		}
	case 3:
		there := i >= 0 && i < len(b.flying[to])
		want := ""
		if there {
			want = b.flying[to][i]
		}
		if got, ok := b.c.Copy(to, i); got != want || ok != there {
			t.Fatalf("Copy(%d, %d) = %q, %t, want %q, %t", to, i, got, ok, want, there)
		}
	default:
		if s.below(20) == 0 {
			b.cut(t)
		}
	}
}

func (b *byTurns) cut(t *testing.T) {
	t.Helper()
	gone := 0
	for to := range b.flying {
		for _, there := b.take(to, 0); there; _, there = b.take(to, 0) {
			gone++
		}
	}
	b.lost += gone
	if got := b.c.Cut(); got != gone {
		t.Fatalf("Cut = %d, want %d", got, gone)
	}
}

// P8.1 to P8.3: calls of all kinds by turns, at both ends, held against lists of what flies; never more than may.
func TestByTurns(t *testing.T) {
	for _, most := range []int{1, 2, 3, 8, 64} {
		s := strewn(most)
		b := &byTurns{c: newCable(t, most), most: most, fates: map[string]fate{}}
		for next := range 4000 {
			// Long stretches fill it, and long ones empty it.
			if s.below(10) < 3+4*(next/(8*most)%2) {
				// Some are sent more than once.
				b.send(t, s.below(2), "datagram "+strconv.Itoa(next-next%3))
			} else {
				b.move(t, &s)
			}
			check(t, b.c, b.lost, b.flying)
			if b.c.Flying(0) > most || b.c.Flying(1) > most {
				t.Fatalf("%d and %d fly, of %d", b.c.Flying(0), b.c.Flying(1), most)
			}
		}
		b.cut(t)
		for name, f := range b.fates {
			if f.sent != f.gone {
				t.Errorf("%q was sent %d times, and %d of them came out or were lost", name, f.sent, f.gone)
			}
		}
	}
}

// P8.3: what was sent comes out as it was, once, is lost, or flies still: counted by the cable's own answers alone.
func TestSentComesOutOrIsLost(t *testing.T) {
	for _, most := range []int{1, 2, 5, 64} {
		c, s := newCable(t, most), strewn(most+100)
		sentTo := map[string]int{}
		sent, out, spoilt := 0, 0, 0
		for next := range 5000 {
			to, i := s.below(2), s.below(most)
			switch n := s.below(12); {
			case n < 6:
				name := strconv.Itoa(next)
				c.Send(to, name)
				sentTo[name] = to
				sent++
			case n < 9:
				if name, ok := c.Take(to, i); ok {
					if end, known := sentTo[name]; !known || end != to {
						t.Fatalf("Take(%d, %d) = %q, which wasn't sent there, or came out already", to, i, name)
					}
					delete(sentTo, name)
					out++
				}
			case n < 10:
				if name, ok := c.Copy(to, i); ok {
					if end, known := sentTo[name]; !known || end != to {
						t.Fatalf("Copy(%d, %d) = %q, which wasn't sent there, or came out already", to, i, name)
					}
				}
			case n < 11:
				// Turned by its highest bit, no name is another one's.
				if name, ok := c.Spoil(to, i, 0, 128); ok {
					name = string([]byte{name[0] ^ 128}) + name[1:]
					if end, known := sentTo[name]; !known || end != to {
						t.Fatalf("Spoil(%d, %d): %q wasn't sent there, or came out already", to, i, name)
					}
					delete(sentTo, name)
					spoilt++
				}
			default:
				c.Drop(to, i)
			}
			if got := out + spoilt + c.Lost() + c.Flying(0) + c.Flying(1); got != sent {
				t.Fatalf("%d were sent; %d came out, %d spoilt, %d are lost, %d and %d fly", sent, out, spoilt, c.Lost(), c.Flying(0), c.Flying(1))
			}
		}
		if out == 0 || spoilt == 0 || c.Lost() == 0 {
			t.Errorf("%d came out, %d spoilt, %d lost: too few to tell", out, spoilt, c.Lost())
		}
	}
}
