package sum

import (
	"hash/adler32"
	"math"
	"math/big"
	"strings"
	"testing"
	"unsafe"

	"promptbook/api"
)

// strewn is n bytes of all values, by a fixed rule.
func strewn(n int) string {
	x := uint32(2463534242)
	b := make([]byte, n)
	for i := range b {
		x = x*1664525 + 1013904223
		b[i] = byte(x >> 24)
	}
	return string(b)
}

// everyByte is each value once, rising.
func everyByte() string {
	b := make([]byte, 256)
	for i := range b {
		b[i] = byte(i)
	}
	return string(b)
}

// lots is bytes of all kinds and lengths, those among them by which both halves go round more than once.
func lots() []string {
	return []string{
		"", "\x00", "\x01", "\x7f", "\x80", "\xff", "a", "abc", "cba", "Wikipedia", "\x00\x00\x00\x01", "é€", "\xff\xfe\x00",
		everyByte(), everyByte() + everyByte(), strings.Repeat("\x00", 1000), strings.Repeat("\xff", 256), strings.Repeat("\xff", 257),
		strings.Repeat("\xff", 258), strings.Repeat("\xff", 12000), strings.Repeat("\x00", 65520), strings.Repeat("\x00", 65521),
		strings.Repeat("\x00", 65522), strewn(5552), strewn(5553), strewn(20000),
	}
}

// pair is a sum of these halves.
func pair(high, low uint32) uint32 {
	return high<<16 | low
}

// moreByWords goes on from halves without an end, and takes the remainders only behind all bytes.
func moreByWords(sum uint32, s string) uint32 {
	high, low := big.NewInt(int64(sum>>16)), big.NewInt(int64(sum&0xffff))
	for _, b := range []byte(s) {
		low.Add(low, big.NewInt(int64(b)))
		high.Add(high, low)
	}
	return remainders(high, low)
}

// joinByWords: each byte of b comes behind a's low half, which is 1 more than a's bytes, and is added to the high one n times.
func joinByWords(a, b uint32, n int) uint32 {
	lowA, lowB := big.NewInt(int64(a&0xffff)), big.NewInt(int64(b&0xffff))
	low := new(big.Int).Add(lowA, lowB)
	low.Sub(low, big.NewInt(1))
	high := new(big.Int).Sub(lowA, big.NewInt(1))
	high.Mul(high, big.NewInt(int64(n)))
	high.Add(high, big.NewInt(int64(a>>16)))
	high.Add(high, big.NewInt(int64(b>>16)))
	return remainders(high, low)
}

// ofLike is the sum of n bytes that are all x: the low half is 1 and n x's, the high one n and x by 1 to n.
func ofLike(x, n int64) uint32 {
	low := new(big.Int).Mul(big.NewInt(n), big.NewInt(x))
	low.Add(low, big.NewInt(1))
	high := new(big.Int).Mul(big.NewInt(n), big.NewInt(n+1))
	high.Rsh(high, 1)
	high.Mul(high, big.NewInt(x))
	high.Add(high, big.NewInt(n))
	return remainders(high, low)
}

// remainders are never below 0, whatever the numbers.
func remainders(high, low *big.Int) uint32 {
	m := big.NewInt(65521)
	h, l := new(big.Int).Mod(high, m), new(big.Int).Mod(low, m)
	return pair(uint32(h.Int64()), uint32(l.Int64()))
}

func mustJoin(t *testing.T, a, b uint32, n int) uint32 {
	t.Helper()
	x, e := Join(a, b, n)
	if e != api.OK {
		t.Fatalf("Join(%#x, %#x, %d) = %#x, %d", a, b, n, x, e)
	}
	return x
}

// P5.1: Of no bytes, of one, of the chapter's example, of bytes by which a half comes to just 65521, and of so many that both go round.
func TestOf(t *testing.T) {
	for _, x := range []struct {
		name, s string
		want    uint32
	}{
		{"no bytes", "", 1},
		{"a byte of 0", "\x00", pair(1, 1)},
		{"a byte of 1", "\x01", pair(2, 2)},
		{"a byte of 255", "\xff", pair(256, 256)},
		{"the example", "abc", 38600999},
		{"a name", "Wikipedia", 300286872},
		{"a low half of 65520", strings.Repeat("\xff", 256) + "\xef", pair(2047, 65520)},
		{"a low half that goes round to 0", strings.Repeat("\xff", 256) + "\xf0", pair(2048, 0)},
		{"a high half of 65520", strings.Repeat("\x00", 65520), pair(65520, 1)},
		{"a high half that goes round to 0", strings.Repeat("\x00", 65521), pair(0, 1)},
		{"many great ones", strings.Repeat("\xff", 12000), ofLike(255, 12000)},
		{"very many great ones", strings.Repeat("\xff", 1<<20), ofLike(255, 1<<20)},
	} {
		if got := Of(x.s); got != x.want {
			t.Errorf("%s: %#x, want %#x", x.name, got, x.want)
		}
	}
}

// P5.1: Of all kinds of bytes, by the chapter's words and by the library's sum of that name.
func TestOfByWords(t *testing.T) {
	for i, s := range lots() {
		if got := Of(s); got != moreByWords(1, s) || got != adler32.Checksum([]byte(s)) {
			t.Errorf("Of the bytes at %d = %#x, want %#x, %#x", i, got, moreByWords(1, s), adler32.Checksum([]byte(s)))
		}
	}
}

// P5.1: More from the sum of no bytes is Of; with no bytes a sum stays, if its halves are below 65521.
func TestMoreOfNone(t *testing.T) {
	for i, s := range lots() {
		if got := More(1, s); got != adler32.Checksum([]byte(s)) {
			t.Errorf("More(1) with the bytes at %d = %#x, want %#x", i, got, adler32.Checksum([]byte(s)))
		}
		if got := More(Of(s), ""); got != Of(s) {
			t.Errorf("More of the bytes at %d with none = %#x, want %#x", i, got, Of(s))
		}
	}
}

// P5.1: More counts halves modulo 65521, with no bytes and with one.
func TestMoreHalves(t *testing.T) {
	for _, x := range []struct {
		sum  uint32
		s    string
		want uint32
	}{
		{pair(0, 0), "", 0}, {pair(0, 65520), "", pair(0, 65520)}, {pair(65520, 0), "", pair(65520, 0)},
		{pair(65521, 0), "", 0}, {pair(0, 65521), "", 0}, {pair(65521, 65521), "", 0},
		{pair(65535, 0), "", pair(14, 0)}, {pair(0, 65535), "", pair(0, 14)}, {math.MaxUint32, "", pair(14, 14)},
		{pair(0, 0), "\x00", 0}, {pair(0, 65520), "\x01", 0}, {pair(65520, 0), "\x01", pair(0, 1)}, {pair(65520, 65520), "\x00", pair(65519, 65520)},
		{pair(65521, 65521), "\x02", pair(2, 2)}, {math.MaxUint32, "\x01", pair(29, 15)}, {math.MaxUint32, "\xff", pair(283, 269)},
	} {
		if got := More(x.sum, x.s); got != x.want {
			t.Errorf("More(%#x, %q) = %#x, want %#x", x.sum, x.s, got, x.want)
		}
	}
}

// P5.1: More from halves of all kinds, with all kinds of bytes, by the chapter's words.
func TestMoreByWords(t *testing.T) {
	ends := []uint32{0, 1, 14, 65519, 65520, 65521, 65522, 65535}
	for _, s := range []string{"", "\x00", "\xff", "abc", everyByte(), strings.Repeat("\xff", 700), strewn(3000)} {
		for _, high := range ends {
			for _, low := range ends {
				sum := pair(high, low)
				if got, want := More(sum, s), moreByWords(sum, s); got != want {
					t.Errorf("More(%#x) with %d bytes = %#x, want %#x", sum, len(s), got, want)
				}
			}
		}
	}
}

// P5.1: Join is Of both lots of bytes behind one another.
func TestJoin(t *testing.T) {
	if got := mustJoin(t, Of("ab"), Of("c"), 1); got != 38600999 {
		t.Errorf("ab and c: %#x", got)
	}
	for i, a := range lots() {
		for j, b := range lots() {
			if got, want := mustJoin(t, Of(a), Of(b), len(b)), adler32.Checksum([]byte(a+b)); got != want {
				t.Errorf("the bytes at %d and at %d: %#x, want %#x", i, j, got, want)
			}
		}
	}
}

// P5.1: Join of the numbers that n may be, at both of their ends too, with halves up to 65520, by the chapter's words.
func TestJoinByWords(t *testing.T) {
	ends := []uint32{0, 1, 2, 32760, 65519, 65520}
	var sums []uint32
	for _, high := range ends {
		for _, low := range ends {
			sums = append(sums, pair(high, low))
		}
	}
	for _, n := range []int{0, 1, 2, 65519, 65520, 65521, 65522, 2 * 65521, 1 << 16, 1<<31 - 1, 1 << 31} {
		for _, a := range sums {
			for _, b := range sums {
				if got, want := mustJoin(t, a, b, n), joinByWords(a, b, n); got != want {
					t.Fatalf("Join(%#x, %#x, %d) = %#x, want %#x", a, b, n, got, want)
				}
			}
		}
	}
}

// P5.1: Join of as many bytes as there may be: like ones, doubled up to 2^31 of them.
func TestJoinDoubled(t *testing.T) {
	for _, x := range []byte{0, 1, 97, 255} {
		got := Of(string([]byte{x}))
		for shift := range 32 {
			n := 1 << shift
			if want := ofLike(int64(x), int64(n)); got != want {
				t.Fatalf("%d bytes of %d: %#x, want %#x", n, x, got, want)
			}
			got = mustJoin(t, got, got, n)
		}
		if want := ofLike(int64(x), 1<<32); got != want {
			t.Errorf("twice 2^31 bytes of %d: %#x, want %#x", x, got, want)
		}
	}
}

// P5.1: ErrArg where n can't be, or a half isn't below 65521; what may be just beside it is none.
func TestJoinWrong(t *testing.T) {
	good := pair(65520, 65520)
	for _, n := range []int{-1, -2, -65521, -1 << 31, -1 << 32, math.MinInt, math.MinInt + 1, 1<<31 + 1, 1 << 32, 1<<32 + 1, math.MaxInt - 1, math.MaxInt} {
		for _, x := range []uint32{0, 1, good} {
			if got, e := Join(x, x, n); got != 0 || e != api.ErrArg {
				t.Errorf("Join(%#x, %#x, %d) = %#x, %d, want ErrArg", x, x, n, got, e)
			}
		}
	}
	bad := []uint32{
		pair(0, 65521), pair(65521, 0), pair(65521, 65521), pair(65520, 65521), pair(65521, 65520), pair(0, 65522), pair(65522, 0),
		pair(0, 65535), pair(65535, 0), pair(1, 65535), pair(65535, 1), math.MaxUint32,
	}
	for _, x := range bad {
		for _, n := range []int{-1, 0, 1, 65520, 65521, 1 << 31, 1<<31 + 1} {
			for _, ab := range [][2]uint32{{x, good}, {good, x}, {x, 1}, {1, x}, {x, x}} {
				if got, e := Join(ab[0], ab[1], n); got != 0 || e != api.ErrArg {
					t.Errorf("Join(%#x, %#x, %d) = %#x, %d, want ErrArg", ab[0], ab[1], n, got, e)
				}
			}
		}
	}
	for _, n := range []int{0, 1 << 31} {
		mustJoin(t, good, good, n)
	}
}

// P5.2: Seal of no bytes, of the chapter's example, and of one whose sum has four unlike bytes, the highest first.
func TestSeal(t *testing.T) {
	for _, x := range []struct{ s, want string }{
		{"", "\x00\x00\x00\x01"},
		{"\x00", "\x00\x00\x01\x00\x01"},
		{"\xff", "\xff\x01\x00\x01\x00"},
		{"abc", "abc\x02\x4d\x01\x27"},
		{"Wikipedia", "Wikipedia\x11\xe6\x03\x98"},
	} {
		if got := Seal(x.s); got != x.want {
			t.Errorf("Seal(%q) = %q, want %q", x.s, got, x.want)
		}
	}
}

// P5.2: Seal of all kinds of bytes has them unchanged, and behind them the sum; Open has them back.
func TestSealAndOpen(t *testing.T) {
	for i, s := range lots() {
		x := moreByWords(1, s)
		want := s + string([]byte{byte(x >> 24), byte(x >> 16), byte(x >> 8), byte(x)})
		sealed := Seal(s)
		if sealed != want {
			t.Errorf("Seal of the bytes at %d isn't they and their sum", i)
		}
		if got, e := Open(sealed); got != s || e != api.OK {
			t.Errorf("Open of the bytes at %d, sealed: %d bytes, %d", i, len(got), e)
		}
		if got, e := Open(Seal(sealed)); got != sealed || e != api.OK {
			t.Errorf("Open of the bytes at %d, sealed twice: %d bytes, %d", i, len(got), e)
		}
	}
}

// P5.2: ErrShort of fewer than 4 bytes, whatever they are; of 4 only the sum of no bytes opens.
func TestOpenShort(t *testing.T) {
	for _, x := range []struct {
		s string
		e api.Errno
	}{
		{"", api.ErrShort}, {"\x00", api.ErrShort}, {"\x01", api.ErrShort}, {"\x00\x01", api.ErrShort}, {"\x00\x00\x01", api.ErrShort},
		{"abc", api.ErrShort}, {"\xff\xff\xff", api.ErrShort},
		{"\x00\x00\x00\x01", api.OK}, {"\x00\x00\x00\x00", api.ErrSum}, {"\x01\x00\x00\x00", api.ErrSum}, {"\xff\xff\xff\xff", api.ErrSum}, {"abcd", api.ErrSum},
	} {
		if got, e := Open(x.s); got != "" || e != x.e {
			t.Errorf("Open(%q) = %q, %d, want %d", x.s, got, e, x.e)
		}
	}
}

// P5.2: a sum is held as it is told, not modulo 65521.
func TestOpenHalvesOnceRound(t *testing.T) {
	for _, s := range []string{
		"\x00\x00\xff\xf2", "\xff\xf1\x00\x01", "\xff\xf1\xff\xf2",
		strings.Repeat("\xff", 256) + "\xf0" + "\x08\x00\xff\xf1",
		strings.Repeat("\x00", 65521) + "\xff\xf1\x00\x01",
	} {
		if got, e := Open(s); got != "" || e != api.ErrSum {
			t.Errorf("Open of %d bytes = %d bytes, %d, want ErrSum", len(s), len(got), e)
		}
	}
}

// P5.2: of sealed bytes one byte more, or one less, at either end, isn't sealed.
func TestOpenOneMoreOneLess(t *testing.T) {
	for i, s := range lots() {
		sealed := Seal(s)
		less := api.ErrSum
		if s == "" {
			less = api.ErrShort
		}
		for _, x := range []struct {
			s string
			e api.Errno
		}{
			{sealed + "\x02", api.ErrSum}, {sealed + "\xff", api.ErrSum}, {"\x01" + sealed, api.ErrSum}, {"\xff" + sealed, api.ErrSum},
			{sealed[1:], less}, {sealed[:len(sealed)-1], less},
		} {
			if got, e := Open(x.s); got != "" || e != x.e {
				t.Errorf("of the bytes at %d: Open of %d bytes, of which %d were sealed = %d bytes, %d, want %d", i, len(x.s), len(sealed), len(got), e, x.e)
			}
		}
	}
}

// P5.2: what is opened shares no memory with what was handed in.
func TestOpenIsNewMemory(t *testing.T) {
	sealed := Seal("abc")
	if got, e := Open(sealed); e != api.OK || unsafe.StringData(got) == unsafe.StringData(sealed) {
		t.Errorf("Open = %q, %d, in the memory of what was sealed", got, e)
	}
}

// P5.3: of bytes parted anywhere, in two or three, the sum goes on from part to part.
func TestParted(t *testing.T) {
	for i, s := range []string{"", "\x00", "abc", everyByte(), strings.Repeat("\xff", 300), strewn(700)} {
		want := Of(s)
		for at := range len(s) + 1 {
			a, b := s[:at], s[at:]
			if got := More(Of(a), b); got != want {
				t.Fatalf("the bytes at %d, parted at %d: More = %#x, want %#x", i, at, got, want)
			}
			if got := mustJoin(t, Of(a), Of(b), len(b)); got != want {
				t.Fatalf("the bytes at %d, parted at %d: Join = %#x, want %#x", i, at, got, want)
			}
			middle := at / 2
			if got := More(More(More(1, a[:middle]), a[middle:]), b); got != want {
				t.Fatalf("the bytes at %d, parted at %d and %d: More = %#x, want %#x", i, middle, at, got, want)
			}
		}
	}
	long, x := strewn(20000), uint32(1)
	for i := range len(long) {
		x = More(x, long[i:i+1])
	}
	if x != Of(long) {
		t.Errorf("byte by byte: %#x, want %#x", x, Of(long))
	}
}

// P5.3: sealed bytes of which one is turned, the sum's among them, don't open, whatever it is turned to.
func TestTurnedDontOpen(t *testing.T) {
	for i, s := range []string{
		"", "\x00", "\xff", "abc", "Wikipedia", everyByte(), strings.Repeat("\x00", 60), strings.Repeat("\xff", 257), strings.Repeat("\xff", 256) + "\xf0",
	} {
		sealed := []byte(Seal(s))
		for at, was := range sealed {
			for by := 1; by < 256; by++ {
				sealed[at] = was ^ byte(by)
				if got, e := Open(string(sealed)); got != "" || e != api.ErrSum {
					t.Fatalf("the bytes at %d, at %d %d turned to %d: Open = %q, %d", i, at, was, sealed[at], got, e)
				}
			}
			sealed[at] = was
		}
	}
}

// P5.3: so it is of long ones, whose halves went round often.
func TestTurnedDontOpenLong(t *testing.T) {
	for _, s := range []string{strewn(9000), strings.Repeat("\xff", 9000), strings.Repeat("\x00", 65521)} {
		sealed := []byte(Seal(s))
		for at := 0; at < len(sealed); at += 1 + len(sealed)/40 {
			was := sealed[at]
			for _, by := range []byte{1, 2, 128, 255} {
				sealed[at] = was ^ by
				if got, e := Open(string(sealed)); got != "" || e != api.ErrSum {
					t.Fatalf("of %d bytes the one at %d turned by %d: Open = %d bytes, %d", len(sealed), at, by, len(got), e)
				}
			}
			sealed[at] = was
		}
	}
}
