package pack

import (
	"bytes"
	"encoding/binary"
	"math"
	"math/big"
	"slices"
	"strings"
	"testing"
	"unsafe"

	"promptbook/api"
)

// strewn tells numbers by a fixed rule.
type strewn uint64

func (s *strewn) next() uint64 {
	*s = *s*6364136223846793005 + 1442695040888963407
	return uint64(*s>>32)<<32 | uint64(*s*2862933555777941757>>32)
}

// below is a number from 0 up to below n.
func (s *strewn) below(n int) int {
	return int(s.next() >> 1 % uint64(n))
}

// numbers are those at which the bytes become more, those beside them, and some of every length.
func numbers() []uint64 {
	l := []uint64{0, 1, 2, 3, 63, 64, 65, 126, 300, math.MaxUint64, math.MaxUint64 - 1}
	for bits := range 64 {
		n := uint64(1) << bits
		l = append(l, n-1, n, n+1)
	}
	s := strewn(1)
	for i := range 2000 {
		l = append(l, s.next()>>(i%64))
	}
	return l
}

// wholes are numbers with a sign, on both sides of 0.
func wholes() []int64 {
	var l []int64
	for _, n := range numbers() {
		l = append(l, int64(n), -int64(n), int64(n>>1), -int64(n>>1)-1)
	}
	return l
}

// behind is what may stand behind a number, or a run, and plays no part.
func behind() []string {
	return []string{"", "\x00", "\x01", "\x40", "\x7f", "\x80", "\xff", "\x00\x00", "\x80\x00", strings.Repeat("\xff", 20), strings.Repeat("\x00", 20)}
}

// bytesByWords cuts a number without an end into groups of 7 bits.
func bytesByWords(n *big.Int) string {
	var groups []byte
	base := big.NewInt(128)
	for rest, group := new(big.Int).Set(n), new(big.Int); len(groups) == 0 || rest.Sign() > 0; {
		rest.DivMod(rest, base, group)
		groups = append(groups, byte(group.Int64()))
	}
	for i := range len(groups) - 1 {
		groups[i] += 128
	}
	return string(groups)
}

// signedByWords is the number by which one with a sign is told.
func signedByWords(n int64) *big.Int {
	x := big.NewInt(n)
	if n >= 0 {
		return x.Mul(x, big.NewInt(2))
	}
	x.Mul(x, big.NewInt(-2))
	return x.Sub(x, big.NewInt(1))
}

// runByWords has each input of its own first, and makes like neighbours one stretch until there are none.
func runByWords(l []uint8) string {
	type stretch struct {
		input uint8
		many  int
	}
	var stretches []stretch
	for _, x := range l {
		stretches = append(stretches, stretch{x, 1})
	}
	for i := 0; i+1 < len(stretches); {
		if stretches[i].input == stretches[i+1].input {
			stretches[i].many += stretches[i+1].many
			stretches = slices.Delete(stretches, i+1, i+2)
		} else {
			i++
		}
	}
	s := bytesByWords(big.NewInt(int64(len(l))))
	for _, x := range stretches {
		s += string([]byte{x.input}) + bytesByWords(big.NewInt(int64(x.many)))
	}
	return s
}

// spelled is all strings of up to so many bytes, of these letters alone.
func spelled(letters string, most int) []string {
	all, last := []string{""}, []string{""}
	for range most {
		var next []string
		for _, s := range last {
			for i := range len(letters) {
				next = append(next, s+letters[i:i+1])
			}
		}
		all, last = append(all, next...), next
	}
	return all
}

// runs are of all lengths and kinds.
func runs() [][]uint8 {
	l := [][]uint8{nil, {}, {0}, {63}, {5, 5, 5, 0}, {0, 0}, {0, 1}, {1, 0, 1}, {63, 63, 0, 0, 63}}
	for n := range api.MaxRun + 1 {
		l = append(l, bytes.Repeat([]uint8{0}, n), bytes.Repeat([]uint8{63}, n), bytes.Repeat([]uint8{7, 8}, n/2))
	}
	s := strewn(2)
	for kinds := 1; kinds <= api.MaxInput+1; kinds++ {
		for range 20 {
			run := make([]uint8, s.below(api.MaxRun+1))
			for i := range run {
				run[i] = uint8(s.below(kinds))
			}
			l = append(l, run)
		}
	}
	return l
}

// rising is n inputs from 0 on, no two neighbours alike.
func rising(n int) []uint8 {
	l := make([]uint8, n)
	for i := range l {
		l[i] = uint8(i % (api.MaxInput + 1))
	}
	return l
}

func mustRun(t *testing.T, l []uint8) string {
	t.Helper()
	s, e := Run(l)
	if e != api.OK {
		t.Fatalf("Run(%v) = %q, %d", l, s, e)
	}
	return s
}

// checkNumber reads a number, and the one with a sign that these bytes tell.
func checkNumber(t *testing.T, s string, want uint64, size int) {
	t.Helper()
	if n, k, e := ReadNumber(s); n != want || k != size || e != api.OK {
		t.Fatalf("ReadNumber(%q) = %d, %d, %d, want %d, %d", s, n, k, e, want, size)
	}
	whole := new(big.Int).SetUint64(want)
	if want%2 == 1 {
		whole.Add(whole, big.NewInt(1)).Neg(whole)
	}
	whole.Quo(whole, big.NewInt(2))
	if n, k, e := ReadSigned(s); n != whole.Int64() || k != size || e != api.OK {
		t.Fatalf("ReadSigned(%q) = %d, %d, %d, want %v, %d", s, n, k, e, whole, size)
	}
}

// checkNoNumber: neither reads it, for one reason.
func checkNoNumber(t *testing.T, s string, want api.Errno) {
	t.Helper()
	if n, k, e := ReadNumber(s); n != 0 || k != 0 || e != want {
		t.Fatalf("ReadNumber(%q) = %d, %d, %d, want error %d", s, n, k, e, want)
	}
	if n, k, e := ReadSigned(s); n != 0 || k != 0 || e != want {
		t.Fatalf("ReadSigned(%q) = %d, %d, %d, want error %d", s, n, k, e, want)
	}
}

func checkRun(t *testing.T, s string, want []uint8, size int) {
	t.Helper()
	if l, k, e := ReadRun(s); !slices.Equal(l, want) || k != size || e != api.OK {
		t.Fatalf("ReadRun(%q) = %v, %d, %d, want %v, %d", s, l, k, e, want, size)
	}
}

func checkNoRun(t *testing.T, s string, want api.Errno) {
	t.Helper()
	if l, k, e := ReadRun(s); len(l) != 0 || k != 0 || e != want {
		t.Fatalf("ReadRun(%q) = %v, %d, %d, want error %d", s, l, k, e, want)
	}
}

// P6.1: Number at the edges where the bytes become more, and of the chapter's example.
func TestNumber(t *testing.T) {
	for _, x := range []struct {
		n    uint64
		want string
	}{
		{0, "\x00"}, {1, "\x01"}, {63, "\x3f"}, {64, "\x40"}, {127, "\x7f"},
		{128, "\x80\x01"}, {129, "\x81\x01"}, {255, "\xff\x01"}, {256, "\x80\x02"}, {300, "\xac\x02"}, {16383, "\xff\x7f"},
		{16384, "\x80\x80\x01"}, {16385, "\x81\x80\x01"}, {1<<21 - 1, "\xff\xff\x7f"}, {1 << 21, "\x80\x80\x80\x01"},
		{1<<56 - 1, "\xff\xff\xff\xff\xff\xff\xff\x7f"}, {1 << 56, "\x80\x80\x80\x80\x80\x80\x80\x80\x01"},
		{1<<63 - 1, "\xff\xff\xff\xff\xff\xff\xff\xff\x7f"}, {1 << 63, "\x80\x80\x80\x80\x80\x80\x80\x80\x80\x01"},
		{math.MaxUint64, "\xff\xff\xff\xff\xff\xff\xff\xff\xff\x01"},
	} {
		if got := Number(x.n); got != x.want {
			t.Errorf("Number(%d) = %x, want %x", x.n, got, x.want)
		}
	}
}

// P6.1: Number of all kinds, by the chapter's words, and as the library tells them.
func TestNumberByWords(t *testing.T) {
	for _, n := range numbers() {
		got := Number(n)
		if want := bytesByWords(new(big.Int).SetUint64(n)); got != want {
			t.Errorf("Number(%d) = %x, want %x", n, got, want)
		}
		if want := string(binary.AppendUvarint(nil, n)); got != want {
			t.Errorf("Number(%d) = %x, want %x", n, got, want)
		}
	}
}

// P6.1: Signed of 0, about it, and at both ends of 64 bits.
func TestSigned(t *testing.T) {
	for _, x := range []struct {
		n    int64
		want string
	}{
		{0, "\x00"}, {-1, "\x01"}, {1, "\x02"}, {-2, "\x03"}, {2, "\x04"}, {63, "\x7e"}, {-64, "\x7f"}, {64, "\x80\x01"}, {-65, "\x81\x01"},
		{150, "\xac\x02"}, {8191, "\xfe\x7f"}, {-8192, "\xff\x7f"}, {8192, "\x80\x80\x01"}, {-8193, "\x81\x80\x01"},
		{1 << 62, "\x80\x80\x80\x80\x80\x80\x80\x80\x80\x01"}, {-1 << 62, "\xff\xff\xff\xff\xff\xff\xff\xff\x7f"},
		{math.MaxInt64, "\xfe\xff\xff\xff\xff\xff\xff\xff\xff\x01"}, {math.MinInt64 + 1, "\xfd\xff\xff\xff\xff\xff\xff\xff\xff\x01"},
		{math.MinInt64, "\xff\xff\xff\xff\xff\xff\xff\xff\xff\x01"},
	} {
		if got := Signed(x.n); got != x.want {
			t.Errorf("Signed(%d) = %x, want %x", x.n, got, x.want)
		}
	}
}

// P6.1: Signed of all kinds, by the chapter's words, and as the library tells them.
func TestSignedByWords(t *testing.T) {
	for _, n := range wholes() {
		got := Signed(n)
		if want := bytesByWords(signedByWords(n)); got != want {
			t.Errorf("Signed(%d) = %x, want %x", n, got, want)
		}
		if want := string(binary.AppendVarint(nil, n)); got != want {
			t.Errorf("Signed(%d) = %x, want %x", n, got, want)
		}
	}
}

// P6.1: ReadNumber and ReadSigned of ordinary bytes, whatever stands behind them.
func TestReadNumber(t *testing.T) {
	for _, x := range []struct {
		s    string
		want uint64
	}{
		{"\x00", 0}, {"\x01", 1}, {"\x02", 2}, {"\x7f", 127}, {"\x80\x01", 128}, {"\xff\x01", 255}, {"\xac\x02", 300}, {"\xff\x7f", 16383},
		{"\x80\x80\x01", 16384}, {"\x80\x80\x7f", 127 << 14}, {"\x81\x80\x80\x80\x01", 1<<28 + 1},
		{"\xff\xff\xff\xff\xff\xff\xff\xff\x7f", 1<<63 - 1}, {"\x80\x80\x80\x80\x80\x80\x80\x80\x80\x01", 1 << 63},
		{"\xff\xff\xff\xff\xff\xff\xff\xff\xff\x01", math.MaxUint64},
	} {
		for _, more := range behind() {
			checkNumber(t, x.s+more, x.want, len(x.s))
		}
	}
}

// P6.1: ErrShort of no bytes, and of bytes that end ahead of a number's end, at every length; of ten, of which the last may be, too.
func TestReadNumberShort(t *testing.T) {
	for _, b := range []string{"\x80", "\x81", "\xc0", "\xfe", "\xff"} {
		for size := range 10 {
			checkNoNumber(t, strings.Repeat(b, size), api.ErrShort)
		}
	}
	for _, n := range numbers() {
		s := Number(n)
		for size := range len(s) {
			checkNoNumber(t, s[:size], api.ErrShort)
		}
	}
	for _, nine := range nineBytes() {
		checkNoNumber(t, nine+"\x80", api.ErrShort)
		checkNoNumber(t, nine+"\x81", api.ErrShort)
	}
}

// nineBytes are such as a tenth one may stand behind.
func nineBytes() []string {
	return []string{strings.Repeat("\x80", 9), strings.Repeat("\xff", 9), "\x81\x82\x83\x84\x85\x86\x87\x88\x89"}
}

// P6.1: of all tenth bytes 1 ends a number; 128 and 129 don't, and are short; all others have no form.
func TestReadNumberTenth(t *testing.T) {
	for _, nine := range nineBytes() {
		low := uint64(0)
		for i := range 9 {
			low += uint64(nine[i]-128) << (7 * i)
		}
		for b := range 256 {
			s := nine + string([]byte{byte(b)})
			switch b {
			case 1:
				checkNumber(t, s, low+1<<63, 10)
				checkNumber(t, s+"\xff\x00", low+1<<63, 10)
			case 128, 129:
				checkNoNumber(t, s, api.ErrShort)
			default:
				checkNoNumber(t, s, api.ErrForm)
				checkNoNumber(t, s+"\x01", api.ErrForm)
			}
		}
	}
}

// P6.1: an eleventh byte has no form, whatever it is, and whatever stands behind it.
func TestReadNumberEleventh(t *testing.T) {
	for _, nine := range nineBytes() {
		for _, tenth := range []string{"\x80", "\x81"} {
			for b := range 256 {
				s := nine + tenth + string([]byte{byte(b)})
				checkNoNumber(t, s, api.ErrForm)
				checkNoNumber(t, s+"\x01", api.ErrForm)
			}
		}
	}
	checkNoNumber(t, strings.Repeat("\x80", 1000), api.ErrForm)
	checkNoNumber(t, strings.Repeat("\x81", 1000), api.ErrForm)
}

// P6.1: a 0 has no form behind the first byte, at every place; as the first one it is 0.
func TestReadNumberNull(t *testing.T) {
	for _, b := range []string{"\x80", "\x81", "\xc0", "\xff"} {
		for size := 1; size < 10; size++ {
			for _, more := range behind() {
				checkNoNumber(t, strings.Repeat(b, size)+"\x00"+more, api.ErrForm)
			}
		}
	}
	for _, more := range behind() {
		checkNumber(t, "\x00"+more, 0, 1)
	}
}

// P6.1: where both hold, the one that is met first is told.
func TestReadNumberFirstError(t *testing.T) {
	for _, x := range []struct {
		s    string
		want api.Errno
	}{
		{"\x80\x00", api.ErrForm},
		{"\x80\x00\x80", api.ErrForm},
		{"\x80\x80\x00\x80\x80\x80\x80\x80\x80\x80\x80", api.ErrForm},
		{strings.Repeat("\xff", 9), api.ErrShort},
		{strings.Repeat("\xff", 10), api.ErrForm},
		{strings.Repeat("\xff", 9) + "\x82", api.ErrForm},
		{strings.Repeat("\xff", 9) + "\x81", api.ErrShort},
		{strings.Repeat("\xff", 9) + "\x81\x80", api.ErrForm},
	} {
		checkNoNumber(t, x.s, x.want)
	}
}

// P6.2: Fits of none, of as many as may be and one more, of the greatest input and one more, wherever it stands.
func TestFits(t *testing.T) {
	for _, l := range runs() {
		if !Fits(l) {
			t.Errorf("Fits(%v) = false", l)
		}
	}
	for _, n := range []int{api.MaxRun + 1, api.MaxRun + 2, 128, 256, 257, 320, 1 << 16} {
		if Fits(make([]uint8, n)) {
			t.Errorf("Fits of %d inputs = true", n)
		}
	}
	for _, n := range []int{1, 2, 63, 64} {
		for at := range n {
			for x := range 256 {
				l := rising(n)
				l[at] = uint8(x)
				if got := Fits(l); got != (x <= 63) {
					t.Errorf("Fits of %d inputs, of which the one at %d is %d = %t", n, at, x, got)
				}
			}
		}
	}
}

// P6.2: Run of none, of the chapter's example, of stretches of 1 and of 64.
func TestRun(t *testing.T) {
	for _, x := range []struct {
		l    []uint8
		want string
	}{
		{nil, "\x00"}, {[]uint8{}, "\x00"}, {[]uint8{0}, "\x01\x00\x01"}, {[]uint8{63}, "\x01\x3f\x01"},
		{[]uint8{5, 5, 5, 0}, "\x04\x05\x03\x00\x01"}, {[]uint8{0, 5, 5, 5}, "\x04\x00\x01\x05\x03"},
		{[]uint8{1, 2, 1, 2}, "\x04\x01\x01\x02\x01\x01\x01\x02\x01"}, {[]uint8{4, 4, 9, 9, 4, 4}, "\x06\x04\x02\x09\x02\x04\x02"},
		{make([]uint8, 63), "\x3f\x00\x3f"}, {make([]uint8, 64), "\x40\x00\x40"}, {bytes.Repeat([]uint8{63}, 64), "\x40\x3f\x40"},
		{append(make([]uint8, 63), 1), "\x40\x00\x3f\x01\x01"},
	} {
		if got, e := Run(x.l); got != x.want || e != api.OK {
			t.Errorf("Run(%v) = %x, %d, want %x", x.l, got, e, x.want)
		}
	}
	want := "\x40"
	for i := range 64 {
		want += string([]byte{byte(i), 1})
	}
	if got, e := Run(rising(64)); got != want || e != api.OK {
		t.Errorf("Run of 64 stretches = %x, %d, want %x", got, e, want)
	}
}

// P6.2: Run of all kinds, by the chapter's words.
func TestRunByWords(t *testing.T) {
	for _, l := range runs() {
		if got, want := mustRun(t, l), runByWords(l); got != want {
			t.Errorf("Run(%v) = %x, want %x", l, got, want)
		}
	}
}

// P6.2: ErrArg of what isn't a run: too many, or an input that is too great, wherever it stands.
func TestRunWrong(t *testing.T) {
	var wrong [][]uint8
	for _, n := range []int{65, 66, 128, 256, 257, 320, 1 << 16} {
		wrong = append(wrong, make([]uint8, n), rising(n))
	}
	for _, x := range []uint8{64, 65, 127, 128, 255} {
		for _, n := range []int{1, 2, 64, 65} {
			for _, at := range []int{0, n / 2, n - 1} {
				l := rising(n)
				l[at] = x
				wrong = append(wrong, l)
			}
		}
	}
	for _, l := range wrong {
		if got, e := Run(l); got != "" || e != api.ErrArg || Fits(l) {
			t.Errorf("Run(%v) = %x, %d, Fits = %t, want ErrArg", l, got, e, Fits(l))
		}
	}
}

// P6.2: ReadRun of ordinary bytes and of the counts at their ends, whatever stands behind them.
func TestReadRun(t *testing.T) {
	for _, x := range []struct {
		s    string
		want []uint8
	}{
		{"\x00", nil}, {"\x01\x00\x01", []uint8{0}}, {"\x01\x3f\x01", []uint8{63}}, {"\x04\x05\x03\x00\x01", []uint8{5, 5, 5, 0}},
		{"\x04\x01\x01\x02\x01\x01\x01\x02\x01", []uint8{1, 2, 1, 2}}, {"\x05\x07\x02\x08\x03", []uint8{7, 7, 8, 8, 8}},
		{"\x40\x00\x40", make([]uint8, 64)}, {"\x40\x3f\x40", bytes.Repeat([]uint8{63}, 64)}, {"\x40\x00\x3f\x01\x01", append(make([]uint8, 63), 1)},
		{runByWords(rising(64)), rising(64)},
	} {
		for _, more := range behind() {
			checkRun(t, x.s+more, x.want, len(x.s))
		}
	}
}

// P6.2: behind a run nothing is looked at, not even a stretch of the input of its last one.
func TestReadRunBehind(t *testing.T) {
	for _, l := range runs() {
		s := mustRun(t, l)
		more := append(behind(), s, "\x05\x01", "\x05\x00")
		if len(l) > 0 {
			more = append(more, string([]byte{l[len(l)-1], 1}))
		}
		for _, m := range more {
			checkRun(t, s+m, l, len(s))
		}
	}
}

// P6.2: the count's errors: those of a number, and ErrLong above MaxRun, also of one that would go round.
func TestReadRunCount(t *testing.T) {
	for _, more := range []string{"", "\x05", "\x05\x01", "\x40", "\x05\x00", "\x00\x41", "\xff\xff"} {
		for _, n := range []uint64{65, 66, 127, 128, 129, 192, 255, 256, 257, 260, 1 << 16, 1<<16 + 1, 1 << 32, 1<<32 + 1, 1<<63 - 1, 1 << 63, 1<<63 + 1, math.MaxUint64 - 1, math.MaxUint64} {
			checkNoRun(t, Number(n)+more, api.ErrLong)
		}
		for _, s := range []string{"\x80\x00", "\x81\x00", "\x84\x00", "\xc0\x00", "\xc1\x00", "\xff\x00", "\x81\x80\x00", strings.Repeat("\x81", 9) + "\x00", strings.Repeat("\xff", 9) + "\x02", strings.Repeat("\xff", 9) + "\x81\x01"} {
			checkNoRun(t, s+more, api.ErrForm)
		}
	}
	for _, s := range []string{"", "\x80", "\x84", "\xc0", "\xc1", "\xff", "\xff\xff", strings.Repeat("\x80", 9), strings.Repeat("\xff", 9), strings.Repeat("\xff", 9) + "\x80", strings.Repeat("\xff", 9) + "\x81"} {
		checkNoRun(t, s, api.ErrShort)
	}
}

// P6.2: ErrForm of an input above MaxInput, in the first stretch and in a later one, with its number behind it or not.
func TestReadRunInput(t *testing.T) {
	for x := range 256 {
		input := string([]byte{byte(x)})
		for _, ahead := range []string{"", "\x3e\x01", "\x3e\x02"} {
			many := 1
			if ahead != "" {
				many += int(ahead[1])
			}
			s := string([]byte{byte(many)}) + ahead + input
			if x > 63 {
				for _, more := range []string{"", "\x01", "\x80", "\x00", "\x02"} {
					checkNoRun(t, s+more, api.ErrForm)
				}
			} else if x != 62 {
				checkNoRun(t, s, api.ErrShort)
				if l, k, e := ReadRun(s + "\x01"); len(l) != many || l[many-1] != uint8(x) || k != len(s)+1 || e != api.OK {
					t.Fatalf("ReadRun(%q) = %v, %d, %d", s+"\x01", l, k, e)
				}
			}
		}
	}
}

// P6.2: a stretch of none, of just as many as are left, and of more, in the first stretch and in a later one.
func TestReadRunStretch(t *testing.T) {
	for count := 1; count <= 64; count++ {
		for first := range count {
			s, left := string([]byte{byte(count)}), count
			want := bytes.Repeat([]uint8{9}, first)
			if first > 0 {
				s += "\x09" + Number(uint64(first))
				left -= first
			}
			s += "\x08"
			want = append(want, bytes.Repeat([]uint8{8}, left)...)
			checkRun(t, s+Number(uint64(left)), want, len(s)+1)
			checkNoRun(t, s+"\x00", api.ErrForm)
			for _, more := range []uint64{1, 2, 64, 128, 256, 1 << 16, 1 << 32, 1 << 63, math.MaxUint64 - 64} {
				checkNoRun(t, s+Number(uint64(left)+more), api.ErrForm)
			}
			if left > 1 {
				checkNoRun(t, s+Number(uint64(left-1)), api.ErrShort)
			}
		}
	}
	checkNoRun(t, "\x01\x05"+Number(math.MaxUint64), api.ErrForm)
}

// P6.2: a stretch's number has a number's errors: short at every length, and no form in more bytes than it takes.
func TestReadRunStretchNumber(t *testing.T) {
	for _, s := range []string{"\x03\x05", "\x03\x04\x01\x05"} {
		for size := range 10 {
			checkNoRun(t, s+strings.Repeat("\x82", size), api.ErrShort)
			if size > 0 {
				checkNoRun(t, s+strings.Repeat("\x82", size)+"\x00", api.ErrForm)
			}
		}
		checkNoRun(t, s+strings.Repeat("\x82", 9)+"\x81", api.ErrShort)
		checkNoRun(t, s+strings.Repeat("\x82", 9)+"\x82", api.ErrForm)
		checkNoRun(t, s+strings.Repeat("\x82", 9)+"\x81\x01", api.ErrForm)
		checkNoRun(t, s+"\x81\x00", api.ErrForm)
	}
}

// P6.2: two stretches of one input behind one another have no form, as soon as the second one's input is met; with another one between they may be.
func TestReadRunAlike(t *testing.T) {
	for x := range uint8(64) {
		s := string([]byte{4, x, 1, x})
		for _, more := range []string{"", "\x01", "\x03", "\x80", "\x00", "\x04", "\x01\x07\x02"} {
			checkNoRun(t, s+more, api.ErrForm)
		}
		other := x ^ 1
		checkRun(t, string([]byte{4, x, 1, other, 2, x, 1}), []uint8{x, other, other, x}, 7)
		checkNoRun(t, string([]byte{4, x, 1, other, 2, other, 1}), api.ErrForm)
	}
}

// P6.2: bytes that end ahead of the run's end are short, at every length.
func TestReadRunShort(t *testing.T) {
	for _, l := range runs() {
		s := mustRun(t, l)
		for size := range len(s) {
			checkNoRun(t, s[:size], api.ErrShort)
		}
	}
}

// P6.2: where several errors hold, the one that is met first is told.
func TestReadRunFirstError(t *testing.T) {
	for _, x := range []struct {
		s    string
		want api.Errno
	}{
		{"\x41", api.ErrLong}, {"\x41\x40\x00", api.ErrLong}, {"\xc1\x00", api.ErrForm}, {"\xc1", api.ErrShort}, {"\xc1\x01", api.ErrLong},
		{"\x01\x40", api.ErrForm}, {"\x01\x40\x80", api.ErrForm}, {"\x01\x05", api.ErrShort}, {"\x01\x05\x82", api.ErrShort},
		{"\x02\x05\x01\x05", api.ErrForm}, {"\x02\x05\x01\x06", api.ErrShort}, {"\x02\x05\x03", api.ErrForm},
		{"\x02\x05\x80\x40", api.ErrForm}, {"\x03\x05\x01\x06\x01", api.ErrShort}, {"\x03\x05\x00\x40", api.ErrForm},
	} {
		checkNoRun(t, x.s, x.want)
	}
}

// P6.3: numbers that are told are read as they were, and all of their bytes are theirs.
func TestToldNumbersAreRead(t *testing.T) {
	for _, n := range numbers() {
		s := Number(n)
		for _, more := range behind() {
			if got, k, e := ReadNumber(s + more); got != n || k != len(s) || e != api.OK {
				t.Fatalf("of %d, told as %x, ReadNumber = %d, %d, %d", n, s, got, k, e)
			}
		}
	}
	for _, n := range wholes() {
		s := Signed(n)
		for _, more := range behind() {
			if got, k, e := ReadSigned(s + more); got != n || k != len(s) || e != api.OK {
				t.Fatalf("of %d, told as %x, ReadSigned = %d, %d, %d", n, s, got, k, e)
			}
		}
	}
}

// P6.3: numbers that are read from any bytes are told by just these.
func TestReadNumbersAreTold(t *testing.T) {
	read := 0
	for _, s := range manyBytes() {
		n, k, e := ReadNumber(s)
		if e == api.OK && Number(n) != s[:k] {
			t.Fatalf("%q is read as %d, which is told as %q", s, n, Number(n))
		}
		m, l, f := ReadSigned(s)
		if f == api.OK && Signed(m) != s[:l] {
			t.Fatalf("%q is read as %d, which is told as %q", s, m, Signed(m))
		}
		if k != l || e != f {
			t.Fatalf("ReadNumber(%q) = %d, %d, ReadSigned %d, %d", s, k, e, l, f)
		}
		if e == api.OK {
			read++
		}
	}
	if read < 1000 {
		t.Errorf("only %d were read", read)
	}
}

// manyBytes are all of up to two bytes, more of some, and long ones of which many go on.
func manyBytes() []string {
	all := spelled("\x00\x01\x02\x3f\x40\x7f\x80\x81\x82\xff", 5)
	for a := range 256 {
		for b := range 256 {
			all = append(all, string([]byte{byte(a), byte(b)}))
		}
	}
	s := strewn(3)
	for range 20000 {
		b := make([]byte, s.below(14))
		for i := range b {
			b[i] = byte(s.next() >> 40)
			if s.below(8) > 0 {
				b[i] |= 128
			}
		}
		all = append(all, string(b), strings.Repeat("\x81", 9)+string(b))
	}
	return all
}

// P6.3: runs that are told are read as they were, and all of their bytes are theirs.
func TestToldRunsAreRead(t *testing.T) {
	for _, l := range runs() {
		s := mustRun(t, l)
		for _, more := range behind() {
			checkRun(t, s+more, l, len(s))
		}
	}
}

// P6.3: of all short bytes just those that begin with a run's are read, and told by these.
func TestReadRunsAreTold(t *testing.T) {
	// Of these letters a count of 65 and one that goes on are of no run, so that all runs that may be read have up to 4 inputs of up to 4.
	letters, told := "\x00\x01\x02\x03\x04\x41\x80", map[string][]uint8{}
	for _, l := range spelled(letters[:5], 4) {
		told[runByWords([]uint8(l))] = []uint8(l)
	}
	for _, s := range spelled(letters, 6) {
		size := 0
		for size <= len(s) && told[s[:size]] == nil {
			size++
		}
		if size <= len(s) {
			checkRun(t, s, told[s[:size]], size)
			if got := mustRun(t, told[s[:size]]); got != s[:size] {
				t.Fatalf("%q is told as %q", s[:size], got)
			}
		} else if l, k, e := ReadRun(s); len(l) != 0 || k != 0 || e == api.OK {
			t.Fatalf("ReadRun(%q) = %v, %d, %d, but no run has these bytes", s, l, k, e)
		}
	}
}

// P6.3: runs of which a byte is turned are refused, or read as something that is told by these bytes.
func TestTurnedRuns(t *testing.T) {
	for _, l := range [][]uint8{{5, 5, 5, 0}, {0}, rising(64), make([]uint8, 64), {1, 2, 2, 3, 3, 3}} {
		s := []byte(mustRun(t, l))
		for at, was := range s {
			for x := range 256 {
				s[at] = byte(x)
				got, k, e := ReadRun(string(s))
				if e == api.OK && (!Fits(got) || runByWords(got) != string(s[:k])) {
					t.Fatalf("ReadRun(%q) = %v, %d", s, got, k)
				}
				if e != api.OK && (len(got) != 0 || k != 0) {
					t.Fatalf("ReadRun(%q) = %v, %d, %d", s, got, k, e)
				}
			}
			s[at] = was
		}
	}
}

// P6.2: a list that is handed in isn't changed, its spare room neither, whether it is a run or not.
func TestListsStay(t *testing.T) {
	for _, wrong := range []bool{false, true} {
		all := append(bytes.Repeat([]uint8{5}, 30), rising(64)...)
		if wrong {
			all[10] = 64
		}
		was := slices.Clone(all)
		l := all[:40]
		Fits(l)
		Run(l)
		if !slices.Equal(all, was) {
			t.Errorf("the list was %v, and is %v", was, all)
		}
	}
}

// P6.2: a run's bytes stay when its list is changed; what is read is new memory, each time.
func TestAnswersAreNewMemory(t *testing.T) {
	l := []uint8{5, 5, 5, 0}
	s := mustRun(t, l)
	for i := range l {
		l[i] = 9
	}
	if s != "\x04\x05\x03\x00\x01" {
		t.Errorf("the bytes became %q", s)
	}
	// Read from memory that can be changed, so that a shared piece of it would be seen.
	held := []byte("\x02\x05\x01\x06\x01")
	first, _, _ := ReadRun(unsafe.String(&held[0], len(held)))
	second, _, _ := ReadRun(unsafe.String(&held[0], len(held)))
	for i := range first[:cap(first)] {
		first[:cap(first)][i] = 60
	}
	if string(held) != "\x02\x05\x01\x06\x01" || !slices.Equal(second, []uint8{5, 6}) {
		t.Errorf("changing one answer made %q, %v of the others", held, second)
	}
	held[1], held[3] = 1, 2
	if !slices.Equal(second, []uint8{5, 6}) {
		t.Errorf("changing the bytes made %v of the answer", second)
	}
}
