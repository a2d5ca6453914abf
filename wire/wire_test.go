package wire

import (
	"bytes"
	"encoding/binary"
	"hash/adler32"
	"math"
	"slices"
	"strings"
	"testing"
	"unsafe"

	"promptbook/api"
)

// strewn tells numbers by a fixed rule.
type strewn uint64

func (s *strewn) next() uint64 {
	*s = *s*6364136223846793005 + 1442695040888963407
	return uint64(*s>>32)<<32 | uint64(*s*2862933555777941757>>32)
}

// below is a number from 0 up to below n.
func (s *strewn) below(n int) int {
	return int(s.next() >> 1 % uint64(n))
}

// names is which fields a Kind has, by api's remarks.
func names(kind int) string {
	return map[int]string{
		1: "Nonce", 2: "Nonce", 3: "Serial Ack Inputs", 4: "Serial Sum", 5: "Ack", 6: "Serial Lead", 7: "",
	}[kind]
}

// seal puts the library's sum of that name behind the bytes.
func seal(s string) string {
	return string(binary.BigEndian.AppendUint32([]byte(s), adler32.Checksum([]byte(s))))
}

// runByWords tells inputs of up to 64, so that each number has one byte.
func runByWords(l []uint8) string {
	s := []byte{byte(len(l))}
	for i, x := range l {
		if i == 0 || x != l[i-1] {
			s = append(s, x, 0)
		}
		s[len(s)-1]++
	}
	return string(s)
}

// bodyByWords is a datagram's bytes as the chapter says them, not sealed.
func bodyByWords(m api.Msg) string {
	b := []byte{80, byte(m.Kind)}
	switch m.Kind {
	case 1, 2:
		b = binary.BigEndian.AppendUint32(b, m.Nonce)
	case 3:
		b = binary.BigEndian.AppendUint16(b, m.Serial)
		b = binary.BigEndian.AppendUint16(b, m.Ack)
		b = append(b, runByWords(m.Inputs)...)
	case 4:
		b = binary.BigEndian.AppendUint16(b, m.Serial)
		b = binary.BigEndian.AppendUint32(b, m.Sum)
	case 5:
		b = binary.BigEndian.AppendUint16(b, m.Ack)
	case 6:
		b = binary.BigEndian.AppendUint16(b, m.Serial)
		b = binary.AppendVarint(b, int64(m.Lead))
	}
	return string(b)
}

// rising is n inputs from 0 on, no two neighbours alike.
func rising(n int) []uint8 {
	l := make([]uint8, n)
	for i := range l {
		l[i] = uint8(i % 64)
	}
	return l
}

// ofEach is one datagram of each Kind, with something in all fields that it names.
func ofEach() []api.Msg {
	return []api.Msg{
		{Kind: api.MsgHello, Nonce: 0x01020304},
		{Kind: api.MsgWelcome, Nonce: 0xfffefdfc},
		{Kind: api.MsgInputs, Serial: 0x0102, Ack: 0xfefd, Inputs: []uint8{5, 5, 5, 0}},
		{Kind: api.MsgReport, Serial: 0x8001, Sum: 0x01020304},
		{Kind: api.MsgAlive, Ack: 0x0708},
		{Kind: api.MsgQuality, Serial: 0x0a0b, Lead: -300},
		{Kind: api.MsgBye},
	}
}

// edges are datagrams with their fields at both ends, and beside them.
func edges() []api.Msg {
	var l []api.Msg
	words16 := []uint16{0, 1, 127, 128, 255, 256, 32767, 32768, 65534, 65535}
	words32 := []uint32{0, 1, 255, 256, 65535, 65536, 1<<24 - 1, 1 << 24, 1<<31 - 1, 1 << 31, math.MaxUint32 - 1, math.MaxUint32}
	for _, w := range words32 {
		l = append(l, api.Msg{Kind: api.MsgHello, Nonce: w}, api.Msg{Kind: api.MsgWelcome, Nonce: w})
		for _, serial := range words16 {
			l = append(l, api.Msg{Kind: api.MsgReport, Serial: serial, Sum: w})
		}
	}
	runs := [][]uint8{{0}, {63}, {5, 5, 5, 0}, make([]uint8, 63), make([]uint8, 64), bytes.Repeat([]uint8{63}, 64), rising(63), rising(64)}
	for _, ack := range words16 {
		l = append(l, api.Msg{Kind: api.MsgAlive, Ack: ack})
		for _, serial := range words16 {
			for _, run := range runs {
				l = append(l, api.Msg{Kind: api.MsgInputs, Serial: serial, Ack: ack, Inputs: run})
			}
		}
	}
	for _, serial := range words16 {
		for _, lead := range []int{-1000, -999, -65, -64, -2, -1, 0, 1, 2, 63, 64, 999, 1000} {
			l = append(l, api.Msg{Kind: api.MsgQuality, Serial: serial, Lead: lead})
		}
	}
	return l
}

// lots are datagrams of all Kinds, at their edges and strewn.
func lots() []api.Msg {
	l := append(ofEach(), edges()...)
	s := strewn(1)
	for range 2000 {
		run := make([]uint8, 1+s.below(64))
		kinds := 1 + s.below(64)
		for i := range run {
			run[i] = uint8(s.below(kinds))
		}
		l = append(l,
			api.Msg{Kind: api.MsgHello, Nonce: uint32(s.next())},
			api.Msg{Kind: api.MsgWelcome, Nonce: uint32(s.next())},
			api.Msg{Kind: api.MsgInputs, Serial: uint16(s.next()), Ack: uint16(s.next()), Inputs: run},
			api.Msg{Kind: api.MsgReport, Serial: uint16(s.next()), Sum: uint32(s.next())},
			api.Msg{Kind: api.MsgAlive, Ack: uint16(s.next())},
			api.Msg{Kind: api.MsgQuality, Serial: uint16(s.next()), Lead: s.below(2001) - 1000},
		)
	}
	return l
}

// change is a field, and what it is set to.
type change struct {
	field string
	set   func(m *api.Msg)
}

// changes set each field to something that isn't zero, and that the field could be where it is named.
func changes() []change {
	var l []change
	for _, x := range []uint32{1, 256, 1 << 16, 1 << 31, math.MaxUint32} {
		l = append(l,
			change{"Nonce", func(m *api.Msg) { m.Nonce = x }},
			change{"Sum", func(m *api.Msg) { m.Sum = x }})
	}
	for _, x := range []uint16{1, 256, 1 << 15, math.MaxUint16} {
		l = append(l,
			change{"Serial", func(m *api.Msg) { m.Serial = x }},
			change{"Ack", func(m *api.Msg) { m.Ack = x }})
	}
	for _, x := range [][]uint8{{0}, {63}, {1, 2}, make([]uint8, 64)} {
		l = append(l, change{"Inputs", func(m *api.Msg) { m.Inputs = x }})
	}
	for _, x := range []int{-1000, -1, 1, 1000} {
		l = append(l, change{"Lead", func(m *api.Msg) { m.Lead = x }})
	}
	return l
}

// alike holds two datagrams against each other without Same.
func alike(a, b api.Msg) bool {
	return a.Kind == b.Kind && a.Nonce == b.Nonce && a.Serial == b.Serial && a.Ack == b.Ack && string(a.Inputs) == string(b.Inputs) && a.Sum == b.Sum && a.Lead == b.Lead
}

func mustPack(t *testing.T, m api.Msg) string {
	t.Helper()
	s, e := Pack(m)
	if e != api.OK {
		t.Fatalf("Pack(%v) = %q, %d", m, s, e)
	}
	return s
}

// checkMay: it may be, and is packed, or it may not, and isn't.
func checkMay(t *testing.T, m api.Msg, may bool) {
	t.Helper()
	if got := Right(m); got != may {
		t.Errorf("Right(%v) = %t", m, got)
	}
	s, e := Pack(m)
	if may && (s != seal(bodyByWords(m)) || e != api.OK) {
		t.Errorf("Pack(%v) = %x, %d, want %x", m, s, e, seal(bodyByWords(m)))
	}
	if !may && (s != "" || e != api.ErrArg) {
		t.Errorf("Pack(%v) = %x, %d, want ErrArg", m, s, e)
	}
}

func checkUnpack(t *testing.T, s string, want api.Msg) {
	t.Helper()
	if m, e := Unpack(s); !alike(m, want) || e != api.OK {
		t.Fatalf("Unpack(%x) = %v, %d, want %v", s, m, e, want)
	}
}

// checkNone: it is refused for this reason, and nothing stands beside it.
func checkNone(t *testing.T, s string, want api.Errno) {
	t.Helper()
	if m, e := Unpack(s); !alike(m, api.Msg{}) || e != want {
		t.Fatalf("Unpack(%x) = %v, %d, want error %d", s, m, e, want)
	}
}

// P7.1: Pack and Unpack of a datagram of each Kind, the chapter's example among them, byte by byte.
func TestBytesOfEachKind(t *testing.T) {
	for _, x := range []struct {
		m    api.Msg
		want string
	}{
		{api.Msg{Kind: api.MsgHello, Nonce: 0x01020304}, "\x50\x01\x01\x02\x03\x04\x01\xff\x00\x5c"},
		{api.Msg{Kind: api.MsgWelcome, Nonce: 0xfffefdfc}, seal("P\x02\xff\xfe\xfd\xfc")},
		{api.Msg{Kind: api.MsgInputs, Serial: 0x0102, Ack: 0xfefd, Inputs: []uint8{5, 5, 5, 0}}, seal("P\x03\x01\x02\xfe\xfd\x04\x05\x03\x00\x01")},
		{api.Msg{Kind: api.MsgReport, Serial: 0x8001, Sum: 0x01020304}, seal("P\x04\x80\x01\x01\x02\x03\x04")},
		{api.Msg{Kind: api.MsgAlive, Ack: 0x0708}, seal("P\x05\x07\x08")},
		{api.Msg{Kind: api.MsgQuality, Serial: 0x0a0b, Lead: -300}, seal("P\x06\x0a\x0b\xd7\x04")},
		{api.Msg{Kind: api.MsgBye}, "\x50\x07\x00\xa9\x00\x58"},
	} {
		if got, e := Pack(x.m); got != x.want || e != api.OK || !Right(x.m) {
			t.Errorf("Pack(%v) = %x, %d, want %x; Right = %t", x.m, got, e, x.want, Right(x.m))
		}
		checkUnpack(t, x.want, x.m)
	}
	if got := len(mustPack(t, api.Msg{Kind: api.MsgBye})); got != 6 {
		t.Errorf("MsgBye has %d bytes", got)
	}
}

// P7.1: Nonce, Sum, Serial and Ack at 0 and at their greatest, the highest byte first.
func TestBytesOfWords(t *testing.T) {
	for _, x := range []struct {
		m    api.Msg
		want string
	}{
		{api.Msg{Kind: api.MsgHello}, "P\x01\x00\x00\x00\x00"},
		{api.Msg{Kind: api.MsgHello, Nonce: math.MaxUint32}, "P\x01\xff\xff\xff\xff"},
		{api.Msg{Kind: api.MsgWelcome}, "P\x02\x00\x00\x00\x00"},
		{api.Msg{Kind: api.MsgWelcome, Nonce: math.MaxUint32}, "P\x02\xff\xff\xff\xff"},
		{api.Msg{Kind: api.MsgWelcome, Nonce: 1 << 24}, "P\x02\x01\x00\x00\x00"},
		{api.Msg{Kind: api.MsgInputs, Inputs: []uint8{0}}, "P\x03\x00\x00\x00\x00\x01\x00\x01"},
		{api.Msg{Kind: api.MsgInputs, Serial: 65535, Inputs: []uint8{63}}, "P\x03\xff\xff\x00\x00\x01\x3f\x01"},
		{api.Msg{Kind: api.MsgInputs, Ack: 65535, Inputs: []uint8{63}}, "P\x03\x00\x00\xff\xff\x01\x3f\x01"},
		{api.Msg{Kind: api.MsgReport}, "P\x04\x00\x00\x00\x00\x00\x00"},
		{api.Msg{Kind: api.MsgReport, Serial: 65535}, "P\x04\xff\xff\x00\x00\x00\x00"},
		{api.Msg{Kind: api.MsgReport, Sum: math.MaxUint32}, "P\x04\x00\x00\xff\xff\xff\xff"},
		{api.Msg{Kind: api.MsgAlive}, "P\x05\x00\x00"},
		{api.Msg{Kind: api.MsgAlive, Ack: 65535}, "P\x05\xff\xff"},
		{api.Msg{Kind: api.MsgAlive, Ack: 256}, "P\x05\x01\x00"},
		{api.Msg{Kind: api.MsgQuality}, "P\x06\x00\x00\x00"},
		{api.Msg{Kind: api.MsgQuality, Serial: 65535}, "P\x06\xff\xff\x00"},
		{api.Msg{Kind: api.MsgQuality, Lead: -1}, "P\x06\x00\x00\x01"},
		{api.Msg{Kind: api.MsgQuality, Lead: 1}, "P\x06\x00\x00\x02"},
		{api.Msg{Kind: api.MsgQuality, Lead: -1000}, "P\x06\x00\x00\xcf\x0f"},
		{api.Msg{Kind: api.MsgQuality, Lead: 1000}, "P\x06\x00\x00\xd0\x0f"},
	} {
		if got, e := Pack(x.m); got != seal(x.want) || e != api.OK {
			t.Errorf("Pack(%v) = %x, %d, want %x", x.m, got, e, seal(x.want))
		}
		checkUnpack(t, seal(x.want), x.m)
	}
}

// P7.1: Right and Pack of all kinds of datagrams that may be, by the chapter's words.
func TestPackByWords(t *testing.T) {
	for _, m := range lots() {
		checkMay(t, m, true)
	}
}

// P7.1: the Kinds that are, and those beside them; a Kind that only its lowest byte would make one isn't.
func TestRightKinds(t *testing.T) {
	for kind := 1; kind <= 7; kind++ {
		checkMay(t, api.Msg{Kind: kind}, kind != api.MsgInputs)
		checkMay(t, api.Msg{Kind: kind, Inputs: []uint8{1}}, kind == api.MsgInputs)
	}
	for _, kind := range []int{0, 8, 9, 10, 80, 255, 256, 257, 259, 263, 1<<16 + 1, 1<<31 + 7, 1<<32 + 7, math.MaxInt, -1, -2, -7, -249, -253, -255, -256, math.MinInt, math.MinInt + 7} {
		for _, m := range ofEach() {
			m.Kind = kind
			checkMay(t, m, false)
		}
	}
}

// P7.1: of each Kind each field that it doesn't name must be zero, whatever the others are.
func TestRightFields(t *testing.T) {
	for _, m := range ofEach() {
		for _, c := range changes() {
			changed := m
			c.set(&changed)
			checkMay(t, changed, strings.Contains(names(m.Kind), c.field))
		}
	}
	for kind := 1; kind <= 7; kind++ {
		all := api.Msg{Kind: kind, Nonce: 1, Serial: 1, Ack: 1, Inputs: []uint8{1}, Sum: 1, Lead: 1}
		checkMay(t, all, false)
	}
}

// P7.1: Inputs that are empty are as none: wrong in MsgInputs, right in every other Kind.
func TestRightEmptyInputs(t *testing.T) {
	for _, m := range ofEach() {
		for _, none := range [][]uint8{nil, {}, make([]uint8, 0, 9)} {
			m.Inputs = none
			checkMay(t, m, m.Kind != api.MsgInputs)
		}
	}
}

// P7.1: MsgInputs with as many inputs as may be and one more, with the greatest input and one more, wherever it stands.
func TestRightInputs(t *testing.T) {
	for _, n := range []int{0, 1, 2, 63, 64, 65, 66, 128, 255, 256, 257, 320} {
		for _, l := range [][]uint8{make([]uint8, n), bytes.Repeat([]uint8{63}, n), rising(n)} {
			checkMay(t, api.Msg{Kind: api.MsgInputs, Serial: 1, Ack: 2, Inputs: l}, n >= 1 && n <= 64)
		}
	}
	for _, n := range []int{1, 2, 64} {
		for at := range n {
			for _, x := range []uint8{0, 62, 63, 64, 65, 127, 128, 255} {
				l := rising(n)
				l[at] = x
				checkMay(t, api.Msg{Kind: api.MsgInputs, Inputs: l}, x <= 63)
			}
		}
	}
}

// P7.1: MsgQuality with a Lead at its ends, about 0, and beyond.
func TestRightLead(t *testing.T) {
	for _, x := range []struct {
		lead int
		may  bool
	}{
		{-1001, false}, {-1000, true}, {-999, true}, {-1, true}, {0, true}, {1, true}, {999, true}, {1000, true}, {1001, false},
		{-1 << 31, false}, {1 << 31, false}, {1 << 32, false}, {1<<32 + 1, false}, {-1 << 32, false}, {math.MaxInt, false}, {math.MinInt, false}, {math.MinInt + 1, false},
	} {
		checkMay(t, api.Msg{Kind: api.MsgQuality, Serial: 9, Lead: x.lead}, x.may)
	}
	for lead := -1100; lead <= 1100; lead++ {
		checkMay(t, api.Msg{Kind: api.MsgQuality, Lead: lead}, lead >= -1000 && lead <= 1000)
	}
}

// P7.1: Unpack of no bytes, and of bytes that end ahead of a datagram's end at every length: fewer than 4 are short, more have no right sum.
func TestUnpackCut(t *testing.T) {
	checkNone(t, "", api.ErrShort)
	for _, s := range []string{"\x00", "P", "P\x07", "P\x07\x00", "\x00\x00\x01", "\xff\xff\xff"} {
		checkNone(t, s, api.ErrShort)
	}
	for _, m := range ofEach() {
		s := mustPack(t, m)
		for size := range len(s) {
			want := api.ErrSum
			if size < 4 {
				want = api.ErrShort
			}
			checkNone(t, s[:size], want)
		}
	}
}

// P7.1: sealed bytes that end ahead of the fields' end have no form, at every length.
func TestUnpackSealedCut(t *testing.T) {
	for _, m := range append(edges(), ofEach()...) {
		s := bodyByWords(m)
		for size := range len(s) {
			checkNone(t, seal(s[:size]), api.ErrForm)
		}
	}
}

// P7.1: sealed bytes with one more than the fields have are of no datagram, nor are those with many more.
func TestUnpackSealedMore(t *testing.T) {
	for _, m := range ofEach() {
		s := bodyByWords(m)
		for b := range 256 {
			checkNone(t, seal(s+string([]byte{byte(b)})), api.ErrForm)
		}
		checkNone(t, seal(s+s), api.ErrForm)
		checkNone(t, seal(seal(s)), api.ErrForm)
		checkNone(t, seal(s+strings.Repeat("\x00", 10000)), api.ErrForm)
	}
	for _, m := range edges() {
		checkNone(t, seal(bodyByWords(m)+"\x00"), api.ErrForm)
	}
}

// P7.1: sealed bytes whose first byte isn't 80 are of no datagram.
func TestUnpackFirstByte(t *testing.T) {
	for _, m := range ofEach() {
		s := bodyByWords(m)
		for b := range 256 {
			if b != 80 {
				checkNone(t, seal(string([]byte{byte(b)})+s[1:]), api.ErrForm)
			}
		}
		checkNone(t, seal(s[1:]), api.ErrForm)
		checkNone(t, seal("P"+s), api.ErrForm)
	}
}

// P7.1: sealed bytes with a Kind of none are of no datagram, whatever stands behind it.
func TestUnpackKind(t *testing.T) {
	for _, m := range ofEach() {
		s := bodyByWords(m)
		for b := range 256 {
			if b < 1 || b > 7 {
				checkNone(t, seal("P"+string([]byte{byte(b)})+s[2:]), api.ErrForm)
			}
		}
	}
}

// P7.1: a Kind with the fields of another one, that names others, is of no datagram.
func TestUnpackFieldsOfAnother(t *testing.T) {
	for _, m := range ofEach() {
		if m.Kind == api.MsgQuality {
			m.Lead = -3 // of one byte, since with two its fields have as many bytes as a Nonce
		}
		for kind := byte(1); kind <= 7; kind++ {
			s := []byte(bodyByWords(m))
			s[1] = kind
			if names(int(kind)) == names(m.Kind) {
				m.Kind = int(kind)
				checkUnpack(t, seal(string(s)), m)
			} else {
				checkNone(t, seal(string(s)), api.ErrForm)
			}
		}
	}
}

// P7.1: a run that isn't told as it should be, or that has no inputs, has no form, whatever pack calls it.
func TestUnpackRun(t *testing.T) {
	ahead := "P\x03\x00\x01\x00\x02"
	for _, run := range []string{
		"", "\x00", "\x00\x00\x01", "\x41\x00\x41", "\x42", "\x7f\x05\x7f", "\x80", "\x81\x00", "\x81\x00\x05\x01", "\x80\x80\x00", "\xff\xff\xff\xff\xff\xff\xff\xff\xff\x02",
		"\x01", "\x01\x05", "\x01\x05\x00", "\x01\x05\x02", "\x01\x05\x81\x00", "\x01\x40\x01", "\x01\xff\x01", "\x02\x05\x01", "\x02\x05\x01\x05\x01", "\x02\x05\x01\x06\x02", "\x02\x05\x01\x06\x00",
		"\x02\x05\x03", "\x01\x05\x01\x06\x01", "\x01\x05\x01\x00", "\xc1\x00\x00\x41", "\x80\x01\x00\x80\x01", "\x40\x00\x41", "\x01\x05\xff\xff\xff\xff\xff\xff\xff\xff\xff\x01",
	} {
		checkNone(t, seal(ahead+run), api.ErrForm)
	}
	checkUnpack(t, seal(ahead+"\x01\x05\x01"), api.Msg{Kind: api.MsgInputs, Serial: 1, Ack: 2, Inputs: []uint8{5}})
}

// P7.1: a Lead that isn't told as it should be, or that is outside its limits, has no form.
func TestUnpackLead(t *testing.T) {
	ahead := "P\x06\x00\x01"
	for _, lead := range []string{
		"", "\x80", "\x80\x00", "\x82\x00", "\x82\x80\x00", "\xff\xff", strings.Repeat("\x80", 9) + "\x00", strings.Repeat("\xff", 9) + "\x02", strings.Repeat("\x80", 10), strings.Repeat("\x80", 11), "\x00\x00", "\x02\x00",
	} {
		checkNone(t, seal(ahead+lead), api.ErrForm)
	}
	for _, n := range []int64{
		-1001, 1001, -1002, 1002, 1 << 15, 1 << 16, 1<<16 + 1, 1 << 31, -1 << 31, 1 << 32, 1<<32 + 5, -1 << 32, -1<<32 - 5, 1 << 62, math.MaxInt64, math.MinInt64, math.MinInt64 + 1,
	} {
		checkNone(t, seal(ahead+string(binary.AppendVarint(nil, n))), api.ErrForm)
	}
	for n := -1000; n <= 1000; n++ {
		checkUnpack(t, seal(ahead+string(binary.AppendVarint(nil, int64(n)))), api.Msg{Kind: api.MsgQuality, Serial: 1, Lead: n})
	}
}

// P7.1: that bytes don't open is told ahead of their form.
func TestUnpackFirstError(t *testing.T) {
	for _, x := range []struct {
		s    string
		want api.Errno
	}{
		{"Q\x07\x00", api.ErrShort}, {"P\x08\x00", api.ErrShort}, {"\x00\x00\x01", api.ErrShort},
		{"abcd", api.ErrSum}, {"P\x07\x00\x00", api.ErrSum}, {"Q\x07\x00\xa9\x00\x58", api.ErrSum}, {"P\x08\x00\xa9\x00\x58", api.ErrSum}, {"P\x07\x00\xa9\x00\x59", api.ErrSum},
		{"P\x07\x00\x00\xa9\x00\x58", api.ErrSum}, {"P\x07", api.ErrShort}, {bodyByWords(ofEach()[2]), api.ErrSum}, {strings.Repeat("\xff", 1000), api.ErrSum},
		{"\x00\x00\x00\x01", api.ErrForm}, {seal("P"), api.ErrForm}, {seal("Q"), api.ErrForm}, {seal("\x07"), api.ErrForm}, {seal("Q\x08"), api.ErrForm}, {seal("Q\x07\x00"), api.ErrForm}, {seal("P\x05\x00"), api.ErrForm},
		// The sum's halves are held as they stand, not modulo 65521.
		{"\x00\x00\xff\xf2", api.ErrSum},
	} {
		checkNone(t, x.s, x.want)
	}
}

// P7.1: Same of datagrams that are alike, those among them that may not be too.
func TestSameAlike(t *testing.T) {
	for _, m := range append(lots(), api.Msg{}, api.Msg{Kind: -1}, api.Msg{Kind: 8, Lead: 5000}, api.Msg{Kind: 3, Inputs: []uint8{64, 255}}, api.Msg{Kind: 7, Nonce: 1, Inputs: make([]uint8, 100)}) {
		other := m
		other.Inputs = slices.Clone(m.Inputs)
		if !Same(m, other) || !Same(other, m) || !Same(m, m) {
			t.Fatalf("Same(%v) with its like = false", m)
		}
	}
}

// P7.1: Same of datagrams that differ in one field alone, whether the Kind names it or not.
func TestSameFields(t *testing.T) {
	full := api.Msg{Kind: 3, Nonce: 7, Serial: 7, Ack: 7, Inputs: []uint8{7}, Sum: 7, Lead: 7}
	for _, m := range append(ofEach(), full, api.Msg{}) {
		for _, c := range changes() {
			changed := m
			c.set(&changed)
			if alike(changed, m) {
				continue
			}
			if Same(m, changed) || Same(changed, m) {
				t.Errorf("Same(%v, %v) = true", m, changed)
			}
		}
		for kind := -1; kind <= 8; kind++ {
			changed := m
			changed.Kind = kind
			if got := Same(m, changed); got != (kind == m.Kind) || got != Same(changed, m) {
				t.Errorf("Same(%v, %v) = %t", m, changed, got)
			}
		}
	}
}

// P7.1: fields that are exchanged, or differ only above some of their bits, aren't the same.
func TestSameHighBits(t *testing.T) {
	for _, x := range [][2]api.Msg{
		{{Serial: 1}, {Ack: 1}}, {{Nonce: 1}, {Sum: 1}}, {{Serial: 1, Ack: 2}, {Serial: 2, Ack: 1}}, {{Nonce: 1, Sum: 2}, {Nonce: 2, Sum: 1}},
		{{Kind: 1}, {Kind: 257}}, {{Kind: 1}, {Kind: 1<<32 + 1}}, {{Lead: 1}, {Lead: -1}}, {{Lead: 5}, {Lead: 1<<32 + 5}}, {{Nonce: 1}, {Nonce: 1<<31 + 1}},
		{{Sum: 1}, {Sum: 1<<16 + 1}}, {{Serial: 1}, {Serial: 257}}, {{Ack: 1}, {Ack: 257}},
	} {
		if Same(x[0], x[1]) || Same(x[1], x[0]) {
			t.Errorf("Same(%v, %v) = true", x[0], x[1])
		}
	}
}

// P7.1: Same of Inputs that are nil and that are empty, of other lengths, of other spare room, and of one other input at every place.
func TestSameInputs(t *testing.T) {
	for _, m := range ofEach() {
		none, empty := m, m
		none.Inputs, empty.Inputs = nil, []uint8{}
		if !Same(none, empty) || !Same(empty, none) {
			t.Errorf("of Kind %d: nil Inputs and empty ones aren't the same", m.Kind)
		}
		for n := range 66 {
			a, b := m, m
			a.Inputs, b.Inputs = rising(n), rising(66)[:n]
			if !Same(a, b) || !Same(b, a) {
				t.Errorf("of Kind %d: %d like inputs aren't the same", m.Kind, n)
			}
			b.Inputs = rising(66)[:n+1]
			if Same(a, b) || Same(b, a) {
				t.Errorf("of Kind %d: %d inputs, and one more, are the same", m.Kind, n)
			}
			for at := range n {
				b.Inputs = rising(n)
				b.Inputs[at] ^= 128
				if Same(a, b) || Same(b, a) {
					t.Errorf("of Kind %d: %d inputs, of which the one at %d is another, are the same", m.Kind, n, at)
				}
			}
		}
	}
}

// P7.2: what is packed is unpacked as it was.
func TestPackedIsUnpacked(t *testing.T) {
	for _, m := range lots() {
		s := mustPack(t, m)
		checkUnpack(t, s, m)
		if got, _ := Unpack(s); !Same(got, m) || !Right(got) {
			t.Fatalf("Unpack of %v = %v", m, got)
		}
	}
}

// spelled is all strings of up to so many bytes, of these letters alone.
func spelled(letters string, most int) []string {
	all, last := []string{""}, []string{""}
	for range most {
		var next []string
		for _, s := range last {
			for i := range len(letters) {
				next = append(next, s+letters[i:i+1])
			}
		}
		all, last = append(all, next...), next
	}
	return all
}

// P7.2: of all short bytes, sealed, those that are unpacked are packed to these bytes; all others have no form.
func TestUnpackedIsPacked(t *testing.T) {
	many := map[int]int{}
	for kind := range 10 {
		ahead := "P" + string([]byte{byte(kind)})
		for _, more := range append(spelled(letters, 5), behindWords()...) {
			s := seal(ahead + more)
			m, e := Unpack(s)
			if e != api.OK {
				checkNone(t, s, api.ErrForm)
				continue
			}
			many[m.Kind]++
			if seal(bodyByWords(m)) != s || mustPack(t, m) != s || !Right(m) {
				t.Fatalf("Unpack(%x) = %v, which is packed to %x", s, m, mustPack(t, m))
			}
		}
	}
	want := map[int]int{1: 8 * 8 * 8 * 8, 2: 8 * 8 * 8 * 8, 3: 16 * runsOfLetters, 4: 16 * 5 * 5, 5: 8 * 8, 6: 8 * 8 * leadsOfLetters(), 7: 1}
	for kind := range 10 {
		if many[kind] != want[kind] {
			t.Errorf("of Kind %d %d were unpacked, want %d", kind, many[kind], want[kind])
		}
	}
}

// letters are bytes of which some numbers, and runs, are told.
const letters = "\x00\x01\x02\x40\x80\xcf\x0f\xff"

// runsOfLetters: of an input of 0, 1 or 2 a count and a stretch of 1, of 2 or of 64; or two unlike ones of these.
const runsOfLetters = 3*3 + 3*2

// behindWords are the 16 pairs of words of four bytes of 0 or 1, and behind each 2 to 5 of the first five letters.
func behindWords() []string {
	var all []string
	for pair := range 16 {
		words := []byte{byte(pair >> 3 & 1), byte(pair >> 2 & 1), byte(pair >> 1 & 1), byte(pair & 1)}
		for _, s := range spelled(letters[:5], 5) {
			if len(s) >= 2 {
				all = append(all, string(words)+s)
			}
		}
	}
	return all
}

// leadsOfLetters: how many Leads are told by letters alone.
func leadsOfLetters() int {
	n := 0
	for lead := int64(-1000); lead <= 1000; lead++ {
		other := func(b byte) bool { return strings.IndexByte(letters, b) < 0 }
		if !slices.ContainsFunc(binary.AppendVarint(nil, lead), other) {
			n++
		}
	}
	return n
}

// P7.2: strewn bytes, sealed, are of none, or are unpacked as what is packed to them.
func TestUnpackStrewn(t *testing.T) {
	s := strewn(2)
	for range 50000 {
		b := make([]byte, 2+s.below(12))
		for i := range b {
			b[i] = byte(s.next()>>40) >> s.below(8)
		}
		b[0], b[1] = 80, byte(s.below(9))
		sealed := seal(string(b))
		if m, e := Unpack(sealed); e == api.OK && (!Right(m) || seal(bodyByWords(m)) != sealed) {
			t.Fatalf("Unpack(%x) = %v", sealed, m)
		} else if e != api.OK {
			checkNone(t, sealed, api.ErrForm)
		}
	}
}

// P7.2: a datagram of which any one byte is turned is refused, at every place, whatever it is turned to.
func TestTurnedIsRefused(t *testing.T) {
	all := append(ofEach(),
		api.Msg{Kind: api.MsgHello}, api.Msg{Kind: api.MsgWelcome, Nonce: math.MaxUint32}, api.Msg{Kind: api.MsgReport, Serial: 65535, Sum: math.MaxUint32},
		api.Msg{Kind: api.MsgInputs, Inputs: []uint8{0}}, api.Msg{Kind: api.MsgInputs, Serial: 65535, Ack: 65535, Inputs: rising(64)}, api.Msg{Kind: api.MsgInputs, Inputs: make([]uint8, 64)},
		api.Msg{Kind: api.MsgQuality, Lead: 1000}, api.Msg{Kind: api.MsgQuality, Lead: -1000})
	for _, m := range all {
		s := []byte(mustPack(t, m))
		for at, was := range s {
			for by := 1; by < 256; by++ {
				s[at] = was ^ byte(by)
				checkNone(t, string(s), api.ErrSum)
			}
			s[at] = was
		}
	}
}

// P7.2: none has more than 139 bytes, one of 64 unlike neighbours has just these, and each fits on a cable.
func TestNoneIsLonger(t *testing.T) {
	for _, m := range lots() {
		if got := len(mustPack(t, m)); got > 139 || got > api.MaxBytes {
			t.Errorf("%v has %d bytes", m, got)
		}
	}
	for _, l := range [][]uint8{rising(64), bytes.Repeat([]uint8{63, 0}, 32)} {
		if got := len(mustPack(t, api.Msg{Kind: api.MsgInputs, Serial: 65535, Ack: 65535, Inputs: l})); got != 139 {
			t.Errorf("the longest one has %d bytes", got)
		}
	}
}

// P7.1: Inputs that are handed in aren't changed, their spare room neither, whether the datagram may be or not.
func TestInputsStay(t *testing.T) {
	for _, x := range []struct {
		kind  int
		wrong uint8
	}{{api.MsgInputs, 1}, {api.MsgInputs, 64}, {api.MsgBye, 1}, {0, 1}} {
		all := append(bytes.Repeat([]uint8{5}, 30), rising(64)...)
		all[10] = x.wrong
		was := slices.Clone(all)
		m := api.Msg{Kind: x.kind, Inputs: all[:40]}
		Right(m)
		Pack(m)
		Same(m, m)
		Same(m, api.Msg{Kind: x.kind, Inputs: all[:39]})
		if !slices.Equal(all, was) {
			t.Errorf("of Kind %d the inputs were %v, and are %v", x.kind, was, all)
		}
	}
}

// P7.1: a datagram's bytes stay when its Inputs are changed; what is unpacked is new memory, each time.
func TestAnswersAreNewMemory(t *testing.T) {
	l := []uint8{5, 5, 6}
	s := mustPack(t, api.Msg{Kind: api.MsgInputs, Inputs: l})
	was := strings.Clone(s)
	for i := range l {
		l[i] = 9
	}
	if s != was {
		t.Errorf("the bytes became %x", s)
	}
	// Read from memory that can be changed, so that a shared piece of it would be seen.
	held := []byte(s)
	first, _ := Unpack(unsafe.String(&held[0], len(held)))
	second, _ := Unpack(unsafe.String(&held[0], len(held)))
	for i := range first.Inputs[:cap(first.Inputs)] {
		first.Inputs[:cap(first.Inputs)][i] = 60
	}
	if string(held) != was || !slices.Equal(second.Inputs, []uint8{5, 5, 6}) {
		t.Errorf("changing one answer made %x, %v of the others", held, second)
	}
	for i := range held {
		held[i] = 1
	}
	if !slices.Equal(second.Inputs, []uint8{5, 5, 6}) {
		t.Errorf("changing the bytes made %v of the answer", second)
	}
}
