package event

import (
	"encoding/binary"
	"math"
	"slices"
	"testing"

	"promptbook/api"
)

func open(t *testing.T, frame int) *Page {
	t.Helper()
	p, e := Open(frame)
	if e != api.OK || p == nil {
		t.Fatalf("Open(%d) = %v, %d", frame, p, e)
	}
	return p
}

// add adds one that must be taken, and tells its key.
func add(t *testing.T, p *Page, e api.Event) api.Key {
	t.Helper()
	k, err := p.Add(e)
	if err != api.OK {
		t.Fatalf("Add(%v) = %v, %d", e, k, err)
	}
	return k
}

// refused adds one that must not be taken: with that error, no key, and the page as it was.
func refused(t *testing.T, p *Page, e api.Event, want api.Errno) {
	t.Helper()
	was := p.List()
	if k, err := p.Add(e); err != want || k != (api.Key{}) {
		t.Errorf("Add(%v) = %v, %d, want %d", e, k, err, want)
	}
	if got := p.List(); !slices.Equal(got, was) {
		t.Errorf("refused, %v made %v of %v", e, got, was)
	}
}

// fullPage has as many events as may be, of each of several emitters and kinds less than may be.
func fullPage(t *testing.T, frame int) *Page {
	p := open(t, frame)
	for i := range 64 {
		add(t, p, under(key(0, i%3, 1+i%4, 0), i))
	}
	return p
}

// P11.3: Open of frames, at their ends and between: a page without events, of that frame.
func TestOpen(t *testing.T) {
	for _, frame := range []int{0, 1, 9, 65536, api.MaxFrame - 1, api.MaxFrame, 1 << 30} {
		p := open(t, frame)
		if l := p.List(); len(l) != 0 {
			t.Errorf("a page of %d begins with %v", frame, l)
		}
		if k := add(t, p, middling()); k != key(frame, 1, 4, 0) {
			t.Errorf("on a page of %d: %v", frame, k)
		}
	}
}

// P11.3: Open of what isn't a frame.
func TestOpenOfWrong(t *testing.T) {
	for _, frame := range []int{-1, -2, api.MaxFrame + 1, api.MaxFrame + 2, 1 << 31, 1 << 32, -1 << 30, math.MinInt, math.MaxInt} {
		if p, e := Open(frame); p != nil || e != api.ErrArg {
			t.Errorf("Open(%d) = %v, %d", frame, p, e)
		}
	}
}

// P11.3: the document's example: two shots of player 1 in one frame have Ord 0 and 1.
func TestAddOfTheDocument(t *testing.T) {
	p := open(t, 12)
	for ord := range 2 {
		if k := add(t, p, api.Event{Key: api.Key{Emitter: 1, Kind: api.KindShot}}); k != key(12, 1, api.KindShot, ord) {
			t.Errorf("shot %d: %v", ord, k)
		}
	}
}

// P11.3: of an event that is added the Frame and the Ord play no part, whatever they are; all else stays.
func TestAddWhateverFrameAndOrd(t *testing.T) {
	for _, frame := range []int{0, 700, api.MaxFrame} {
		p := open(t, frame)
		for i, n := range []int{0, 1, -1, 15, 16, frame, api.MaxFrame, api.MaxFrame + 1, math.MinInt, math.MaxInt} {
			e := middling()
			e.Key.Frame, e.Key.Ord, e.Gain = n, -n, i
			want := e
			want.Key.Frame, want.Key.Ord = frame, i
			if k := add(t, p, e); k != want.Key {
				t.Errorf("Add(%v) = %v", e, k)
			}
			if l := p.List(); len(l) != i+1 || l[i] != want {
				t.Errorf("behind Add(%v): %v", e, l)
			}
		}
	}
}

// P11.3: Add of each field but Frame and Ord at its ends, and beyond them.
func TestAddAtTheEdges(t *testing.T) {
	for _, f := range fields() {
		if f.name == "Frame" || f.name == "Ord" {
			continue
		}
		for _, n := range []int{f.low, f.high} {
			p := open(t, 3)
			want := f.with(middling(), n)
			want.Key.Frame, want.Key.Ord = 3, 0
			if k := add(t, p, f.with(middling(), n)); k != want.Key || !slices.Equal(p.List(), []api.Event{want}) {
				t.Errorf("%s of %d: %v, %v", f.name, n, k, p.List())
			}
		}
		p, filled := open(t, 3), fullPage(t, 3)
		add(t, p, middling())
		for _, n := range f.beyond() {
			refused(t, p, f.with(middling(), n), api.ErrArg)
			// What may not be is told ahead of what is full.
			refused(t, filled, f.with(middling(), n), api.ErrArg)
		}
	}
	refused(t, open(t, 3), api.Event{}, api.ErrArg)
}

// P11.3: a page takes MaxEvents, and no more of any Emitter and Kind.
func TestAddToAFullPage(t *testing.T) {
	p := fullPage(t, 20)
	if l := p.List(); len(l) != 64 || !Ordered(l) {
		t.Fatalf("full with %v", l)
	}
	for emitter := range 3 {
		for kind := 1; kind <= 9; kind++ {
			refused(t, p, under(key(20, emitter, kind, 0), 5), api.ErrFull)
		}
	}
	p = open(t, 20)
	for i := range 63 {
		add(t, p, under(key(0, i%3, 1+i%9, 0), i))
	}
	add(t, p, middling())
	refused(t, p, middling(), api.ErrFull)
}

// P11.3: a page takes MaxOrd and one of each Emitter and Kind, and then others still.
func TestAddTillTheLastOrd(t *testing.T) {
	for emitter := range 3 {
		for _, kind := range []int{1, 5, 9} {
			p := open(t, 6)
			for ord := range 16 {
				if k := add(t, p, under(key(0, emitter, kind, 9), ord)); k != key(6, emitter, kind, ord) {
					t.Errorf("the %d-th: %v", ord, k)
				}
			}
			full := under(key(0, emitter, kind, 0), 1)
			refused(t, p, full, api.ErrFull)
			wrong := full
			wrong.Gain = -1
			refused(t, p, wrong, api.ErrArg)
			for _, k := range []api.Key{key(6, (emitter+1)%3, kind, 0), key(6, emitter, kind%9+1, 0)} {
				if got := add(t, p, under(k, 2)); got != k {
					t.Errorf("behind 16 of %d and %d: %v, want %v", emitter, kind, got, k)
				}
			}
			refused(t, p, full, api.ErrFull)
		}
	}
}

// P11.3: full in both ways at once: 4 kinds of 16 each.
func TestAddFullInBothWays(t *testing.T) {
	p := open(t, 0)
	for i := range 64 {
		add(t, p, under(key(0, 2, 1+i/16, 0), i))
	}
	refused(t, p, under(key(0, 2, 1, 0), 1), api.ErrFull)
	refused(t, p, under(key(0, 2, 5, 0), 1), api.ErrFull)
	refused(t, p, under(key(0, 3, 1, 0), 1), api.ErrArg)
}

// P11.3: List of a page to which events were added in any order, by a list and counts said once more.
func TestList(t *testing.T) {
	r := strewn(5)
	met := map[api.Errno]int{}
	for frame := range 40 {
		p := open(t, frame)
		all := map[api.Key]api.Event{}
		many := map[[2]int]int{}
		kinds := 2 + 2*(frame%2)
		for range 100 {
			e := under(key(r.below(9), r.below(3), r.from(1, kinds), r.below(16)), r.below(100))
			e.Len += r.below(20) / 19 * 601
			of := [2]int{e.Key.Emitter, e.Key.Kind}
			want := api.OK
			switch {
			case e.Len > 600:
				want = api.ErrArg
			case len(all) == 64 || many[of] == 16:
				want = api.ErrFull
			}
			met[want]++
			if want != api.OK {
				refused(t, p, e, want)
				continue
			}
			e.Key.Frame, e.Key.Ord = frame, many[of]
			many[of]++
			all[e.Key] = e
			if k := add(t, p, e); k != e.Key {
				t.Fatalf("Add(%v) = %v", e, k)
			}
			if got := p.List(); !slices.Equal(got, byWords(all)) || !Ordered(got) {
				t.Fatalf("List = %v, want %v", got, byWords(all))
			}
		}
	}
	if met[api.OK] < 1000 || met[api.ErrArg] < 50 || met[api.ErrFull] < 200 {
		t.Errorf("met so often: %v", met)
	}
}

// P11.3: pages don't know of each other; what a page listed isn't changed by what is added later, nor does a change of it change the page.
func TestListSharesNothing(t *testing.T) {
	p, other := open(t, 4), open(t, 4)
	var lists, copies [][]api.Event
	for i := range 40 {
		add(t, p, under(key(0, 2-i%3, 9-i%4, 0), i))
		lists = append(lists, p.List())
		copies = append(copies, slices.Clone(lists[i]))
	}
	if len(other.List()) != 0 {
		t.Errorf("another page has %v", other.List())
	}
	for i, l := range lists {
		if !slices.Equal(l, copies[i]) {
			t.Errorf("listed behind %d, and changed: %v, want %v", i+1, l, copies[i])
		}
		clear(l[:cap(l)])
	}
	if got, want := p.List(), copies[len(copies)-1]; !slices.Equal(got, want) {
		t.Errorf("List = %v, want %v", got, want)
	}
}

// P11.3: a nil page has nothing, and takes nothing.
func TestNilPage(t *testing.T) {
	var p *Page
	for _, e := range []api.Event{{}, middling()} {
		if k, err := p.Add(e); k != (api.Key{}) || err != api.ErrNil {
			t.Errorf("Add(%v) = %v, %d", e, k, err)
		}
	}
	if l := p.List(); len(l) != 0 {
		t.Errorf("List = %v", l)
	}
}

// bytesByWords: by the library's bytes of that kind.
func bytesByWords(l []api.Event) string {
	b := binary.AppendUvarint(nil, uint64(len(l)))
	for _, e := range l {
		for _, f := range fields() {
			n := *f.of(&e)
			if f.name == "Pan" {
				b = binary.AppendVarint(b, int64(n))
			} else {
				b = binary.AppendUvarint(b, uint64(n))
			}
		}
	}
	return string(b)
}

// P11.3: Bytes of no events and of some, written out.
func TestBytes(t *testing.T) {
	for _, x := range []struct {
		l    []api.Event
		want string
	}{
		{nil, "\x00"}, {[]api.Event{}, "\x00"},
		{[]api.Event{{Key: key(0, 0, 1, 0)}}, "\x01\x00\x00\x01\x00\x00\x00\x00\x00\x00"},
		{[]api.Event{{Key: key(300, 1, 2, 3), Asset: 4, Gain: 5, Pan: -1, Prio: 6, Len: 7}}, "\x01\xac\x02\x01\x02\x03\x04\x05\x01\x06\x07"},
		{[]api.Event{{Key: key(300, 1, 2, 3), Asset: 4, Gain: 5, Pan: 1, Prio: 6, Len: 7}}, "\x01\xac\x02\x01\x02\x03\x04\x05\x02\x06\x07"},
		{[]api.Event{{Key: key(1<<30, 2, 9, 15), Asset: 31, Gain: 32768, Pan: 32768, Prio: 15, Len: 600}}, "\x01\x80\x80\x80\x80\x04\x02\x09\x0f\x1f\x80\x80\x02\x80\x80\x04\x0f\xd8\x04"},
		{[]api.Event{{Key: key(0, 0, 1, 0), Pan: -32768}, {Key: key(0, 0, 1, 1), Gain: 128}}, "\x02\x00\x00\x01\x00\x00\x00\xff\xff\x03\x00\x00\x00\x00\x01\x01\x00\x80\x01\x00\x00\x00"},
	} {
		if got, e := Bytes(x.l); e != api.OK || got != x.want {
			t.Errorf("Bytes(%v) = %x, %d, want %x", x.l, got, e, x.want)
		}
	}
}

// P11.3: Bytes of many lists, by the library's bytes; of none is what it was handed changed.
func TestBytesByWords(t *testing.T) {
	r := strewn(6)
	all := [][]api.Event{row(1), row(2), row(63), row(64), row(256)[192:]}
	for i := range 300 {
		all = append(all, r.anyList(i/4))
	}
	for range 300 {
		e := middling()
		for _, f := range fields() {
			e = f.with(e, r.from(f.low, f.high))
		}
		all = append(all, []api.Event{e})
	}
	for _, l := range all {
		handed, same := withRoom(l)
		if got, e := Bytes(handed); e != api.OK || got != bytesByWords(l) || !same() {
			t.Fatalf("Bytes(%v) = %x, %d, want %x", l, got, e, bytesByWords(l))
		}
	}
}

// P11.3: Bytes of a list that isn't in order.
func TestBytesOfWrong(t *testing.T) {
	for name, l := range unordered() {
		if got, e := Bytes(l); e != api.ErrArg || got != "" {
			t.Errorf("Bytes with %s = %x, %d", name, got, e)
		}
	}
}

// P11.4: lists of unlike events have unlike bytes, and the same ones the same: of many lists, and of those that differ in one field alone.
func TestUnlikeListsHaveUnlikeBytes(t *testing.T) {
	r := strewn(7)
	all := [][]api.Event{nil, {middling()}, row(64), row(63), row(64)[1:]}
	for _, f := range fields() {
		for n := f.low; n <= min(f.high, f.low+700); n++ {
			all = append(all, []api.Event{f.with(middling(), n)})
		}
		for n := max(f.low, f.high-700); n <= f.high; n++ {
			all = append(all, []api.Event{f.with(middling(), n)})
		}
	}
	for i := range 3000 {
		all = append(all, r.anyList(i%6))
	}
	seen := map[string][]api.Event{}
	for _, l := range all {
		s, e := Bytes(l)
		if e != api.OK {
			t.Fatalf("Bytes(%v) = %d", l, e)
		}
		if other, there := seen[s]; there && !slices.Equal(other, l) {
			t.Fatalf("%x are the bytes of %v and of %v", s, other, l)
		}
		seen[s] = l
		if again, _ := Bytes(slices.Clone(l)); again != s {
			t.Fatalf("Bytes(%v) = %x, then %x", l, s, again)
		}
	}
	if len(seen) < 3000 {
		t.Errorf("only %d lists are unlike", len(seen))
	}
}
