package event

import (
	"math"
	"slices"
	"testing"

	"promptbook/api"
)

// strewn tells numbers from 0 up to below n, by a fixed rule.
type strewn uint32

func (s *strewn) below(n int) int {
	*s = *s*1664525 + 1013904223
	return int(uint64(*s) * uint64(n) >> 32)
}

// from tells numbers from low up to high.
func (s *strewn) from(low, high int) int {
	return low + s.below(high-low+1)
}

// mix: the same events, in any order.
func (s *strewn) mix(l []api.Event) []api.Event {
	m := slices.Clone(l)
	for i := range m {
		j := s.below(i + 1)
		m[i], m[j] = m[j], m[i]
	}
	return m
}

// field is a number of an event, and from where to where it may be.
type field struct {
	name      string
	of        func(e *api.Event) *int
	low, high int
	ofKey     bool
}

// fields are all of an event, those of its key in the order in which they tell which stands ahead.
func fields() []field {
	return []field{
		{"Frame", func(e *api.Event) *int { return &e.Key.Frame }, 0, 1 << 30, true},
		{"Emitter", func(e *api.Event) *int { return &e.Key.Emitter }, 0, 2, true},
		{"Kind", func(e *api.Event) *int { return &e.Key.Kind }, 1, 9, true},
		{"Ord", func(e *api.Event) *int { return &e.Key.Ord }, 0, 15, true},
		{"Asset", func(e *api.Event) *int { return &e.Asset }, 0, 31, false},
		{"Gain", func(e *api.Event) *int { return &e.Gain }, 0, 32768, false},
		{"Pan", func(e *api.Event) *int { return &e.Pan }, -32768, 32768, false},
		{"Prio", func(e *api.Event) *int { return &e.Prio }, 0, 15, false},
		{"Len", func(e *api.Event) *int { return &e.Len }, 0, 600, false},
	}
}

// beyond are numbers that the field may not be: one beyond each end first.
func (f field) beyond() []int {
	return []int{f.low - 1, f.high + 1, f.low - 2, f.high + 2, f.low + 1<<32, f.low - 1<<32, math.MinInt, math.MaxInt}
}

// with is e, with the field as n.
func (f field) with(e api.Event, n int) api.Event {
	*f.of(&e) = n
	return e
}

// middling is an event none of whose fields is at an end.
func middling() api.Event {
	return api.Event{Key: key(700, 1, 4, 3), Asset: 12, Gain: 9000, Pan: -77, Prio: 6, Len: 45}
}

func key(frame, emitter, kind, ord int) api.Key {
	return api.Key{Frame: frame, Emitter: emitter, Kind: kind, Ord: ord}
}

// under is an event under that key, whose other fields hang on n.
func under(k api.Key, n int) api.Event {
	return api.Event{Key: k, Asset: n % 32, Gain: n % 32769, Pan: n%65537 - 32768, Prio: n % 16, Len: n % 601}
}

// anyEvent may be, of one of a few keys, so that lists of them have many in common.
func (s *strewn) anyEvent() api.Event {
	return under(key(s.below(2), s.below(3), s.from(1, 4), s.below(3)), s.below(2)*1000)
}

// anyList is in order, of as many events as come together of so many throws, and as may be.
func (s *strewn) anyList(throws int) []api.Event {
	all := map[api.Key]api.Event{}
	for range throws {
		e := s.anyEvent()
		all[e.Key] = e
	}
	l := byWords(all)
	return l[:min(len(l), 64)]
}

// byWords are the events of a map, in order, which is sought by the chapter's words: the one that stands ahead of all others comes first.
func byWords(all map[api.Key]api.Event) []api.Event {
	var l []api.Event
	for len(l) < len(all) {
		var first *api.Event
		for k, e := range all {
			if (len(l) == 0 || ahead(l[len(l)-1].Key, k)) && (first == nil || ahead(k, first.Key)) {
				first = &e
			}
		}
		l = append(l, *first)
	}
	return l
}

// ahead: by Frame, then Emitter, then Kind, then Ord.
func ahead(a, b api.Key) bool {
	if a.Frame != b.Frame {
		return a.Frame < b.Frame
	}
	if a.Emitter != b.Emitter {
		return a.Emitter < b.Emitter
	}
	if a.Kind != b.Kind {
		return a.Kind < b.Kind
	}
	return a.Ord < b.Ord
}

// row is n events in order, at most 256, in two frames, of each of 2 emitters, 4 kinds and 16 Ords.
func row(n int) []api.Event {
	var l []api.Event
	for i := range n {
		l = append(l, under(key(5+i/128, 1+i/64%2, 2+i/16%4, i%16), 37*i))
	}
	return l
}

// turnedRound is l, from its last one to its first.
func turnedRound(l []api.Event) []api.Event {
	m := slices.Clone(l)
	slices.Reverse(m)
	return m
}

// put is l, with e at place i in place of what stands there.
func put(l []api.Event, i int, e api.Event) []api.Event {
	m := slices.Clone(l)
	m[i] = e
	return m
}

// withRoom is l, and spare room behind it that is filled; check tells whether both are as they were.
func withRoom(l []api.Event) (handed []api.Event, check func() bool) {
	all := append(slices.Clone(l), middling(), middling(), middling())
	was := slices.Clone(all)
	return all[:len(l)], func() bool { return slices.Equal(all, was) }
}

// unordered are lists that aren't in order, for one reason each.
func unordered() map[string][]api.Event {
	l := map[string][]api.Event{
		"one that may not be":    {{}},
		"the other way round":    turnedRound(row(3)),
		"the last two exchanged": {row(4)[0], row(4)[1], row(4)[3], row(4)[2]},
		"one twice":              {row(2)[0], row(2)[0]},
		"a key twice":            {under(key(1, 1, 1, 1), 3), under(key(1, 1, 1, 1), 4)},
		"one too many":           row(65),
		"many too many":          row(200),
	}
	for _, f := range fields() {
		l[f.name+" one too low"] = []api.Event{f.with(middling(), f.low-1)}
		l[f.name+" one too high"] = []api.Event{f.with(middling(), f.high+1)}
		l[f.name+" too low, behind others"] = append(row(5), f.with(middling(), f.low-1))
		l[f.name+" too high, ahead of others"] = append([]api.Event{f.with(under(key(4, 0, 1, 0), 7), f.high+1)}, row(5)...)
	}
	return l
}

// P11.1: Right of each field at its least and its greatest number, of all at once, and in between.
func TestRight(t *testing.T) {
	low, high := middling(), middling()
	for _, f := range fields() {
		for _, n := range []int{f.low, f.low + 1, (f.low + f.high) / 2, f.high - 1, f.high} {
			if e := f.with(middling(), n); !Right(e) {
				t.Errorf("%s of %d: %v is not right", f.name, n, e)
			}
		}
		low, high = f.with(low, f.low), f.with(high, f.high)
	}
	for _, e := range []api.Event{middling(), low, high, {Key: key(0, 0, 1, 0)}, {Key: key(api.MaxFrame, api.MaxEmitter, api.MaxKind, api.MaxOrd), Asset: api.MaxAsset, Gain: api.Unit, Pan: api.Unit, Prio: api.MaxPrio, Len: api.MaxLen}} {
		if !Right(e) {
			t.Errorf("%v is not right", e)
		}
	}
}

// P11.1: Right of each field beyond each of its ends, alone and with all others beyond theirs; of nothing at all.
func TestRightOfWrong(t *testing.T) {
	low, high := middling(), middling()
	for _, f := range fields() {
		for _, n := range f.beyond() {
			if e := f.with(middling(), n); Right(e) {
				t.Errorf("%s of %d: %v is right", f.name, n, e)
			}
		}
		low, high = f.with(low, f.low-1), f.with(high, f.high+1)
	}
	for _, e := range []api.Event{{}, low, high} {
		if Right(e) {
			t.Errorf("%v is right", e)
		}
	}
}

// P11.1: Compare of the same key, and of keys that differ in each field alone, at the ends and far beyond them.
func TestCompareOneField(t *testing.T) {
	for _, f := range fields() {
		if !f.ofKey {
			continue
		}
		numbers := append(f.beyond(), f.low, f.low+1, f.high)
		for _, x := range numbers {
			for _, y := range numbers {
				want := 0
				if x < y {
					want = -1
				} else if x > y {
					want = 1
				}
				a, b := f.with(middling(), x).Key, f.with(middling(), y).Key
				if got := Compare(a, b); got != want {
					t.Errorf("Compare(%v, %v) = %d, want %d", a, b, got, want)
				}
			}
		}
	}
}

// P11.1: Compare of keys that differ in several fields: the first one tells.
func TestCompareSeveralFields(t *testing.T) {
	var keys []api.Key
	for i := range 81 {
		keys = append(keys, key(i/27, i/9%3, i/3%3, i%3))
	}
	for i, a := range keys {
		for j, b := range keys {
			want := 0
			if ahead(a, b) {
				want = -1
			} else if ahead(b, a) {
				want = 1
			}
			// The keys were laid out in order, by which the words are held too.
			if (i < j) != (want == -1) || (i == j) != (want == 0) {
				t.Fatalf("%v and %v by words: %d", a, b, want)
			}
			if got := Compare(a, b); got != want {
				t.Errorf("Compare(%v, %v) = %d, want %d", a, b, got, want)
			}
		}
	}
	for _, x := range []struct{ a, b api.Key }{
		{key(1, 2, 9, 15), key(2, 0, 1, 0)}, {key(2, 1, 9, 15), key(2, 2, 1, 0)}, {key(2, 2, 1, 15), key(2, 2, 9, 0)}, {key(0, 2, 1, 15), key(api.MaxFrame, 0, 9, 0)},
		{key(math.MinInt, math.MaxInt, math.MaxInt, math.MaxInt), key(math.MaxInt, math.MinInt, math.MinInt, math.MinInt)}, {key(0, math.MinInt, math.MaxInt, 0), key(0, math.MaxInt, math.MinInt, 0)},
	} {
		if Compare(x.a, x.b) != -1 || Compare(x.b, x.a) != 1 {
			t.Errorf("Compare of %v and %v = %d, %d", x.a, x.b, Compare(x.a, x.b), Compare(x.b, x.a))
		}
	}
}

// P11.1: Ordered of no events, one, as many as may be; of keys that rise in each field, and in one by falling behind it.
func TestOrdered(t *testing.T) {
	for _, l := range [][]api.Event{
		nil, {}, {middling()}, row(1), row(2), row(63), row(64), row(65)[1:], row(200)[100:164],
		{under(key(0, 0, 1, 0), 5), under(key(api.MaxFrame, 2, 9, 15), 5)},
		{under(key(3, 2, 9, 15), 1), under(key(4, 0, 1, 0), 1)}, {under(key(4, 1, 9, 15), 1), under(key(4, 2, 1, 0), 1)}, {under(key(4, 2, 8, 15), 1), under(key(4, 2, 9, 0), 1)}, {under(key(4, 2, 9, 14), 1), under(key(4, 2, 9, 15), 1)},
		{under(key(1, 1, 1, 15), 1), under(key(1, 1, 3, 7), 2), under(key(1, 2, 1, 0), 3), under(key(9, 0, 1, 0), 4)},
	} {
		if !Ordered(l) {
			t.Errorf("%v isn't in order", l)
		}
	}
	r := strewn(1)
	for n := range 60 {
		if l := r.anyList(n); !Ordered(l) {
			t.Errorf("%v isn't in order", l)
		}
	}
}

// P11.1: Ordered of lists out of order, with a key twice, with one that may not be, and with one more than may be.
func TestOrderedOfWrong(t *testing.T) {
	for name, l := range unordered() {
		if Ordered(l) {
			t.Errorf("in order with %s: %v", name, l)
		}
	}
	l := row(64)
	for i := range l {
		for _, f := range fields() {
			if Ordered(put(l, i, f.with(l[i], f.high+1))) || Ordered(put(l, i, f.with(l[i], f.low-1))) {
				t.Errorf("in order with a wrong %s at %d", f.name, i)
			}
		}
		if i == 0 {
			continue
		}
		if Ordered(put(l, i, l[i-1])) || Ordered(put(l, i, under(l[i-1].Key, 3))) {
			t.Errorf("in order with the key at %d twice", i-1)
		}
		m := put(l, i, l[i-1])
		m[i-1] = l[i]
		if Ordered(m) {
			t.Errorf("in order with those at %d and %d exchanged", i-1, i)
		}
	}
}

// P11.1: Sort of no events, of those in order, the other way round and mixed up.
func TestSort(t *testing.T) {
	r := strewn(2)
	for _, want := range [][]api.Event{nil, {}, {middling()}, row(2), row(3), row(17), row(63), row(64), row(200)[90:154], r.anyList(9), r.anyList(40)} {
		for _, l := range [][]api.Event{want, turnedRound(want), r.mix(want), r.mix(want), r.mix(want)} {
			handed, same := withRoom(l)
			got, e := Sort(handed)
			if e != api.OK || !slices.Equal(got, want) || !Ordered(got) {
				t.Fatalf("Sort(%v) = %v, %d, want %v", l, got, e, want)
			}
			clear(got[:cap(got)])
			if !same() {
				t.Fatalf("Sort(%v) changed what it was handed, or answered it", l)
			}
		}
	}
}

// P11.1: Sort tells by all four fields of the key, the first one first.
func TestSortByEachField(t *testing.T) {
	a, b, c, d, e := under(key(1, 2, 9, 15), 1), under(key(2, 0, 9, 15), 2), under(key(2, 1, 1, 15), 3), under(key(2, 1, 2, 0), 4), under(key(2, 1, 2, 1), 5)
	want := []api.Event{a, b, c, d, e}
	for _, l := range [][]api.Event{{e, d, c, b, a}, {d, e, b, a, c}, {c, a, e, b, d}, {b, c, d, e, a}, want} {
		if got, err := Sort(l); err != api.OK || !slices.Equal(got, want) {
			t.Errorf("Sort(%v) = %v, %d", l, got, err)
		}
	}
}

// P11.1: Sort of one that may not be, of too many, of two of one key, and of several of these at once: the first that holds.
func TestSortOfWrong(t *testing.T) {
	wrong, twin := api.Event{}, under(row(1)[0].Key, 999)
	join := func(l []api.Event, more ...api.Event) []api.Event { return append(slices.Clone(l), more...) }
	for _, x := range []struct {
		name string
		l    []api.Event
		want api.Errno
	}{
		{"one that may not be", []api.Event{wrong}, api.ErrArg}, {"the last may not be", join(row(9), wrong), api.ErrArg}, {"the first may not be", join([]api.Event{wrong}, row(9)...), api.ErrArg}, {"the 64th may not be", join(row(63), wrong), api.ErrArg},
		{"one too many", row(65), api.ErrLong}, {"one too many, turned round", turnedRound(row(65)), api.ErrLong}, {"many", row(256), api.ErrLong},
		{"one twice", join(row(1), row(1)[0]), api.ErrThere}, {"a key twice", join(row(1), twin), api.ErrThere}, {"a key twice, far apart", join(row(63), twin), api.ErrThere}, {"all alike", slices.Repeat(row(1), 64), api.ErrThere}, {"turned round, a key twice", join(turnedRound(row(20)), twin), api.ErrThere},
		{"too many, the last may not be", join(row(64), wrong), api.ErrArg}, {"far too many, the last may not be", join(row(250), wrong), api.ErrArg}, {"wrong and twice", join(row(3), twin, wrong), api.ErrArg}, {"wrong twice", []api.Event{wrong, wrong}, api.ErrArg},
		{"too many and twice", join(row(64), twin), api.ErrLong}, {"too many, all alike", slices.Repeat(row(1), 65), api.ErrLong}, {"twice, then too many", join([]api.Event{twin}, row(64)...), api.ErrLong}, {"all three", join(row(64), twin, wrong), api.ErrArg}, {"all three, wrong first", join([]api.Event{wrong, twin}, row(64)...), api.ErrArg},
	} {
		handed, same := withRoom(x.l)
		if got, e := Sort(handed); e != x.want || len(got) != 0 || !same() {
			t.Errorf("Sort with %s = %v, %d, want %d", x.name, got, e, x.want)
		}
	}
	for _, f := range fields() {
		for _, n := range f.beyond() {
			if got, e := Sort(join(row(2), f.with(middling(), n))); e != api.ErrArg || len(got) != 0 {
				t.Errorf("Sort with a %s of %d = %v, %d", f.name, n, got, e)
			}
		}
	}
}
