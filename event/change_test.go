package event

import (
	"slices"
	"testing"

	"promptbook/api"
)

// keys are those of l, as they stand.
func keys(l []api.Event) []api.Key {
	var all []api.Key
	for _, e := range l {
		all = append(all, e.Key)
	}
	return all
}

// byKey is l as a map.
func byKey(l []api.Event) map[api.Key]api.Event {
	m := map[api.Key]api.Event{}
	for _, e := range l {
		m[e.Key] = e
	}
	return m
}

// pick is those of l at these places.
func pick(l []api.Event, places ...int) []api.Event {
	var some []api.Event
	for _, i := range places {
		some = append(some, l[i])
	}
	return some
}

// turned is l, with each one's other fields changed.
func turned(l []api.Event) []api.Event {
	m := slices.Clone(l)
	for i := range m {
		m[i] = under(m[i].Key, m[i].Len+1)
	}
	return m
}

func sameChange(a, b Change) bool {
	return slices.Equal(a.Gone, b.Gone) && slices.Equal(a.Fresh, b.Fresh) && slices.Equal(a.Turned, b.Turned)
}

func none(c Change) bool {
	return len(c.Gone) == 0 && len(c.Fresh) == 0 && len(c.Turned) == 0
}

// changeByWords: the chapter's words of Diff once more, by maps.
func changeByWords(was, now []api.Event) Change {
	var c Change
	before, after := byKey(was), byKey(now)
	for _, e := range was {
		if _, there := after[e.Key]; !there {
			c.Gone = append(c.Gone, e.Key)
		}
	}
	for _, e := range now {
		old, there := before[e.Key]
		switch {
		case !there:
			c.Fresh = append(c.Fresh, e)
		case old != e:
			c.Turned = append(c.Turned, e)
		}
	}
	return c
}

// P11.2: Diff of a list with itself, with none, from none, and of lists of which something is gone, fresh and turned.
func TestDiff(t *testing.T) {
	l := row(64)
	for _, x := range []struct {
		name     string
		was, now []api.Event
		want     Change
	}{
		{"none with none", nil, nil, Change{}}, {"none with an empty one", nil, []api.Event{}, Change{}}, {"one with itself", l[:1], l[:1], Change{}}, {"all with themselves", l, slices.Clone(l), Change{}},
		{"one with none", l[:1], nil, Change{Gone: keys(l[:1])}}, {"all with none", l, nil, Change{Gone: keys(l)}}, {"one from none", nil, l[:1], Change{Fresh: l[:1]}}, {"all from none", nil, l, Change{Fresh: l}},
		{"the first gone", l[:9], l[1:9], Change{Gone: keys(l[:1])}}, {"the last gone", l[:9], l[:8], Change{Gone: keys(l[8:9])}}, {"some gone", l[:9], pick(l, 0, 2, 5, 6, 8), Change{Gone: keys(pick(l, 1, 3, 4, 7))}},
		{"the first fresh", l[1:9], l[:9], Change{Fresh: l[:1]}}, {"the last fresh", l[:8], l[:9], Change{Fresh: l[8:9]}}, {"some fresh", pick(l, 0, 2, 5, 6, 8), l[:9], Change{Fresh: pick(l, 1, 3, 4, 7)}},
		{"the first turned", l[:9], append(turned(l[:1]), l[1:9]...), Change{Turned: turned(l[:1])}}, {"the last turned", l[:9], append(slices.Clone(l[:8]), turned(l[8:9])...), Change{Turned: turned(l[8:9])}}, {"all turned", l, turned(l), Change{Turned: turned(l)}},
		{"all gone, others fresh", l[:32], l[32:], Change{Gone: keys(l[:32]), Fresh: l[32:]}}, {"the other way round", l[32:], l[:32], Change{Gone: keys(l[32:]), Fresh: l[:32]}},
		{"of each something", l[:6], append(append(turned(l[1:2]), l[2]), append(turned(l[4:6]), l[6], l[7])...), Change{Gone: keys(pick(l, 0, 3)), Fresh: l[6:8], Turned: turned(pick(l, 1, 4, 5))}},
	} {
		if got, e := Diff(x.was, x.now); e != api.OK || !sameChange(got, x.want) {
			t.Errorf("Diff, %s = %v, %d, want %v", x.name, got, e, x.want)
		}
	}
}

// P11.2: Diff of an event that is turned in each field alone, by one, at its ends; in a field of its key it is another event.
func TestDiffInEachField(t *testing.T) {
	for _, f := range fields() {
		for _, x := range [][2]int{{f.low, f.low + 1}, {f.high, f.high - 1}, {f.low, f.high}} {
			a, b := f.with(middling(), x[0]), f.with(middling(), x[1])
			want := Change{Turned: []api.Event{b}}
			if f.ofKey {
				want = Change{Gone: []api.Key{a.Key}, Fresh: []api.Event{b}}
			}
			if got, e := Diff([]api.Event{a}, []api.Event{b}); e != api.OK || !sameChange(got, want) {
				t.Errorf("Diff with %s from %d to %d = %v, %d, want %v", f.name, x[0], x[1], got, e, want)
			}
		}
	}
}

// P11.2: Diff of lists that aren't in order: the one, the other, and both.
func TestDiffOfWrong(t *testing.T) {
	for name, l := range unordered() {
		for _, x := range [][2][]api.Event{{l, nil}, {nil, l}, {l, l}, {l, row(7)}, {row(7), l}, {l, row(64)}, {row(64), l}} {
			if got, e := Diff(x[0], x[1]); e != api.ErrArg || !none(got) {
				t.Errorf("Diff of %d and %d, with %s = %v, %d", len(x[0]), len(x[1]), name, got, e)
			}
		}
	}
}

// P11.2 and P11.4: Diff of many lists, by the chapter's words; applied, it makes the one list of the other.
func TestDiffByWordsAndBack(t *testing.T) {
	r := strewn(3)
	for i := range 3000 {
		was, now := r.anyList(i%80), r.anyList(i/7%80)
		c, e := Diff(was, now)
		if want := changeByWords(was, now); e != api.OK || !sameChange(c, want) {
			t.Fatalf("Diff(%v, %v) = %v, %d, want %v", was, now, c, e, want)
		}
		if got, e := Apply(was, c); e != api.OK || !slices.Equal(got, now) {
			t.Fatalf("Apply(%v, %v) = %v, %d, want %v", was, c, got, e, now)
		}
	}
}

// P11.4: applied, the difference makes the one list of the other: from and to lists at the ends of what may be.
func TestApplyOfDiff(t *testing.T) {
	all := [][]api.Event{nil, {}, row(1), row(64), row(63), row(128)[64:], row(100)[36:], turned(row(64)), turned(row(31)), pick(row(64), 3, 9, 40), {under(key(0, 0, 1, 0), 1), under(key(api.MaxFrame, 2, 9, 15), 2)}}
	for _, was := range all {
		for _, now := range all {
			c, e := Diff(was, now)
			if e != api.OK {
				t.Fatal(was, now, e)
			}
			if got, e := Apply(was, c); e != api.OK || !slices.Equal(got, now) {
				t.Errorf("Apply(%v, %v) = %v, %d, want %v", was, c, got, e, now)
			}
		}
	}
}

// P11.2: Apply of no change, of each kind alone, of all together, and of what is both Gone and Turned.
func TestApply(t *testing.T) {
	l := row(64)
	some := pick(l, 1, 3, 5, 7)
	for _, x := range []struct {
		name string
		was  []api.Event
		c    Change
		want []api.Event
	}{
		{"nothing to nothing", nil, Change{}, nil}, {"nothing", some, Change{}, some}, {"nothing, but not nil", some, Change{Gone: []api.Key{}, Fresh: []api.Event{}, Turned: []api.Event{}}, some}, {"nothing to all", l, Change{}, l},
		{"the first Gone", some, Change{Gone: keys(some[:1])}, some[1:]}, {"the last Gone", some, Change{Gone: keys(some[3:])}, some[:3]}, {"all Gone", l, Change{Gone: keys(l)}, nil},
		{"Fresh to none", nil, Change{Fresh: l}, l}, {"Fresh ahead", some, Change{Fresh: l[:1]}, pick(l, 0, 1, 3, 5, 7)}, {"Fresh between and behind", some, Change{Fresh: pick(l, 2, 6, 9)}, pick(l, 1, 2, 3, 5, 6, 7, 9)},
		{"the first Turned", some, Change{Turned: turned(some[:1])}, append(turned(some[:1]), some[1:]...)}, {"all Turned", some, Change{Turned: turned(some)}, turned(some)}, {"Turned to what it is", some, Change{Turned: some[1:2]}, some},
		{"all together", some, Change{Gone: keys(pick(l, 1, 7)), Fresh: pick(l, 0, 4), Turned: turned(pick(l, 5))}, append(pick(l, 0, 3, 4), turned(pick(l, 5))...)},
		{"Gone and Turned", some, Change{Gone: keys(some[1:2]), Turned: turned(some[1:2])}, pick(l, 1, 5, 7)}, {"all Gone and Turned", l, Change{Gone: keys(l), Turned: turned(l)}, nil}, {"some Gone and Turned, others not", some, Change{Gone: keys(some[:2]), Turned: turned(some[1:3])}, append(turned(some[2:3]), some[3])},
		{"just as many as may be", l[:63], Change{Fresh: l[63:]}, l}, {"as many, for one goes", l, Change{Gone: keys(l[:1]), Fresh: row(65)[64:]}, row(65)[1:]}, {"as many, for all go", l, Change{Gone: keys(l), Fresh: row(128)[64:]}, row(128)[64:]}, {"as many, all Turned", l, Change{Turned: turned(l)}, turned(l)},
	} {
		if got, e := Apply(x.was, x.c); e != api.OK || !slices.Equal(got, x.want) {
			t.Errorf("Apply, %s = %v, %d, want %v", x.name, got, e, x.want)
		}
	}
}

// P11.2: Apply of each error alone.
func TestApplyOfWrong(t *testing.T) {
	l := row(64)
	some := pick(l, 1, 3, 5, 7)
	for _, x := range []struct {
		name string
		was  []api.Event
		c    Change
		want api.Errno
	}{
		{"Gone out of order", some, Change{Gone: keys(pick(l, 3, 1))}, api.ErrArg}, {"Gone twice", some, Change{Gone: keys(pick(l, 3, 3))}, api.ErrArg}, {"Gone out of order at its end", some, Change{Gone: keys(pick(l, 1, 7, 5))}, api.ErrArg},
		{"a key in Gone that may not be", some, Change{Gone: []api.Key{{}}}, api.ErrArg}, {"more than MaxEvents in Gone, out of order", l, Change{Gone: keys(append(row(66), l[0]))}, api.ErrArg},
		{"something Gone isn't in was", some, Change{Gone: keys(pick(l, 2))}, api.ErrNone}, {"the last Gone isn't", some, Change{Gone: keys(pick(l, 1, 3, 8))}, api.ErrNone}, {"the first Gone isn't", some, Change{Gone: keys(pick(l, 0, 3))}, api.ErrNone}, {"Gone of none", nil, Change{Gone: keys(l[:1])}, api.ErrNone},
		{"one more than MaxEvents in Gone", l, Change{Gone: keys(row(65))}, api.ErrNone}, {"many more in Gone", l, Change{Gone: keys(row(256))}, api.ErrNone},
		{"something Turned isn't in was", some, Change{Turned: turned(pick(l, 2))}, api.ErrNone}, {"the last Turned isn't", some, Change{Turned: turned(pick(l, 1, 8))}, api.ErrNone}, {"Turned of none", nil, Change{Turned: l[:1]}, api.ErrNone}, {"Turned what is Fresh", some, Change{Fresh: l[:1], Turned: turned(l[:1])}, api.ErrNone},
		{"Gone what is Fresh", some, Change{Gone: keys(l[:1]), Fresh: l[:1]}, api.ErrNone},
		{"something Fresh is in was", some, Change{Fresh: pick(l, 3)}, api.ErrThere}, {"Fresh is, but with something else", some, Change{Fresh: turned(pick(l, 3))}, api.ErrThere}, {"the last Fresh is", some, Change{Fresh: pick(l, 0, 2, 7)}, api.ErrThere}, {"Fresh is there, and Gone", some, Change{Gone: keys(pick(l, 3)), Fresh: pick(l, 3)}, api.ErrThere}, {"Fresh is there, and Turned", some, Change{Fresh: pick(l, 3), Turned: turned(pick(l, 3))}, api.ErrThere},
		{"one too long", l, Change{Fresh: row(65)[64:]}, api.ErrLong}, {"one too long, though one goes", l, Change{Gone: keys(l[5:6]), Fresh: row(66)[64:]}, api.ErrLong}, {"as long as can be", l, Change{Fresh: row(128)[64:]}, api.ErrLong}, {"too long, though many are Turned", l, Change{Fresh: row(65)[64:], Turned: turned(l)}, api.ErrLong},
	} {
		if got, e := Apply(x.was, x.c); e != x.want || len(got) != 0 {
			t.Errorf("Apply, %s = %v, %d, want %d", x.name, got, e, x.want)
		}
	}
}

// P11.2: Apply to a list that isn't in order, with a Fresh, and with a Turned that isn't: ErrArg, whatever else holds.
func TestApplyOfUnordered(t *testing.T) {
	l := row(64)
	for name, wrong := range unordered() {
		for _, x := range []struct {
			was []api.Event
			c   Change
		}{
			{wrong, Change{}}, {wrong, Change{Gone: keys(l[9:10])}}, {wrong, Change{Turned: l[9:10]}}, {wrong, Change{Fresh: l}}, {wrong, Change{Fresh: wrong, Turned: wrong}},
			{nil, Change{Fresh: wrong}}, {l, Change{Fresh: wrong}}, {l, Change{Gone: keys(row(65)[64:]), Fresh: wrong}}, {nil, Change{Turned: wrong}}, {l, Change{Turned: wrong}}, {l, Change{Fresh: l[:1], Turned: wrong}}, {l, Change{Gone: keys(row(65)), Turned: wrong}},
		} {
			if got, e := Apply(x.was, x.c); e != api.ErrArg || len(got) != 0 {
				t.Errorf("Apply to %d of %d, %d, %d, with %s = %v, %d", len(x.was), len(x.c.Gone), len(x.c.Fresh), len(x.c.Turned), name, got, e)
			}
		}
	}
}

// P11.2: Apply of a Gone with a key that may not be, in each field, beyond each end.
func TestApplyOfWrongKeys(t *testing.T) {
	l := row(64)
	for _, f := range fields() {
		if !f.ofKey {
			continue
		}
		for _, n := range f.beyond() {
			wrong := f.with(middling(), n).Key
			for _, gone := range [][]api.Key{{wrong}, append(keys(l[:3]), wrong), {wrong, l[0].Key}, {l[0].Key, wrong, l[2].Key}} {
				if got, e := Apply(l, Change{Gone: gone}); e != api.ErrArg || len(got) != 0 {
					t.Errorf("Apply with %s of %d in Gone = %v, %d", f.name, n, got, e)
				}
			}
		}
	}
}

// P11.2: Apply of several errors at once: the first that holds.
func TestApplyOfSeveral(t *testing.T) {
	l, more := row(64), row(128)[64:]
	unsorted, strange := turnedRound(more[:2]), more[:1]
	for _, x := range []struct {
		name string
		was  []api.Event
		c    Change
		want api.Errno
	}{
		{"all of them", turnedRound(l), Change{Gone: keys(unsorted), Fresh: l, Turned: strange}, api.ErrArg}, {"all but in was", l, Change{Gone: keys(unsorted), Fresh: l, Turned: strange}, api.ErrArg},
		{"Gone unordered, Fresh there", l, Change{Gone: keys(pick(l, 2, 1)), Fresh: l[:1]}, api.ErrArg}, {"Gone strange, Fresh unordered", l, Change{Gone: keys(strange), Fresh: unsorted}, api.ErrArg}, {"Gone strange, Turned unordered", l, Change{Gone: keys(strange), Turned: unsorted}, api.ErrArg}, {"Fresh there, Turned unordered", l, Change{Fresh: l[:1], Turned: turnedRound(l[:2])}, api.ErrArg}, {"too long, Turned unordered", l, Change{Fresh: more, Turned: turnedRound(l[:2])}, api.ErrArg},
		{"Gone strange, Fresh there", l, Change{Gone: keys(strange), Fresh: l[:1]}, api.ErrNone}, {"Turned strange, Fresh there", l, Change{Fresh: l[:1], Turned: strange}, api.ErrNone}, {"Gone strange, too long", l, Change{Gone: keys(strange), Fresh: more[1:9]}, api.ErrNone}, {"Turned strange, too long", l, Change{Fresh: more[1:9], Turned: strange}, api.ErrNone}, {"many strange, there and too long", l, Change{Gone: keys(row(256)), Fresh: append(slices.Clone(l[1:9]), more[2:9]...), Turned: strange}, api.ErrNone},
		{"Fresh there, too long", l, Change{Fresh: append(slices.Clone(l[:1]), more[:9]...)}, api.ErrThere}, {"all Fresh there, too long", l, Change{Fresh: l}, api.ErrThere}, {"Fresh there, all Gone", l, Change{Gone: keys(l), Fresh: l}, api.ErrThere},
	} {
		if got, e := Apply(x.was, x.c); e != x.want || len(got) != 0 {
			t.Errorf("Apply, %s = %v, %d, want %d", x.name, got, e, x.want)
		}
	}
}

// applyByWords: the chapter's words of Apply once more, by maps, of a list and a change whose parts are in order.
func applyByWords(was []api.Event, c Change) ([]api.Event, api.Errno) {
	before, after := byKey(was), byKey(was)
	for _, e := range c.Turned {
		if _, there := before[e.Key]; !there {
			return nil, api.ErrNone
		}
		after[e.Key] = e
	}
	for _, k := range c.Gone {
		if _, there := before[k]; !there {
			return nil, api.ErrNone
		}
		delete(after, k)
	}
	for _, e := range c.Fresh {
		if _, there := before[e.Key]; there {
			return nil, api.ErrThere
		}
		after[e.Key] = e
	}
	if len(after) > 64 {
		return nil, api.ErrLong
	}
	return byWords(after), api.OK
}

// some are up to n of l in order, or at times any others.
func (s *strewn) some(l []api.Event, n int) []api.Event {
	if s.below(5) == 0 {
		return s.anyList(n)
	}
	return byWords(byKey(s.mix(l)[:min(n, len(l))]))
}

// anyChange has its parts in order; mostly it suits the list.
func (s *strewn) anyChange(was []api.Event) Change {
	c := Change{Gone: keys(s.some(was, s.below(5))), Fresh: s.anyList(s.below(40)), Turned: turned(s.some(was, s.below(5)))}
	if s.below(5) > 0 {
		before := byKey(was)
		c.Fresh = slices.DeleteFunc(c.Fresh, func(e api.Event) bool {
			_, there := before[e.Key]
			return there
		})
	}
	return c
}

// P11.2: Apply of many changes, by the chapter's words; each error of a change in order, and none, is among them.
func TestApplyByWords(t *testing.T) {
	r := strewn(4)
	met := map[api.Errno]int{}
	for i := range 2000 {
		was := r.anyList(i % 200)
		c := r.anyChange(was)
		got, e := Apply(was, c)
		met[e]++
		if want, wantE := applyByWords(was, c); e != wantE || !slices.Equal(got, want) {
			t.Fatalf("Apply(%v, %v) = %v, %d, want %v, %d", was, c, got, e, want, wantE)
		}
	}
	for _, e := range []api.Errno{api.OK, api.ErrNone, api.ErrThere, api.ErrLong} {
		if met[e] < 50 {
			t.Errorf("%d was met %d times", e, met[e])
		}
	}
}

// P11.2: what is handed to Diff isn't changed, nor its spare room, nor shared with what it answers; nor do its parts share anything.
func TestDiffSharesNothing(t *testing.T) {
	l := row(64)
	was, sameWas := withRoom(l[:30])
	now, sameNow := withRoom(append(turned(l[10:20]), l[20:60]...))
	c, e := Diff(was, now)
	if e != api.OK || len(c.Gone) != 10 || len(c.Fresh) != 30 || len(c.Turned) != 10 {
		t.Fatal(c, e)
	}
	again, _ := Diff(was, now)
	clear(c.Gone[:cap(c.Gone)])
	clear(c.Fresh[:cap(c.Fresh)])
	if !slices.Equal(c.Turned, again.Turned) {
		t.Error("Fresh and Turned share memory")
	}
	clear(c.Turned[:cap(c.Turned)])
	if !sameWas() || !sameNow() || !sameChange(again, changeByWords(was, now)) {
		t.Error("what was handed in, or answered before, was changed")
	}
	keep := changeByWords(was, now)
	clear(was)
	clear(now)
	if !sameChange(again, keep) {
		t.Error("what was answered hangs on what was handed in")
	}
}

// P11.2: what is handed to Apply isn't changed, nor its spare room, nor shared with what it answers.
func TestApplySharesNothing(t *testing.T) {
	l := row(64)
	for _, x := range []struct {
		was []api.Event
		c   Change
	}{
		{l[:9], Change{}}, {nil, Change{Fresh: l[:9]}}, {l[:9], Change{Turned: turned(l[:9])}}, {l[:9], Change{Gone: keys(l[:4]), Fresh: l[20:30], Turned: turned(l[3:9])}}, {l, Change{Fresh: row(65)[64:]}}, {l[:9], Change{Gone: keys(l[30:40])}},
	} {
		was, sameWas := withRoom(x.was)
		fresh, sameFresh := withRoom(x.c.Fresh)
		turned, sameTurned := withRoom(x.c.Turned)
		allGone := append(slices.Clone(x.c.Gone), l[63].Key, l[62].Key)
		wasGone := slices.Clone(allGone)
		c := Change{Gone: allGone[:len(x.c.Gone)], Fresh: fresh, Turned: turned}
		got, e := Apply(was, c)
		keep, keepE := Apply(x.was, x.c)
		if e != keepE || !slices.Equal(got, keep) {
			t.Errorf("twice unlike: %v, %d; %v, %d", got, e, keep, keepE)
		}
		clear(got[:cap(got)])
		if !sameWas() || !sameFresh() || !sameTurned() || !slices.Equal(allGone, wasGone) {
			t.Errorf("Apply(%v, %v) changed what it was handed, or answered it", x.was, x.c)
		}
		again, _ := Apply(was, c)
		clear(was)
		clear(fresh)
		clear(turned)
		if !slices.Equal(again, keep) {
			t.Errorf("Apply(%v, %v) answered what it was handed", x.was, x.c)
		}
	}
}
