package shape

import (
	"testing"

	"promptbook/api"
)

// P10.2: Touch of circles that just touch, that are one too far apart, and with radii of 0, below 0 and at the ends.
func TestTouch(t *testing.T) {
	a, b := vec(3*one, 0), vec(0, 4*one)
	for _, x := range []struct {
		p    api.Vec
		r    api.Fix
		q    api.Vec
		s    api.Fix
		want bool
	}{
		{a, 2 * one, b, 3 * one, true}, {a, 2 * one, b, 3*one - 1, false}, {a, 2*one - 1, b, 3 * one, false}, {a, 5 * one, b, 0, true}, {a, 0, b, 5 * one, true}, {a, 5*one - 1, b, 0, false}, {a, 0, b, 5*one - 1, false},
		{vec(0, 0), 4, vec(10, 0), 6, true}, {vec(0, 0), 4, vec(11, 0), 6, false}, {vec(0, 0), 4, vec(-10, 0), 6, true}, {vec(0, 0), 4, vec(-11, 0), 6, false},
		{vec(0, 0), 4, vec(0, 10), 6, true}, {vec(0, 0), 4, vec(0, 11), 6, false}, {vec(0, 0), 4, vec(0, -10), 6, true}, {vec(0, 0), 4, vec(0, -11), 6, false},
		{vec(0, 0), 4, vec(10, 1), 6, false}, {vec(0, 0), 4, vec(7, 7), 6, true}, {vec(0, 0), 4, vec(7, 8), 6, false}, {vec(0, 0), 100, vec(1, 1), 1, true},
		{a, 0, a, 0, true}, {a, 0, vec(3*one+1, 0), 0, false}, {a, 0, vec(3*one, 1), 0, false}, {a, 1, vec(3*one, 1), 0, true}, {a, 0, vec(3*one, 1), 1, true},
		{a, -1, a, 0, false}, {a, 0, a, -1, false}, {a, -1, a, -1, false}, {a, -1, a, 1, true}, {a, 1, a, -1, true}, {a, -3, vec(3*one, 2), 5, true}, {a, -3, vec(3*one, 3), 5, false}, {a, -6, vec(3*one, 1), 5, false},
		{a, most, b, 0, true}, {a, most, b, most, true}, {a, most, b, least, false}, {a, most, a, least, false}, {a, least, a, least, false}, {a, least, b, 0, false},
		{vec(0, 0), most, vec(most, 0), 0, true}, {vec(0, 0), most, vec(most, 0), 9, true}, {vec(0, 0), most - 1, vec(most, 0), 0, false}, {vec(0, 0), most - 1, vec(most, 0), 1, true},
		{vec(0, 0), most, vec(most, 1), most, false}, {vec(0, 0), most, vec(most, most), most, false}, {vec(least, least), most, vec(most, most), most, false}, {vec(most, most), most, vec(least, least), most, false},
	} {
		if got := Touch(x.p, x.r, x.q, x.s); got != x.want {
			t.Errorf("Touch(%v, %d, %v, %d) = %v", x.p, x.r, x.q, x.s, got)
		}
	}
}

// P10.2: Touch of many circles, by numbers without ends; many that touch and many that don't are among them.
func TestTouchByWords(t *testing.T) {
	next, nextVec := strewn(), strewnVecs()
	touched, apart := 0, 0
	for range 60000 {
		p, r, q, s := nextVec(), next(), nextVec(), next()
		got := Touch(p, r, q, s)
		if got != touchByWords(p, r, q, s) {
			t.Fatalf("Touch(%v, %d, %v, %d) = %v", p, r, q, s, got)
		}
		if got {
			touched++
		} else {
			apart++
		}
	}
	if touched < 3000 || apart < 3000 {
		t.Errorf("%d touch, %d don't", touched, apart)
	}
	for _, p := range places() {
		for _, q := range places() {
			for _, r := range edges() {
				for _, s := range []api.Fix{least, -1, 0, 1, one, most} {
					if got := Touch(p, r, q, s); got != touchByWords(p, r, q, s) {
						t.Fatalf("Touch(%v, %d, %v, %d) = %v", p, r, q, s, got)
					}
				}
			}
		}
	}
}

// farApart tells where the way from the one to the other is held at an end of fixed, whose other way isn't the other end.
func farApart(p, q api.Vec) bool {
	way, back := Sub(q, p), Sub(p, q)
	return way.X == least || way.Y == least || back.X == least || back.Y == least
}

// P10.3: who touches is touched, wherever no way between them is held at the least number.
func TestWhoTouchesIsTouched(t *testing.T) {
	next, nextVec := strewn(), strewnVecs()
	check := func(p api.Vec, r api.Fix, q api.Vec, s api.Fix) {
		if !farApart(p, q) && Touch(p, r, q, s) != Touch(q, s, p, r) {
			t.Fatalf("Touch(%v, %d, %v, %d) = %v, but not the other way round", p, r, q, s, Touch(p, r, q, s))
		}
	}
	for range 60000 {
		check(nextVec(), next(), nextVec(), next())
	}
	for _, p := range places() {
		for _, q := range places() {
			for _, r := range edges() {
				check(p, r, q, 0)
				check(p, r, q, one)
				check(p, r, q, most)
			}
		}
	}
}

// P10.3: so it is where the way is held, too, unless both radii together are the greatest number.
func TestWhoTouchesFarApart(t *testing.T) {
	for _, p := range places() {
		for _, q := range places() {
			for _, r := range edges() {
				for _, s := range edges() {
					if plus(r, s) < most && Touch(p, r, q, s) != Touch(q, s, p, r) {
						t.Fatalf("Touch(%v, %d, %v, %d) = %v, but not the other way round", p, r, q, s, Touch(p, r, q, s))
					}
				}
			}
		}
	}
}

// P10.2: the one corner where P10.2's words and P10.3's say otherwise: a way of 2^31 or more is held at 2^31 less 1 to the one side, and at 2^31 to the other.
func TestTouchWhereAWayIsHeld(t *testing.T) {
	for _, x := range []struct{ low, high api.Vec }{
		{vec(least, 5), vec(0, 5)}, {vec(least, 5), vec(most, 5)}, {vec(5, least), vec(5, 0)}, {vec(5, least), vec(5, most)}, {vec(-one, 0), vec(most, 0)},
	} {
		if !Touch(x.low, most, x.high, 0) || Touch(x.high, 0, x.low, most) {
			t.Errorf("of %v and %v: %v, %v", x.low, x.high, Touch(x.low, most, x.high, 0), Touch(x.high, 0, x.low, most))
		}
	}
}

// P10.2: Push of a place toward others and toward itself, with speeds of 0, below 0 and at the ends.
func TestPush(t *testing.T) {
	for _, x := range []struct {
		p, q  api.Vec
		speed api.Fix
		want  api.Vec
	}{
		{vec(one, 0), vec(5*one, 0), one, vec(one, 0)}, {vec(5*one, 0), vec(one, 0), one, vec(-one, 0)}, {vec(0, one), vec(0, 9*one), 2 * one, vec(0, 2*one)}, {vec(0, 9*one), vec(0, one), 2 * one, vec(0, -2*one)},
		{vec(one, one), vec(4*one, 5*one), 5 * one, vec(3*one, 4*one)}, {vec(4*one, 5*one), vec(one, one), 5 * one, vec(-3*one, -4*one)}, {vec(one, one), vec(4*one, 5*one), 10 * one, vec(6*one, 8*one)},
		{vec(one, one), vec(4*one, 5*one), -5 * one, vec(-3*one, -4*one)}, {vec(one, one), vec(4*one, 5*one), 0, vec(0, 0)}, {vec(one, one), vec(4*one, 5*one), 1, vec(0, 0)}, {vec(4*one, 5*one), vec(one, one), 1, vec(-1, -1)},
		{vec(7, 7), vec(7, 7), one, vec(0, 0)}, {vec(7, 7), vec(7, 7), 0, vec(0, 0)}, {vec(7, 7), vec(7, 7), most, vec(0, 0)}, {vec(7, 7), vec(7, 7), least, vec(0, 0)}, {vec(most, least), vec(most, least), one, vec(0, 0)},
		{vec(0, 0), vec(one, 0), most, vec(most, 0)}, {vec(0, 0), vec(one, 0), least, vec(least, 0)}, {vec(0, 0), vec(-one, 0), least, vec(most, 0)}, {vec(0, 0), vec(0, -one), most, vec(0, -most)},
		{vec(least, 0), vec(most, 0), one, vec(one, 0)}, {vec(most, 0), vec(least, 0), one, vec(-one-1, 0)}, {vec(0, least), vec(0, most), -one, vec(0, -one)},
		{vec(least, least), vec(most, most), one, vec(one, one)}, {vec(most, most), vec(least, least), one, vec(-one-1, -one-1)},
	} {
		if got := Push(x.p, x.q, x.speed); got != x.want {
			t.Errorf("Push(%v, %v, %d) = %v, want %v", x.p, x.q, x.speed, got, x.want)
		}
	}
}

// P10.2: Push of many places, by numbers without ends.
func TestPushByWords(t *testing.T) {
	check := func(p, q api.Vec, speed api.Fix) {
		want := stepByWords(vec(less(q.X, p.X), less(q.Y, p.Y)), speed)
		if got := Push(p, q, speed); got != want {
			t.Fatalf("Push(%v, %v, %d) = %v, want %v", p, q, speed, got, want)
		}
	}
	next, nextVec := strewn(), strewnVecs()
	for range 60000 {
		check(nextVec(), nextVec(), next())
	}
	for _, p := range places() {
		for _, q := range places() {
			for _, speed := range []api.Fix{least, -one, -1, 0, 1, one, most} {
				check(p, q, speed)
			}
		}
	}
}

// P10.2: Slow of ways that are as long as the most, one longer and one shorter, once they are scaled.
func TestSlowAtTheMost(t *testing.T) {
	for _, x := range []struct {
		v          api.Vec
		keep, most api.Fix
		want       api.Vec
	}{
		{vec(8*one, 0), one / 2, one, vec(one, 0)}, {vec(8*one, 0), one / 2, 4 * one, vec(4*one, 0)}, {vec(8*one, 0), one / 2, 9 * one, vec(4*one, 0)},
		{vec(4*one, 0), one, 4 * one, vec(4*one, 0)}, {vec(4*one+1, 0), one, 4 * one, vec(4*one, 0)}, {vec(4*one-1, 0), one, 4 * one, vec(4*one-1, 0)},
		{vec(0, -4*one), one, 4 * one, vec(0, -4*one)}, {vec(0, -4*one-1), one, 4 * one, vec(0, -4*one)}, {vec(0, 1-4*one), one, 4 * one, vec(0, 1-4*one)},
		{vec(3*one, -4*one), one, 5 * one, vec(3*one, -4*one)}, {vec(3*one, -4*one), one, 5*one + 1, vec(3*one, -4*one)}, {vec(3*one, -4*one), one, 5*one - 1, vec(3*one-1, -4*one)},
		{vec(6*one, 8*one), one, 5 * one, vec(3*one, 4*one)}, {vec(-6*one, -8*one), one, 5 * one, vec(-3*one, -4*one)}, {vec(6*one, 8*one), one / 2, 5 * one, vec(3*one, 4*one)},
		{vec(2*one, 0), one / 2, one, vec(one, 0)}, {vec(2*one+2, 0), one / 2, one, vec(one, 0)}, {vec(2*one-2, 0), one / 2, one, vec(one-1, 0)}, {vec(2*one+1, 0), one / 2, one, vec(one, 0)},
		// The length is a whole number of 65536ths: a way of 1 and 1 is 1 long, and not longer than that.
		{vec(1, 1), one, 1, vec(1, 1)}, {vec(5, 5), one, 7, vec(5, 5)}, {vec(5, 5), one, 6, vec(0, 0)},
	} {
		if got := Slow(x.v, x.keep, x.most); got != x.want {
			t.Errorf("Slow(%v, %d, %d) = %v, want %v", x.v, x.keep, x.most, got, x.want)
		}
	}
}

// P10.2: Slow with a most of 0 and below 0, a keep of 0, below 0 and above One, and ways at the ends.
func TestSlowAtTheEdges(t *testing.T) {
	for _, x := range []struct {
		v          api.Vec
		keep, most api.Fix
		want       api.Vec
	}{
		{vec(6*one, 8*one), one, 0, vec(0, 0)}, {vec(-6*one, 8*one), one, 0, vec(0, 0)}, {vec(0, 0), one, 0, vec(0, 0)}, {vec(1, 0), one, 0, vec(0, 0)},
		{vec(6*one, 8*one), one, -5 * one, vec(-3*one, -4*one)}, {vec(one, 0), one, -one, vec(-one, 0)}, {vec(0, 0), one, -one, vec(0, 0)}, {vec(0, 0), one, least, vec(0, 0)}, {vec(one, 0), one, least, vec(least, 0)},
		{vec(6*one, 8*one), 0, one, vec(0, 0)}, {vec(6*one, 8*one), 0, 0, vec(0, 0)}, {vec(6*one, 8*one), 0, -one, vec(0, 0)}, {vec(most, least), 0, most, vec(0, 0)},
		{vec(6*one, 8*one), -one / 2, 5 * one, vec(-3*one, -4*one)}, {vec(6*one, 8*one), -one, 5 * one, vec(-3*one, -4*one)}, {vec(6*one, -8*one), -one, -5 * one, vec(3*one, -4*one)}, {vec(3, -3), -one / 2, one, vec(-2, 1)},
		{vec(3*one, 4*one), 2 * one, 11 * one, vec(6*one, 8*one)}, {vec(3*one, 4*one), 2 * one, 10 * one, vec(6*one, 8*one)}, {vec(3*one, 4*one), 2 * one, 5 * one, vec(3*one, 4*one)}, {vec(3, 4), one + 1, one, vec(3, 4)},
		{vec(most, 0), one, most, vec(most, 0)}, {vec(least, 0), one, most, vec(least, 0)}, {vec(least, most), one, most, vec(least, most)}, {vec(most, most), most, most, vec(most, most)}, {vec(most, least), least, most, vec(least, most)},
		{vec(most, 0), one, most - 1, vec(one, 0)}, {vec(least, least), one, most - 1, vec(-one-1, -one-1)}, {vec(most, 0), 2 * one, one, vec(one, 0)}, {vec(0, least), one, one, vec(0, -one-1)},
	} {
		if got := Slow(x.v, x.keep, x.most); got != x.want {
			t.Errorf("Slow(%v, %d, %d) = %v, want %v", x.v, x.keep, x.most, got, x.want)
		}
	}
}

// P10.2: Slow of many ways, by numbers without ends.
func TestSlowByWords(t *testing.T) {
	check := func(v api.Vec, keep, longest api.Fix) {
		want := vec(times(v.X, keep), times(v.Y, keep))
		if lengthByWords(want) > longest {
			want = stepByWords(want, longest)
		}
		if got := Slow(v, keep, longest); got != want {
			t.Fatalf("Slow(%v, %d, %d) = %v, want %v", v, keep, longest, got, want)
		}
	}
	next, nextVec := strewn(), strewnVecs()
	for range 60000 {
		check(nextVec(), next(), next())
	}
	for _, v := range places() {
		for _, keep := range edges() {
			for _, longest := range edges() {
				check(v, keep, longest)
			}
		}
	}
}
