package shape

import (
	"math/big"
	"testing"

	"promptbook/api"
)

const (
	least = api.MinFix
	most  = api.MaxFix
	one   = api.One
)

// vec spares the tables their fields' names.
func vec(x, y api.Fix) api.Vec {
	return api.Vec{X: x, Y: y}
}

func box(lowX, lowY, highX, highY api.Fix) api.Box {
	return api.Box{Low: vec(lowX, lowY), High: vec(highX, highY)}
}

// edges is numbers where an answer may break.
func edges() []api.Fix {
	return []api.Fix{least, least + 1, -2 * one, -one - 1, -3, -1, 0, 1, 2, 3, one / 2, one, one + 1, most - 1, most}
}

// strewn is a function that answers numbers of all sizes, one behind the other, an edge now and then among them.
func strewn() func() api.Fix {
	x := uint64(88172645463325252)
	ends := edges()
	return func() api.Fix {
		x ^= x << 13
		x ^= x >> 7
		x ^= x << 17
		if x%5 == 0 {
			return ends[x>>8%uint64(len(ends))]
		}
		return api.Fix(int32(x>>20)) >> (x >> 55 % 31)
	}
}

// strewnVecs is places, or ways, of such numbers.
func strewnVecs() func() api.Vec {
	next := strewn()
	return func() api.Vec {
		return vec(next(), next())
	}
}

// places is all pairs of some edges.
func places() []api.Vec {
	var l []api.Vec
	some := []api.Fix{least, least + 1, -one, -1, 0, 1, one, most - 1, most}
	for _, x := range some {
		for _, y := range some {
			l = append(l, vec(x, y))
		}
	}
	return l
}

// held is a number without ends, held at those of fixed.
func held(n *big.Int) api.Fix {
	if n.Cmp(big.NewInt(int64(least))) < 0 {
		return least
	}
	if n.Cmp(big.NewInt(int64(most))) > 0 {
		return most
	}
	return api.Fix(n.Int64())
}

func whole(a api.Fix) *big.Int {
	return big.NewInt(int64(a))
}

func plus(a, b api.Fix) api.Fix {
	return held(new(big.Int).Add(whole(a), whole(b)))
}

func less(a, b api.Fix) api.Fix {
	return held(new(big.Int).Sub(whole(a), whole(b)))
}

// times is cut down by a division whose remainder is never below 0.
func times(a, b api.Fix) api.Fix {
	n := new(big.Int).Mul(whole(a), whole(b))
	return held(n.Div(n, big.NewInt(65536)))
}

// squares is of numbers without ends.
func squares(l ...api.Fix) *big.Int {
	all := new(big.Int)
	for _, a := range l {
		n := whole(a)
		all.Add(all, n.Mul(n, n))
	}
	return all
}

func lengthByWords(v api.Vec) api.Fix {
	return held(new(big.Int).Sqrt(squares(v.X, v.Y)))
}

// stepByWords is trig.Toward, said once more.
func stepByWords(v api.Vec, speed api.Fix) api.Vec {
	length := lengthByWords(v)
	if length == 0 {
		return api.Vec{}
	}
	part := func(a api.Fix) api.Fix {
		n := new(big.Int).Mul(whole(times(a, speed)), big.NewInt(65536))
		return held(n.Div(n, whole(length)))
	}
	return vec(part(v.X), part(v.Y))
}

// moveByWords is Move in one number; the bits are 1 for the lower wall and 2 for the higher one.
func moveByWords(at, way, low, high api.Fix) (api.Fix, api.Fix, int) {
	there := plus(at, way)
	turned := times(less(0, way), 32768)
	if there < low {
		return low, turned, 1
	}
	if there > high {
		return high, turned, 2
	}
	return there, way, 0
}

func touchByWords(p api.Vec, r api.Fix, q api.Vec, s api.Fix) bool {
	radii := plus(r, s)
	return radii >= 0 && squares(less(q.X, p.X), less(q.Y, p.Y)).Cmp(squares(radii)) <= 0
}

// P10.1: Add, Sub and Scale of plain numbers, and of numbers that come to the ends in X alone, in Y alone and in both.
func TestSumsAndProducts(t *testing.T) {
	for _, x := range []struct{ a, b, sum, rest api.Vec }{
		{vec(3*one, 5), vec(one, -7), vec(4*one, -2), vec(2*one, 12)},
		{vec(0, 0), vec(4, -9), vec(4, -9), vec(-4, 9)},
		{vec(-one, one), vec(0, 0), vec(-one, one), vec(-one, one)},
		{vec(most, 5), vec(1, 1), vec(most, 6), vec(most-1, 4)},
		{vec(5, most), vec(1, 1), vec(6, most), vec(4, most-1)},
		{vec(least, 5), vec(1, 1), vec(least+1, 6), vec(least, 4)},
		{vec(5, least), vec(1, 1), vec(6, least+1), vec(4, least)},
		{vec(most, most), vec(most, most), vec(most, most), vec(0, 0)},
		{vec(least, least), vec(least, least), vec(least, least), vec(0, 0)},
		{vec(most, least), vec(least, most), vec(-1, -1), vec(most, least)},
		{vec(0, -1), vec(least, least), vec(least, least), vec(most, most)},
		{vec(most, least), vec(one, -one), vec(most, least), vec(most-one, least+one)},
	} {
		if got := Add(x.a, x.b); got != x.sum {
			t.Errorf("Add(%v, %v) = %v, want %v", x.a, x.b, got, x.sum)
		}
		if got := Sub(x.a, x.b); got != x.rest {
			t.Errorf("Sub(%v, %v) = %v, want %v", x.a, x.b, got, x.rest)
		}
	}
	for _, x := range []struct {
		a    api.Vec
		by   api.Fix
		want api.Vec
	}{
		{vec(3*one, -5*one), one / 2, vec(3*one/2, -5*one/2)}, {vec(3, -3), one / 2, vec(1, -2)}, {vec(-1, 1), 1, vec(-1, 0)},
		{vec(7, -7), one, vec(7, -7)}, {vec(7, -7), 0, vec(0, 0)}, {vec(7, -7), -one, vec(-7, 7)},
		{vec(most, 5), 2 * one, vec(most, 10)}, {vec(5, most), 2 * one, vec(10, most)}, {vec(least, 5), 2 * one, vec(least, 10)}, {vec(5, least), 2 * one, vec(10, least)},
		{vec(most, least), 2 * one, vec(most, least)}, {vec(most, least), -one, vec(-most, most)}, {vec(most, least), most, vec(most, least)}, {vec(most, least), least, vec(least, most)},
	} {
		if got := Scale(x.a, x.by); got != x.want {
			t.Errorf("Scale(%v, %d) = %v, want %v", x.a, x.by, got, x.want)
		}
	}
}

// P10.1: Add, Sub and Scale of many, by numbers without ends.
func TestSumsAndProductsByWords(t *testing.T) {
	for _, a := range places() {
		for _, b := range places() {
			if got, want := Add(a, b), vec(plus(a.X, b.X), plus(a.Y, b.Y)); got != want {
				t.Fatalf("Add(%v, %v) = %v, want %v", a, b, got, want)
			}
			if got, want := Sub(a, b), vec(less(a.X, b.X), less(a.Y, b.Y)); got != want {
				t.Fatalf("Sub(%v, %v) = %v, want %v", a, b, got, want)
			}
		}
		for _, by := range edges() {
			if got, want := Scale(a, by), vec(times(a.X, by), times(a.Y, by)); got != want {
				t.Fatalf("Scale(%v, %d) = %v, want %v", a, by, got, want)
			}
		}
	}
}

// P10.1: Right of boxes, of one place only, and with Low above High in X alone, in Y alone and in both.
func TestRight(t *testing.T) {
	for _, x := range []struct {
		b    api.Box
		want bool
	}{
		{box(-1, -2, 3, 4), true}, {box(0, 0, 0, 0), true}, {box(5, -5, 5, -5), true}, {box(5, 0, 5, 9), true}, {box(0, 5, 9, 5), true},
		{box(1, 0, 0, 0), false}, {box(0, 1, 0, 0), false}, {box(1, 1, 0, 0), false},
		{box(4, 0, -4, 9), false}, {box(0, 4, 9, -4), false}, {box(4, 4, -4, -4), false},
		{box(least, least, most, most), true}, {box(most, least, least, most), false}, {box(least, most, most, least), false}, {box(most, most, least, least), false},
		{box(least, least, least, least), true}, {box(most, most, most, most), true}, {box(most, most, most-1, most), false}, {box(least, least+1, least, least), false},
	} {
		if got := Right(x.b); got != x.want {
			t.Errorf("Right(%v) = %v", x.b, got)
		}
	}
}

// P10.1: Inside of a box: at each wall, one beyond each, in each corner and one beyond it.
func TestInside(t *testing.T) {
	b := box(-10, -20, 30, 40)
	for _, p := range []api.Vec{vec(0, 0), vec(-10, 0), vec(30, 0), vec(0, -20), vec(0, 40), vec(-10, -20), vec(30, -20), vec(-10, 40), vec(30, 40), vec(-9, -19), vec(29, 39)} {
		if !Inside(b, p) {
			t.Errorf("%v isn't inside", p)
		}
	}
	for _, p := range []api.Vec{
		vec(-11, 0), vec(31, 0), vec(0, -21), vec(0, 41),
		vec(-11, -20), vec(-10, -21), vec(-11, -21), vec(31, -20), vec(30, -21), vec(31, -21),
		vec(-11, 40), vec(-10, 41), vec(-11, 41), vec(31, 40), vec(30, 41), vec(31, 41),
		vec(least, 0), vec(most, 0), vec(0, least), vec(0, most),
	} {
		if Inside(b, p) {
			t.Errorf("%v is inside", p)
		}
	}
}

// P10.1: one place only is inside a box that is one place, all are inside the greatest one, and none is inside one that isn't right.
func TestInsideOfEdgeBoxes(t *testing.T) {
	for _, p := range places() {
		for _, q := range places() {
			if got := Inside(api.Box{Low: p, High: p}, q); got != (p == q) {
				t.Errorf("%v in the box of %v alone: %v", q, p, got)
			}
		}
		if !Inside(box(least, least, most, most), p) {
			t.Errorf("%v isn't inside the greatest box", p)
		}
	}
	for _, b := range []api.Box{box(1, -one, 0, one), box(-one, 1, one, 0), box(1, 1, 0, 0), box(most, least, least, most), box(least, most, most, least), box(most, most, least, least)} {
		for _, p := range append(places(), b.Low, b.High, vec(b.Low.X, b.High.Y), vec(b.High.X, b.Low.Y)) {
			if Inside(b, p) {
				t.Errorf("%v is inside %v", p, b)
			}
		}
	}
}

// P10.1: Shrink by some, by 0, by less than 0, to one place, by one more than that, and at the ends.
func TestShrink(t *testing.T) {
	b := box(-10, -20, 30, 40)
	for _, x := range []struct {
		b    api.Box
		by   api.Fix
		want api.Box
		ok   bool
	}{
		{b, 3, box(-7, -17, 27, 37), true}, {b, 0, b, true}, {b, -5, box(-15, -25, 35, 45), true},
		{b, 19, box(9, -1, 11, 21), true}, {b, 20, box(10, 0, 10, 20), true}, {b, 21, b, false}, {b, 30, b, false}, {b, 31, b, false}, {b, most, b, false},
		{box(0, -10, 100, 10), 10, box(10, 0, 90, 0), true}, {box(0, -10, 100, 10), 11, box(0, -10, 100, 10), false},
		{box(-6, -6, 6, 6), 6, box(0, 0, 0, 0), true}, {box(-6, -6, 6, 6), 7, box(-6, -6, 6, 6), false}, {box(0, 0, 5, 5), 3, box(0, 0, 5, 5), false}, {box(0, 0, 5, 5), 2, box(2, 2, 3, 3), true},
		{box(4, 5, 4, 5), 0, box(4, 5, 4, 5), true}, {box(4, 5, 4, 5), 1, box(4, 5, 4, 5), false}, {box(4, 5, 4, 5), -1, box(3, 4, 5, 6), true},
		{b, least, box(least, least, most, most), true}, {box(least, least, most, most), -1, box(least, least, most, most), true},
		{box(least, least, most, most), most, box(-1, -1, 0, 0), true}, {box(least, least, most, most), 1, box(least+1, least+1, most-1, most-1), true},
		{box(most, 0, most, 9), 1, box(most, 0, most, 9), false}, {box(0, least, 9, least), 1, box(0, least, 9, least), false},
	} {
		if got, ok := Shrink(x.b, x.by); got != x.want || ok != x.ok {
			t.Errorf("Shrink(%v, %d) = %v, %v, want %v, %v", x.b, x.by, got, ok, x.want, x.ok)
		}
	}
}

// P10.1: Shrink of a box that isn't right asks only whether it is right then, which a shrinking by less than 0 can make it.
func TestShrinkOfWrongBoxes(t *testing.T) {
	for _, x := range []struct {
		b    api.Box
		by   api.Fix
		want api.Box
		ok   bool
	}{
		{box(4, 0, 0, 9), 0, box(4, 0, 0, 9), false}, {box(0, 4, 9, 0), 0, box(0, 4, 9, 0), false}, {box(4, 4, 0, 0), 1, box(4, 4, 0, 0), false}, {box(4, 4, 0, 0), 0, box(4, 4, 0, 0), false},
		{box(4, 0, 0, 9), -1, box(4, 0, 0, 9), false}, {box(4, 0, 0, 9), -2, box(2, -2, 2, 11), true}, {box(0, 4, 9, 0), -1, box(0, 4, 9, 0), false}, {box(0, 4, 9, 0), -3, box(-3, 1, 12, 3), true},
		{box(4, 6, 0, 0), -2, box(4, 6, 0, 0), false}, {box(4, 6, 0, 0), -3, box(1, 3, 3, 3), true},
		{box(most, most, least, least), most, box(most, most, least, least), false}, {box(most, most, least, least), least, box(-1, -1, 0, 0), true},
	} {
		if got, ok := Shrink(x.b, x.by); got != x.want || ok != x.ok {
			t.Errorf("Shrink(%v, %d) = %v, %v, want %v, %v", x.b, x.by, got, ok, x.want, x.ok)
		}
	}
}

// P10.1: Shrink, Right and Inside of many boxes, by the chapter's words.
func TestBoxesByWords(t *testing.T) {
	next, nextVec := strewn(), strewnVecs()
	for range 60000 {
		b, p, by := api.Box{Low: nextVec(), High: nextVec()}, nextVec(), next()
		right := !(b.Low.X > b.High.X) && !(b.Low.Y > b.High.Y)
		if got := Right(b); got != right {
			t.Fatalf("Right(%v) = %v", b, got)
		}
		beyond := p.X < b.Low.X || p.X > b.High.X || p.Y < b.Low.Y || p.Y > b.High.Y
		if got := Inside(b, p); got != (right && !beyond) {
			t.Fatalf("Inside(%v, %v) = %v", b, p, got)
		}
		want := box(plus(b.Low.X, by), plus(b.Low.Y, by), less(b.High.X, by), less(b.High.Y, by))
		ok := want.Low.X <= want.High.X && want.Low.Y <= want.High.Y
		if !ok {
			want = b
		}
		if got, gotOk := Shrink(b, by); got != want || gotOk != ok {
			t.Fatalf("Shrink(%v, %d) = %v, %v, want %v, %v", b, by, got, gotOk, want, ok)
		}
	}
}
