package shape

import (
	"testing"

	"promptbook/api"
)

// moved is a call of Move and what it answers.
type moved struct {
	p, v     api.Vec
	b        api.Box
	at, then api.Vec
	walls    int
}

func checkMoves(t *testing.T, l []moved) {
	t.Helper()
	for _, x := range l {
		at, then, walls, e := Move(x.p, x.v, x.b)
		if at != x.at || then != x.then || walls != x.walls || e != api.OK {
			t.Errorf("Move(%v, %v, %v) = %v, %v, %d, %d, want %v, %v, %d", x.p, x.v, x.b, at, then, walls, e, x.at, x.then, x.walls)
		}
	}
}

// P10.2: the document's example: a place 1 left of a wall, moved by 3 to the right.
func TestMoveOfTheDocument(t *testing.T) {
	checkMoves(t, []moved{{vec(4*one, 0), vec(3*one, 0), box(-5*one, -5*one, 5*one, 5*one), vec(5*one, 0), vec(-3*one/2, 0), 2}})
}

// P10.2: Move of a place that stays inside, that comes just to each wall, and one beyond it.
func TestMoveAtTheWalls(t *testing.T) {
	b := box(-10, -20, 30, 40)
	checkMoves(t, []moved{
		{vec(0, 0), vec(0, 0), b, vec(0, 0), vec(0, 0), 0}, {vec(1, 2), vec(3, -4), b, vec(4, -2), vec(3, -4), 0}, {vec(-10, 40), vec(0, 0), b, vec(-10, 40), vec(0, 0), 0},
		{vec(0, 0), vec(-10, 0), b, vec(-10, 0), vec(-10, 0), 0}, {vec(0, 0), vec(30, 0), b, vec(30, 0), vec(30, 0), 0}, {vec(0, 0), vec(0, -20), b, vec(0, -20), vec(0, -20), 0}, {vec(0, 0), vec(0, 40), b, vec(0, 40), vec(0, 40), 0},
		{vec(0, 0), vec(-10, -20), b, vec(-10, -20), vec(-10, -20), 0}, {vec(0, 0), vec(30, 40), b, vec(30, 40), vec(30, 40), 0},
		{vec(0, 0), vec(-11, 3), b, vec(-10, 3), vec(5, 3), 1}, {vec(0, 0), vec(31, 3), b, vec(30, 3), vec(-16, 3), 2},
		{vec(0, 0), vec(3, -21), b, vec(3, -20), vec(3, 10), 4}, {vec(0, 0), vec(3, 41), b, vec(3, 40), vec(3, -21), 8},
		{vec(-10, 0), vec(-1, 0), b, vec(-10, 0), vec(0, 0), 1}, {vec(30, 0), vec(1, 0), b, vec(30, 0), vec(-1, 0), 2},
		{vec(0, -20), vec(0, -1), b, vec(0, -20), vec(0, 0), 4}, {vec(0, 40), vec(0, 1), b, vec(0, 40), vec(0, -1), 8},
	})
}

// P10.2: Move of a place that passes two walls at once; what is turned round is halved down.
func TestMoveIntoCorners(t *testing.T) {
	b := box(-10, -20, 30, 40)
	checkMoves(t, []moved{
		{vec(0, 0), vec(-101, -203), b, vec(-10, -20), vec(50, 101), 5}, {vec(0, 0), vec(101, -203), b, vec(30, -20), vec(-51, 101), 6},
		{vec(0, 0), vec(-101, 203), b, vec(-10, 40), vec(50, -102), 9}, {vec(0, 0), vec(101, 203), b, vec(30, 40), vec(-51, -102), 10},
		{vec(0, 0), vec(-30, 40), b, vec(-10, 40), vec(15, 40), 1}, {vec(0, 0), vec(30, 80), b, vec(30, 40), vec(30, -40), 8},
	})
}

// P10.2: Move of a place that was outside before: it is put on the wall that it is still beyond, whatever its way, and not if it comes in.
func TestMoveFromOutside(t *testing.T) {
	b := box(-10, -20, 30, 40)
	checkMoves(t, []moved{
		{vec(-100, 0), vec(0, 0), b, vec(-10, 0), vec(0, 0), 1}, {vec(-100, 0), vec(7, 0), b, vec(-10, 0), vec(-4, 0), 1}, {vec(-100, 0), vec(90, 0), b, vec(-10, 0), vec(90, 0), 0},
		{vec(-100, 0), vec(95, 0), b, vec(-5, 0), vec(95, 0), 0}, {vec(-100, 0), vec(131, 0), b, vec(30, 0), vec(-66, 0), 2},
		{vec(100, 0), vec(-7, 0), b, vec(30, 0), vec(3, 0), 2}, {vec(100, 0), vec(-111, 0), b, vec(-10, 0), vec(55, 0), 1},
		{vec(0, -100), vec(0, 7), b, vec(0, -20), vec(0, -4), 4}, {vec(0, 100), vec(0, -7), b, vec(0, 40), vec(0, 3), 8},
		{vec(-100, 100), vec(2, -2), b, vec(-10, 40), vec(-1, 1), 9}, {vec(100, -100), vec(-80, 90), b, vec(20, -10), vec(-80, 90), 0},
	})
}

// P10.2: Move in a box that is one place, where every way that leaves it meets a wall.
func TestMoveInOnePlace(t *testing.T) {
	b := box(5, 6, 5, 6)
	checkMoves(t, []moved{
		{vec(5, 6), vec(0, 0), b, vec(5, 6), vec(0, 0), 0}, {vec(5, 6), vec(4, 0), b, vec(5, 6), vec(-2, 0), 2}, {vec(5, 6), vec(-4, 0), b, vec(5, 6), vec(2, 0), 1},
		{vec(5, 6), vec(0, 4), b, vec(5, 6), vec(0, -2), 8}, {vec(5, 6), vec(0, -4), b, vec(5, 6), vec(0, 2), 4}, {vec(5, 6), vec(-1, 1), b, vec(5, 6), vec(0, -1), 9},
		{vec(0, 0), vec(5, 6), b, vec(5, 6), vec(5, 6), 0}, {vec(0, 0), vec(0, 0), b, vec(5, 6), vec(0, 0), 5}, {vec(9, 9), vec(0, 0), b, vec(5, 6), vec(0, 0), 10},
		{vec(most, least), vec(0, 0), box(most, least, most, least), vec(most, least), vec(0, 0), 0},
	})
}

// P10.2: Move by ways at the ends of fixed: the place is held there, so that a wall at an end is never met.
func TestMoveAtTheEnds(t *testing.T) {
	b, all := box(-10, -20, 30, 40), box(least, least, most, most)
	// The other way of the least number is the greatest one; halved down both of these are 2^30 less 1, and -2^30.
	const up, down = 1<<30 - 1, -1 << 30
	checkMoves(t, []moved{
		{vec(0, 0), vec(most, 0), b, vec(30, 0), vec(down, 0), 2}, {vec(0, 0), vec(least, 0), b, vec(-10, 0), vec(up, 0), 1},
		{vec(0, 0), vec(0, most), b, vec(0, 40), vec(0, down), 8}, {vec(0, 0), vec(0, least), b, vec(0, -20), vec(0, up), 4},
		{vec(0, 0), vec(least+1, most-1), b, vec(-10, 40), vec(up, down+1), 9},
		{vec(most, most), vec(most, most), b, vec(30, 40), vec(down, down), 10}, {vec(least, least), vec(most, most), b, vec(-1, -1), vec(most, most), 0},
		{vec(most, least), vec(least, most), b, vec(-1, -1), vec(least, most), 0},
		{vec(most, most), vec(most, most), all, vec(most, most), vec(most, most), 0}, {vec(least, least), vec(least, least), all, vec(least, least), vec(least, least), 0},
		{vec(one, -one), vec(most, least), all, vec(most, least), vec(most, least), 0},
		{vec(one, -one), vec(most, least), box(least+1, least+1, most-1, most-1), vec(most-1, least+1), vec(down, up), 6},
	})
}

// P10.2: ErrArg, and nothing beside it, in a box that isn't right, in X alone, in Y alone and in both.
func TestMoveInWrongBoxes(t *testing.T) {
	for _, b := range []api.Box{box(1, 0, 0, 0), box(0, 1, 0, 0), box(1, 1, 0, 0), box(9, -9, -9, 9), box(-9, 9, 9, -9), box(most, least, least, most), box(least, most, most, least), box(most, most, least, least)} {
		for _, p := range places() {
			for _, v := range []api.Vec{vec(0, 0), vec(1, -1), vec(most, least), vec(least, most), p} {
				if at, then, walls, e := Move(p, v, b); at != vec(0, 0) || then != vec(0, 0) || walls != 0 || e != api.ErrArg {
					t.Fatalf("Move(%v, %v, %v) = %v, %v, %d, %d, want ErrArg", p, v, b, at, then, walls, e)
				}
			}
		}
	}
}

// P10.2: Move in X alone and in Y alone, of all edges, by the chapter's words.
func TestMoveOfEdgesByWords(t *testing.T) {
	for _, at := range edges() {
		for _, way := range edges() {
			for _, low := range edges() {
				for _, high := range edges() {
					if low <= high {
						checkInOneNumber(t, at, way, low, high)
					}
				}
			}
		}
	}
}

func checkInOneNumber(t *testing.T, at, way, low, high api.Fix) {
	t.Helper()
	to, then, met := moveByWords(at, way, low, high)
	p, v, walls, e := Move(vec(at, 7), vec(way, -2), box(low, 0, high, 9))
	if p != vec(to, 5) || v != vec(then, -2) || walls != met || e != api.OK {
		t.Fatalf("from X %d by %d within %d to %d: %v, %v, %d, %d, want %d, %d, %d", at, way, low, high, p, v, walls, e, to, then, met)
	}
	p, v, walls, e = Move(vec(7, at), vec(-2, way), box(0, low, 9, high))
	if p != vec(5, to) || v != vec(-2, then) || walls != met*4 || e != api.OK {
		t.Fatalf("from Y %d by %d within %d to %d: %v, %v, %d, %d, want %d, %d, %d", at, way, low, high, p, v, walls, e, to, then, met*4)
	}
}

// P10.2 and P10.3: Move of many places by the chapter's words; what moves is inside, and a wall is met just if the place would have been beyond it.
func TestMoveByWords(t *testing.T) {
	next := strewnVecs()
	for range 60000 {
		p, v, low, high := next(), next(), next(), next()
		b := box(min(low.X, high.X), min(low.Y, high.Y), max(low.X, high.X), max(low.Y, high.Y))
		x, wayX, metX := moveByWords(p.X, v.X, b.Low.X, b.High.X)
		y, wayY, metY := moveByWords(p.Y, v.Y, b.Low.Y, b.High.Y)
		at, then, walls, e := Move(p, v, b)
		if at != vec(x, y) || then != vec(wayX, wayY) || walls != metX+4*metY || e != api.OK {
			t.Fatalf("Move(%v, %v, %v) = %v, %v, %d, %d", p, v, b, at, then, walls, e)
		}
		if !Inside(b, at) {
			t.Fatalf("Move(%v, %v, %v) = %v, which isn't inside", p, v, b, at)
		}
		checkWalls(t, Add(p, v), b, walls)
		if there := Add(p, v); Inside(b, there) && (at != there || then != v) {
			t.Fatalf("Move(%v, %v, %v) = %v, %v, but no wall was met", p, v, b, at, then)
		}
	}
}

func checkWalls(t *testing.T, there api.Vec, b api.Box, walls int) {
	t.Helper()
	for _, x := range []struct {
		wall   int
		beyond bool
	}{
		{api.WallLeft, there.X < b.Low.X}, {api.WallRight, there.X > b.High.X}, {api.WallLow, there.Y < b.Low.Y}, {api.WallHigh, there.Y > b.High.Y},
	} {
		if (walls&x.wall != 0) != x.beyond {
			t.Fatalf("at %v of %v the walls met are %d", there, b, walls)
		}
	}
}

// P10.3: what moves again and again is inside behind each move, wherever it began.
func TestWhatMovesStaysInside(t *testing.T) {
	next := strewnVecs()
	for range 300 {
		p, v, low := next(), next(), next()
		b := api.Box{Low: low, High: Add(low, vec(5*one, 3*one))}
		for n := range 200 {
			at, then, _, e := Move(p, v, b)
			if e != api.OK || !Inside(b, at) {
				t.Fatalf("move %d: Move(%v, %v, %v) = %v, %d", n, p, v, b, at, e)
			}
			p, v = at, then
		}
	}
}
