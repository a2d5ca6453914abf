// Package fixed is layer 1: numbers with 16 bits behind the point, held at their ends.
package fixed

import (
	"promptbook/api"
)

// fractionBits are those of a number behind the point.
const fractionBits = 16

// unitBits are those of a loudness behind the point.
const unitBits = 15

// mostSteps is into how many steps Lerp cuts a way at most.
const mostSteps = 65536

// scaleEnd bounds both factors of Scale, so that their product has room in 64 bits.
const scaleEnd = 1 << 31

// The ends of a sample of 16 bits.
const (
	pcmLeast = -32768
	pcmMost  = 32767
)

// Sat: n, or the end that it passes.
func Sat(n int64) api.Fix {
	return api.Fix(hold(n, int64(api.MinFix), int64(api.MaxFix)))
}

// Of: the whole number n, or the end that it passes.
func Of(n int) api.Fix {
	// A great n would go round when it is multiplied; held at the ends of 32 bits first it still passes those of a number.
	held := hold(int64(n), int64(api.MinFix), int64(api.MaxFix))
	return Sat(held * int64(api.One))
}

// Add: both together, or the end.
func Add(a, b api.Fix) api.Fix {
	return Sat(int64(a) + int64(b))
}

// Sub: a less b, or the end.
func Sub(a, b api.Fix) api.Fix {
	return Sat(int64(a) - int64(b))
}

// Mul: a times b, down, or the end.
func Mul(a, b api.Fix) api.Fix {
	// A shift of a number with a sign goes down, where a division would go toward 0.
	return Sat(int64(a) * int64(b) >> fractionBits)
}

// Div: a by b, down, or the end; by 0 the end on a's side, or 0.
func Div(a, b api.Fix) api.Fix {
	if b == 0 {
		return endOf(a)
	}
	return Sat(divDown(int64(a)*int64(api.One), int64(b)))
}

// Neg: a with the other sign, or the end.
func Neg(a api.Fix) api.Fix {
	return Sat(-int64(a))
}

// Abs: a without its sign, or the end.
func Abs(a api.Fix) api.Fix {
	if a < 0 {
		return Neg(a)
	}
	return a
}

// Floor: the whole number below a, or the same.
func Floor(a api.Fix) int {
	return int(a >> fractionBits)
}

// Clamp: a, at least the one and at most the other; least, if least is above most.
func Clamp(a, least, most api.Fix) api.Fix {
	return api.Fix(hold(int64(a), int64(least), int64(most)))
}

// Lerp: the place after n of the steps from a to b, down; ErrArg, unless there are 1 to 65536 steps and n is one of them or 0.
func Lerp(a, b api.Fix, n, of int) (api.Fix, api.Errno) {
	if of < 1 || of > mostSteps || n < 0 || n > of {
		return 0, api.ErrArg
	}
	// The way may be longer than a number is, so it isn't one: held at an end, Lerp would stop short of b.
	way := int64(b) - int64(a)
	return Sat(int64(a) + divDown(way*int64(n), int64(of))), api.OK
}

// Scale: n as loud as gain says, in parts of Unit, down; both are held within -2^31 and 2^31.
func Scale(n int, gain int) int {
	heldN := hold(int64(n), -scaleEnd, scaleEnd)
	heldGain := hold(int64(gain), -scaleEnd, scaleEnd)
	return int(heldN * heldGain >> unitBits)
}

// Pcm: n, held within 16 bits.
func Pcm(n int) int {
	return int(hold(int64(n), pcmLeast, pcmMost))
}

// hold asks for the least last, so that it wins where both ends are crossed.
func hold(n, least, most int64) int64 {
	if n > most {
		n = most
	}
	if n < least {
		n = least
	}
	return n
}

// endOf is what dividing by 0 answers.
func endOf(a api.Fix) api.Fix {
	if a > 0 {
		return api.MaxFix
	}
	if a < 0 {
		return api.MinFix
	}
	return 0
}

// divDown mends the language's division, which goes toward 0; b isn't 0.
func divDown(a, b int64) int64 {
	quotient := a / b
	if a%b != 0 && (a < 0) != (b < 0) {
		quotient--
	}
	return quotient
}
