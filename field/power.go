package field

import (
	"escutcheon/api"
	"escutcheon/limb"
	"escutcheon/modp"
)

// The exponents of Inv and of Root are long runs of ones and of noughts. Put together from such runs
// a power takes half the time that modp.Exp takes, and layer 5 asks for an inverse with every sum.
// All powers are kept times R, so that each product takes one reduction.

// powers are what the exponents of Inv and of Root are put together from. The bits of one's exponent
// are a 1, those of ones30's are 30 ones, those of head's are 255 ones, 0, and 32 ones.
type powers struct {
	one, ones30, head api.U384
}

func powersOf(a api.U384) powers {
	one := mulR(a, squareOfR)
	ones2 := behind(one, 1, one)
	ones3 := behind(ones2, 1, one)
	ones6 := behind(ones3, 3, ones3)
	ones12 := behind(ones6, 6, ones6)
	ones15 := behind(ones12, 3, ones3)
	ones30 := behind(ones15, 15, ones15)
	ones32 := behind(ones30, 2, ones2)
	ones60 := behind(ones30, 30, ones30)
	ones120 := behind(ones60, 60, ones60)
	ones240 := behind(ones120, 120, ones120)
	ones255 := behind(ones240, 15, ones15)
	return powers{one: one, ones30: ones30, head: behind(ones255, 1+32, ones32)}
}

// behind is the power whose exponent is high's, and behind that n bits more, which are low's.
func behind(high api.U384, n int, low api.U384) api.U384 {
	return mulR(squares(high, n), low)
}

// squares is a power squared n times: n noughts come behind its exponent.
func squares(a api.U384, n int) api.U384 {
	for range n {
		a = mulR(a, a)
	}
	return a
}

// mulR is the rest of a product divided by R.
func mulR(a, b api.U384) api.U384 {
	return modp.Reduce(limb.Mul(a, b), modulus())
}

// outOfR is the rest of what is kept times R.
func outOfR(a api.U384) api.U384 {
	return mulR(a, api.U384{1})
}
