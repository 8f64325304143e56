package aes

// Eight bytes lie beside each other in a number of 64 bits, its lanes, and go through the same steps
// at once: an image has many blocks, and byte by byte each would take many times as long.

const (
	lane = 8                  // bits of a lane, and lanes of a number
	ones = 0x0101010101010101 // the lowest bit of each lane
	full = 0xff               // a lane's bits, all of them 1
	rest = 0x1b               // x^4 + x^3 + x + 1: what x^8 leaves by the modulus
	last = 0x63               // what a substitute is xored with at last
)

// doubles are the lanes' bytes, each times x.
func doubles(a uint64) uint64 { return (a << 1 &^ ones) ^ (a>>7&ones)*rest }

// products are the products of two bytes each, those in one lane.
func products(a, b uint64) uint64 {
	var sum uint64
	for i := range lane {
		sum ^= a & ((b >> i & ones) * full)
		a = doubles(a)
	}
	return sum
}

// substitutes are those of the lanes' bytes.
func substitutes(a uint64) uint64 {
	a = inverses(a)
	return a ^ rotated(a, 4) ^ rotated(a, 5) ^ rotated(a, 6) ^ rotated(a, 7) ^ ones*last
}

// inverses are the bytes whose products with the lanes' are 1, 0 for 0: as the power 255 of each other
// byte is 1, the power 254 is what is looked for, and that of 0 is 0.
func inverses(a uint64) uint64 {
	a2 := squares(a)
	a3 := products(a2, a)
	a12 := squares(squares(a3))
	a15 := products(a12, a3)
	a240 := squares(squares(squares(squares(a15))))
	return products(products(a240, a12), a2)
}

func squares(a uint64) uint64 { return products(a, a) }

// rotated are the lanes' bytes, the bits of each turned to the right within its lane.
func rotated(a uint64, by int) uint64 {
	low := uint64(ones) * (full >> by)
	return a>>by&low | a<<(lane-by)&^low
}
