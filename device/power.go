package device

import "math/bits"

const slotCount = 2

const noBudget = -1 // no budget is below 0

func isSlot(i int) bool { return i >= 0 && i < slotCount }

// step tells whether the power holds for one more step: if not, it goes.
func (d *Device) step() bool {
	if d.left == 0 {
		d.goOff()
		return false
	}
	if d.left != noBudget {
		d.left--
	}
	d.steps++
	return true
}

// goOff is what is left when the power goes: the slots and the fuses.
func (d *Device) goOff() {
	d.on = false
	clear(d.ram)
}

// onesAhead is how many of the lowest bits are 1, up to the first one that is 0.
func onesAhead(b uint64) int { return bits.TrailingZeros64(^b) }
