package der

import (
	"math/bits"

	"escutcheon/api"
)

// sound tells whether an element, and each one in it, can be written.
func sound(t api.Tlv) bool {
	if t.Class < 0 || t.Class > maxClass || t.Tag < 0 || t.Tag > maxTag {
		return false
	}
	if t.Made && len(t.Body) > 0 || !t.Made && len(t.Kids) > 0 {
		return false
	}
	for _, kid := range t.Kids {
		if !sound(kid) {
			return false
		}
	}
	return true
}

// deep tells whether an element that is in as many others, or one in it, would be refused by who reads it.
func deep(t api.Tlv, in int) bool {
	if in >= api.MaxDepth {
		return true
	}
	for _, kid := range t.Kids {
		if deep(kid, in+1) {
			return true
		}
	}
	return false
}

// size is how many bytes an element has. Above MaxDer it is any number above: the rest isn't gone through.
func size(t api.Tlv) int {
	n := len(t.Body)
	for _, kid := range t.Kids {
		n += size(kid)
		if n > api.MaxDer {
			return n
		}
	}
	return 1 + 1 + longSize(n) + n
}

// longSize is how many bytes of its own a length has.
func longSize(n int) int {
	if n < longMark {
		return 0
	}
	return (bits.Len(uint(n)) + byteBits - 1) / byteBits
}

// written are the bytes of an element that can be written.
func written(t api.Tlv) []byte {
	// Kids are laid into memory of our own, never behind Body: there may be room that is somebody else's.
	var kids []byte
	for _, kid := range t.Kids {
		kids = append(kids, written(kid)...)
	}
	all := append([]byte{headOf(t)}, lengthOf(len(t.Body)+len(kids))...)
	all = append(all, t.Body...)
	return append(all, kids...)
}

func headOf(t api.Tlv) byte {
	head := t.Class*classUnit + t.Tag
	if t.Made {
		head += madeBit
	}
	return byte(head)
}

func lengthOf(n int) []byte {
	long := longSize(n)
	if long == 0 {
		return []byte{byte(n)}
	}
	all := []byte{byte(longMark + long)}
	for i := range long {
		all = append(all, byte(n>>(byteBits*(long-1-i))))
	}
	return all
}
