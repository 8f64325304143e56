package prim

import (
	"slices"

	"escutcheon/api"
)

// An identifier's numbers, and how a body tells its first two as one.
const (
	minArcs   = 2
	maxArc    = 1<<32 - 1
	lastRoot  = 2  // the greatest first number
	rootUnit  = 40 // what a first number counts there, and what a second number is below
	lastStart = lastRoot * rootUnit
)

// The bytes of a number in a body.
const (
	moreBit   = 128 // set in all of them but the last
	sevenBits = 7
	// beyond is told of each number that is greater: a body's number may have more bits than any uint.
	beyond = 1 << 40
)

// Oid is an identifier: P13.3.
func Oid(body []byte) ([]uint64, error) {
	if !areNumbers(body) {
		return nil, api.ErrForm
	}
	first, body := cutNumber(body)
	if first > maxArc+lastStart {
		return nil, api.ErrRange
	}
	root := min(first/rootUnit, lastRoot)
	l := []uint64{root, first - root*rootUnit}
	for len(body) > 0 {
		var n uint64
		n, body = cutNumber(body)
		if n > maxArc {
			return nil, api.ErrRange
		}
		// Those behind one too many are asked for their range only.
		if len(l) <= api.MaxArcs {
			l = append(l, n)
		}
	}
	if len(l) > api.MaxArcs {
		return nil, api.ErrLong
	}
	return l, nil
}

// OidOf is its body: P13.3.
func OidOf(l []uint64) ([]byte, error) {
	if !isOid(l) {
		return nil, api.ErrArg
	}
	body := numberBytes(l[0]*rootUnit + l[1])
	for _, n := range l[minArcs:] {
		body = append(body, numberBytes(n)...)
	}
	return body, nil
}

func isOid(l []uint64) bool {
	if len(l) < minArcs || len(l) > api.MaxArcs {
		return false
	}
	if l[0] > lastRoot || l[0] < lastRoot && l[1] >= rootUnit {
		return false
	}
	for _, n := range l {
		if n > maxArc {
			return false
		}
	}
	return true
}

// areNumbers tells whether a body is one number or more, each of them whole and in as few bytes as can be.
func areNumbers(body []byte) bool {
	ended := true
	for _, x := range body {
		if ended && x == moreBit {
			return false
		}
		ended = x < moreBit
	}
	return ended && len(body) > 0
}

// cutNumber is the number that a body begins with, and what is behind it.
func cutNumber(body []byte) (uint64, []byte) {
	n, size := uint64(0), 0
	for _, x := range body {
		n = min(n<<sevenBits|uint64(x%moreBit), beyond)
		size++
		if x < moreBit {
			break
		}
	}
	return n, body[size:]
}

// numberBytes is a number, seven bits a byte.
func numberBytes(n uint64) []byte {
	all := []byte{byte(n % moreBit)}
	for n >>= sevenBits; n > 0; n >>= sevenBits {
		all = append(all, byte(n%moreBit)+moreBit)
	}
	slices.Reverse(all)
	return all
}
