package gcm

import (
	"bytes"
	"strconv"
	"testing"

	"escutcheon/api"
)

// P11.1

// wantFault is what the document refuses by lengths alone, 0 for nothing: what it names first.
func wantFault(key, nonce, aad, b, most int) api.Code {
	if key != 32 || nonce != 12 {
		return api.ErrArg
	}
	if aad > 16777232 || b > most {
		return api.ErrLong
	}
	return 0
}

func keysNamed() [][]byte {
	return [][]byte{nil, {}, make([]byte, 31), make([]byte, 32), make([]byte, 33), make([]byte, 64)[:31], make([]byte, 64)[:32], make([]byte, 16), make([]byte, 64)}
}

func noncesNamed() [][]byte {
	return [][]byte{nil, {}, make([]byte, 11), make([]byte, 12), make([]byte, 13), make([]byte, 16)[:11], make([]byte, 16)[:12], make([]byte, 16), make([]byte, 32)}
}

// long are noughts enough to be cut to every length that the document names.
func long() []byte { return make([]byte, api.MaxSealed+1) }

// Each key with each nonce, aad and b: where more than one is amiss, the first counts.
func TestWrongLengthsOfSeal(t *testing.T) {
	all := long()
	for _, key := range keysNamed() {
		for _, nonce := range noncesNamed() {
			for _, n := range []int{0, 1, 16777233} {
				for _, m := range []int{0, 1, 16777217, 16777232, 16777233} {
					got, err := Seal(key, nonce, all[:n], all[:m])
					if want := wantFault(len(key), len(nonce), n, m, 16777216); want != 0 {
						checkRefused(t, told("Seal", len(key), len(nonce), n, m), got, err, want)
					} else if err != nil || len(got) != m+16 {
						t.Errorf("%s: %d bytes, %v", told("Seal", len(key), len(nonce), n, m), len(got), err)
					}
				}
			}
		}
	}
}

func TestWrongLengthsOfOpen(t *testing.T) {
	all := long()
	for _, key := range keysNamed() {
		for _, nonce := range noncesNamed() {
			for _, n := range []int{0, 1, 16777233} {
				for _, m := range []int{0, 15, 16, 17, 16777233} {
					// Noughts are no seal: what isn't refused by its length is so by its tag.
					want := wantFault(len(key), len(nonce), n, m, 16777232)
					if want == 0 && m < 16 {
						want = api.ErrShort
					} else if want == 0 {
						want = api.ErrTag
					}
					got, err := Open(key, nonce, all[:n], all[:m])
					checkRefused(t, told("Open", len(key), len(nonce), n, m), got, err, want)
				}
			}
		}
	}
}

// Also a seal that fits is refused, if its key or nonce has bytes too many or too few.
func TestWrongKeysAndNoncesOfASeal(t *testing.T) {
	p, aad, b := pairs()[2], bytesOf(3, 36), bytesOf(20, 37)
	sealed := wantSeal(t, p.key, p.nonce, aad, b)
	for n := range 80 {
		if n != 32 {
			got, err := Open(bytesOf(n, 1), p.nonce, aad, sealed)
			checkRefused(t, told("Open", n, 12, 3, 36), got, err, api.ErrArg)
			got, err = Seal(bytesOf(n, 1), p.nonce, aad, b)
			checkRefused(t, told("Seal", n, 12, 3, 20), got, err, api.ErrArg)
		}
		if n != 12 {
			got, err := Open(p.key, bytesOf(n, 2), aad, sealed)
			checkRefused(t, told("Open", 32, n, 3, 36), got, err, api.ErrArg)
			got, err = Seal(p.key, bytesOf(n, 2), aad, b)
			checkRefused(t, told("Seal", 32, n, 3, 20), got, err, api.ErrArg)
		}
	}
}

func told(call string, lengths ...int) string {
	for _, n := range lengths {
		call += " " + strconv.Itoa(n)
	}
	return call
}

// What goes along may have as many bytes as a seal, which are more than may be sealed.
func TestLongestAad(t *testing.T) {
	t.Parallel()
	p := pairs()[2]
	for _, n := range []int{16777216, 16777217, 16777231, 16777232} {
		aad, b := bytesOf(n, 38), bytesOf(5, 39)
		checkSeal(t, p, aad, b)
		checkOpen(t, p, aad, wantSeal(t, p.key, p.nonce, aad, b), b)
	}
}

func TestLongestSeal(t *testing.T) {
	t.Parallel()
	checkSeal(t, pairs()[2], bytesOf(16777232, 40), bytesOf(16777216, 41))
}

func TestLongestOpen(t *testing.T) {
	t.Parallel()
	p, aad, b := pairs()[2], bytesOf(16777232, 42), bytesOf(16777216, 43)
	sealed := wantSeal(t, p.key, p.nonce, aad, b)
	if len(sealed) != api.MaxSealed {
		t.Fatalf("the longest seal has %d bytes", len(sealed))
	}
	checkOpen(t, p, aad, sealed, b)
	got, err := Open(p.key, p.nonce, aad, turned(sealed, 8*len(sealed)-1))
	checkRefused(t, "the longest seal with its last bit turned", got, err, api.ErrTag)
	got, err = Open(p.key, p.nonce, aad, turned(sealed, 8*16777215))
	checkRefused(t, "the longest seal with a bit turned ahead of its tag", got, err, api.ErrTag)
	// One byte more is too many, whether its tag fits or not.
	sealed = wantSeal(t, p.key, p.nonce, nil, append(b, 0))
	got, err = Open(p.key, p.nonce, nil, sealed)
	checkRefused(t, "a seal that is too long", got, err, api.ErrLong)
	got, err = Open(p.key, p.nonce, nil, bytes.Repeat([]byte{1}, len(sealed)))
	checkRefused(t, "other bytes that are too long", got, err, api.ErrLong)
}
