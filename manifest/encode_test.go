package manifest

import (
	"bytes"
	"math"
	"math/rand"
	"strings"
	"testing"

	"escutcheon/api"
)

// P20.1: Encode

func checkEncode(t *testing.T, what string, m api.Manifest) {
	t.Helper()
	want := wantBytes(m)
	if got, err := Encode(m); err != nil || !bytes.Equal(got, want) {
		t.Errorf("%s: Encode(%+v) = %x, %v; want %x", what, m, got, err, want)
	}
}

// checkNotEncoded asks for ErrArg itself.
func checkNotEncoded(t *testing.T, what string, m api.Manifest) {
	t.Helper()
	if got, err := Encode(m); err != api.ErrArg || len(got) > 0 {
		t.Errorf("%s: Encode(%+v) = %x, %v; want ErrArg itself", what, m, got, err)
	}
}

// What a manifest that is all 0 holds as bytes.
func zeroRows() string {
	return "04 0c" + strings.Repeat("00", 12) + "04 81 91" + strings.Repeat("00", 145) + "04 30" + strings.Repeat("00", 48)
}

// writtenOut are manifests, and their bytes.
func writtenOut() []struct {
	m    api.Manifest
	told string
} {
	small, high, last, own := zero(), zero(), zero(), full()
	small.Version, small.Class, small.Load, small.Length = 3, 7, 16, 5
	high.Version, high.Class, high.Load, high.Length = 127, 128, 255, 256
	last.Version, last.Class, last.Load, last.Length = 0, math.MaxInt32, 1<<24, 1<<23
	own.Nonce = bytesFrom("00 01 02 03 04 05 06 07 08 09 0a 0b")
	own.Wrapped = append(bytesFrom("04"), bytes.Repeat([]byte{0xab}, 144)...)
	own.Digest = append(bytes.Repeat([]byte{0xcd}, 47), 0x80)
	return []struct {
		m    api.Manifest
		told string
	}{
		{zero(), "30 81 e0" + "02 01 00 02 01 00 02 01 00 02 01 00" + zeroRows()},
		{small, "30 81 e0" + "02 01 03 02 01 07 02 01 10 02 01 05" + zeroRows()},
		{high, "30 81 e3" + "02 01 7f 02 02 0080 02 02 00ff 02 02 0100" + zeroRows()},
		{last, "30 81 e9" + "02 01 00 02 04 7fffffff 02 04 01000000 02 04 00800000" + zeroRows()},
		{
			own, "30 81 e4" + "02 01 03 02 02 0080 02 02 0100 02 03 011170" +
				"04 0c 000102030405060708090a0b" + "04 81 91 04" + strings.Repeat("ab", 144) + "04 30" + strings.Repeat("cd", 47) + "80",
		},
	}
}

func TestManifestsWrittenOut(t *testing.T) {
	for _, c := range writtenOut() {
		want := bytesFrom(c.told)
		if got, err := Encode(c.m); err != nil || !bytes.Equal(got, want) {
			t.Errorf("Encode(%+v) = %x, %v; want %x", c.m, got, err, want)
		}
		checkEncode(t, "written out", c.m)
		checkDecode(t, "written out", want, c.m)
	}
}

func TestEncodesAllThatMayBe(t *testing.T) {
	for _, one := range rightChanges() {
		for _, m := range []api.Manifest{zero(), full()} {
			one.do(&m)
			checkEncode(t, one.what, m)
		}
	}
}

func TestEncodesTwoThingsAtOnce(t *testing.T) {
	all := rightChanges()
	for _, one := range all {
		for _, other := range all {
			m := full()
			one.do(&m)
			other.do(&m)
			checkEncode(t, one.what+", "+other.what, m)
		}
	}
}

func TestManyManifests(t *testing.T) {
	r := rand.New(rand.NewSource(1))
	for range 10000 {
		checkEncode(t, "at random", someManifest(r))
	}
}

func TestEveryNumberInEachPlace(t *testing.T) {
	for place := range 4 {
		for _, n := range []int{-1, 0, 127, 128, 255, 256, 1<<31 - 1, 1 << 31, math.MinInt, math.MaxInt} {
			m := full()
			*number(&m, place) = n
			if n >= 0 && n <= 1<<31-1 {
				checkEncode(t, "a number", m)
			} else {
				checkNotEncoded(t, "a number", m)
			}
		}
		for bit := range 64 {
			m := full()
			*number(&m, place) = 1 << bit
			if bit < 31 {
				checkEncode(t, "a bit", m)
			} else {
				checkNotEncoded(t, "a bit", m)
			}
			*number(&m, place) = -1 << bit
			checkNotEncoded(t, "below 0", m)
		}
	}
}

func TestEveryCountOfBytes(t *testing.T) {
	for place, size := range rowSizes() {
		for n := range 600 {
			m := full()
			*rowOf(&m, place) = row(n, 3)
			if n == size {
				checkEncode(t, "bytes", m)
			} else {
				checkNotEncoded(t, "bytes", m)
			}
		}
	}
}

func TestNothingThatMayNotBe(t *testing.T) {
	checkNotEncoded(t, "the zero value", api.Manifest{})
	for _, one := range wrongChanges() {
		for _, m := range []api.Manifest{zero(), full(), {}} {
			one.do(&m)
			checkNotEncoded(t, one.what, m)
		}
	}
}

// Whatever else is amiss: there is one error.
func TestSeveralThingsAmiss(t *testing.T) {
	all := wrongChanges()
	for _, one := range all {
		for _, other := range all {
			m := full()
			one.do(&m)
			other.do(&m)
			checkNotEncoded(t, one.what+", "+other.what, m)
		}
	}
	m := api.Manifest{Version: -1, Class: 1 << 31, Load: math.MinInt, Length: math.MaxInt, Nonce: row(13, 0), Wrapped: row(144, 0)}
	checkNotEncoded(t, "all of it", m)
}

// One thing is amiss amidst many that may be.
func TestOneThingAmiss(t *testing.T) {
	for _, one := range wrongChanges() {
		for _, other := range rightChanges() {
			m := full()
			other.do(&m)
			one.do(&m)
			checkNotEncoded(t, other.what+", "+one.what, m)
		}
	}
}

// The bytes of two may be as many as they are to be together, and yet not one by one.
func TestBytesInEachOthersPlace(t *testing.T) {
	for _, sizes := range [][3]int{{145, 12, 48}, {48, 145, 12}, {12, 48, 145}, {48, 12, 145}, {145, 48, 12}, {13, 144, 48}, {12, 144, 49}, {11, 145, 49}} {
		m := full()
		for place, n := range sizes {
			*rowOf(&m, place) = row(n, 1)
		}
		checkNotEncoded(t, "bytes in each other's place", m)
	}
}

// What a manifest tells isn't asked here: that is Fits's.
func TestEncodesWhatDoesntFit(t *testing.T) {
	m := full()
	m.Version, m.Load, m.Length = 65, 17, 0
	checkEncode(t, "what doesn't fit", m)
}
