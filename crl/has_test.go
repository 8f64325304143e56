package crl

import (
	"bytes"
	"math/rand"
	"slices"
	"testing"

	"escutcheon/api"
)

// P18.3

func checkHas(t *testing.T, c api.Crl, serial []byte, want bool) {
	t.Helper()
	if got := Has(c, serial); got != want {
		t.Errorf("Has(%+v, %x) = %v", c.Gone, serial, got)
	}
}

// with is a list that revokes these serial numbers.
func with(serials ...string) api.Crl {
	c := bare()
	for i, told := range serials {
		c.Gone = append(c.Gone, api.Gone{Serial: bytesFrom(told), At: int64(i)})
	}
	return c
}

func TestHasOfNone(t *testing.T) {
	for _, c := range []api.Crl{{}, bare(), {Gone: []api.Gone{}}} {
		for _, told := range append(someSerials(), noSerials()...) {
			checkHas(t, c, bytesFrom(told), false)
		}
		checkHas(t, c, nil, false)
	}
}

func TestHasWrittenOut(t *testing.T) {
	one := with("0102")
	many := with("09", "0102", "ff", "80", "7fffff", "0a0b0c")
	for _, c := range []struct {
		c    api.Crl
		told string
		want bool
	}{
		{one, "0102", true}, {many, "0102", true}, {many, "09", true}, {many, "ff", true}, {many, "80", true}, {many, "7fffff", true}, {many, "0a0b0c", true},
		// One that is there begins with it, or it begins with one that is there; or they end alike.
		{one, "01", false}, {one, "010200", false}, {one, "010203", false}, {one, "02", false}, {one, "ff0102", false}, {one, "000102", false}, {one, "0201", false}, {one, "", false},
		{many, "01", false}, {many, "010200", false}, {many, "0a0b", false}, {many, "0a", false}, {many, "0b0c", false}, {many, "0a0b0c00", false}, {many, "", false}, {many, "00", false},
		// Another first, middle or last byte.
		{many, "0a0b0d", false}, {many, "0a0c0c", false}, {many, "0b0b0c", false}, {many, "08", false}, {many, "0a", false}, {many, "0080", false}, {many, "00ff", false},
		// All of them, one behind the other.
		{many, "090102ff807fffff0a0b0c", false}, {many, "090102", false},
	} {
		checkHas(t, c.c, bytesFrom(c.told), c.want)
	}
}

// What may be told as a serial number isn't asked: bytes are held against bytes.
func TestHasWhatIsNoSerial(t *testing.T) {
	for _, told := range noSerials() {
		checkHas(t, with(told), bytesFrom(told), true)
		checkHas(t, with("05", told, "06"), bytesFrom(told), true)
		for _, other := range append(someSerials(), noSerials()...) {
			checkHas(t, with(told), bytesFrom(other), told == other)
		}
	}
	none := api.Crl{Gone: []api.Gone{{}}}
	checkHas(t, none, nil, true)
	checkHas(t, none, []byte{}, true)
	checkHas(t, none, []byte{0}, false)
	checkHas(t, with(""), nil, true)
	// The same number, but other bytes.
	checkHas(t, with("0005"), []byte{5}, false)
	checkHas(t, with("05"), []byte{0, 5}, false)
	checkHas(t, with("00"), nil, false)
}

func TestHasOfTwoAlike(t *testing.T) {
	c := with("07", "07")
	checkHas(t, c, []byte{7}, true)
	checkHas(t, c, []byte{8}, false)
	c = with("05", "07", "06", "07")
	for _, told := range []string{"05", "06", "07"} {
		checkHas(t, c, bytesFrom(told), true)
	}
	checkHas(t, c, []byte{4}, false)
}

// Each of many, wherever it stands; more of them than Body takes, too.
func TestHasEachOfMany(t *testing.T) {
	for _, n := range []int{1, 2, 3, 63, 64, 65, 200} {
		c := bare()
		for i := range n {
			c.Gone = append(c.Gone, api.Gone{Serial: []byte{1, byte(i), 2}, At: int64(n - i)})
		}
		for i := range 256 {
			checkHas(t, c, []byte{1, byte(i), 2}, i < n)
			checkHas(t, c, []byte{1, byte(i)}, false)
			checkHas(t, c, []byte{1, byte(i), 2, 0}, false)
			checkHas(t, c, []byte{1, byte(i), 3}, false)
			checkHas(t, c, []byte{2, byte(i), 2}, false)
		}
	}
}

// What else the list tells isn't asked: neither when, nor by whom.
func TestHasAsksForSerialsAlone(t *testing.T) {
	for _, one := range append(rightChanges(), wrongChanges()...) {
		c := full()
		one.do(&c)
		was := c.Gone
		for _, at := range append(someTimes(), noTimes()...) {
			c.Gone = slices.Clone(was)
			for i := range c.Gone {
				c.Gone[i].At = at
			}
			checkHas(t, c, []byte{0xee, 0xdd, 1}, false)
			for _, g := range was {
				checkHas(t, c, g.Serial, true)
			}
			c.Gone = append(c.Gone, api.Gone{Serial: []byte{0xee, 0xdd, 1}, At: at})
			checkHas(t, c, []byte{0xee, 0xdd, 1}, true)
		}
	}
}

func TestHasAtRandom(t *testing.T) {
	r := rand.New(rand.NewSource(7))
	some := func() []byte {
		b := make([]byte, r.Intn(4))
		for i := range b {
			b[i] = byte(r.Intn(3))
		}
		return b
	}
	found := 0
	for range 20000 {
		var c api.Crl
		for range r.Intn(8) {
			c.Gone = append(c.Gone, api.Gone{Serial: some(), At: r.Int63()})
		}
		serial, want := some(), false
		for _, g := range c.Gone {
			want = want || string(g.Serial) == string(serial)
		}
		checkHas(t, c, serial, want)
		found += count(want)
	}
	if found < 1000 || found > 19000 {
		t.Error(found)
	}
}

// A list that was read has just those that were told.
func TestHasOfWhatWasRead(t *testing.T) {
	c := full()
	c.Gone = gones(64)
	got, err := Decode(wantCrl(wantBody(c), someSig()))
	if err != nil {
		t.Fatal(err)
	}
	for _, g := range c.Gone {
		checkHas(t, got, g.Serial, true)
		checkHas(t, got, append(bytes.Clone(g.Serial), 0), false)
		checkHas(t, got, append([]byte{0}, g.Serial...), false)
		checkHas(t, got, g.Serial[:len(g.Serial)-1], false)
	}
}
