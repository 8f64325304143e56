package crl

import (
	"bytes"
	"math/rand"
	"slices"
	"strings"
	"testing"

	"escutcheon/api"
)

// P18.1

func checkBody(t *testing.T, what string, c api.Crl) {
	t.Helper()
	want := wantBody(c)
	if got, err := Body(c); err != nil || !bytes.Equal(got, want) {
		t.Errorf("%s: Body(%+v) = %x, %v; want %x", what, c, got, err, want)
	}
}

// checkNoBody asks for ErrArg itself.
func checkNoBody(t *testing.T, what string, c api.Crl) {
	t.Helper()
	if got, err := Body(c); err != api.ErrArg || len(got) > 0 {
		t.Errorf("%s: Body(%+v) = %x, %v; want ErrArg itself", what, c, got, err)
	}
}

// bodyStart is what stands ahead of the issuer; bareTimes are those of bare.
const (
	bodyStart = "02 01 01" + "30 0a 06 08 2a8648ce3d040303"
	bareTimes = "17 0d 3730303130313030303031305a" + "17 0d 3730303130313030303032305a"
)

func TestBodiesWrittenOut(t *testing.T) {
	named, one, high, two := bare(), bare(), bare(), bare()
	named.Issuer = api.Name{common("a")}
	one.Gone = []api.Gone{{Serial: []byte{9}, At: 5}}
	high.Gone = []api.Gone{{Serial: []byte{0x80}, At: firstTime}}
	two.Gone = []api.Gone{{Serial: []byte{2}, At: 10}, {Serial: []byte{1}, At: 20}}
	for _, c := range []struct {
		c    api.Crl
		want string
	}{
		{bare(), "30 2f" + bodyStart + "30 00" + bareTimes},
		{named, "30 3b" + bodyStart + "30 0c 31 0a 30 08 06 03 550403 0c 01 61" + bareTimes},
		{one, "30 45" + bodyStart + "30 00" + bareTimes + "30 14 30 12 02 01 09 17 0d 3730303130313030303030355a"},
		{high, "30 48" + bodyStart + "30 00" + bareTimes + "30 17 30 15 02 02 0080 18 0f 32303530303130313030303030305a"},
		{
			two, "30 59" + bodyStart + "30 00" + bareTimes + "30 28" +
				"30 12 02 01 02 17 0d 3730303130313030303031305a" + "30 12 02 01 01 17 0d 3730303130313030303032305a",
		},
		{
			api.Crl{This: firstUTC, Next: lastTime},
			"30 31" + bodyStart + "30 00" + "17 0d 3530303130313030303030305a" + "18 0f 39393939313233313233353935395a",
		},
		{
			api.Crl{This: firstTime, Next: lastUTC},
			"30 31" + bodyStart + "30 00" + "18 0f 32303530303130313030303030305a" + "17 0d 3439313233313233353935395a",
		},
	} {
		want := bytesFrom(c.want)
		if got, err := Body(c.c); err != nil || !bytes.Equal(got, want) {
			t.Errorf("Body(%+v) = %x, %v; want %x", c.c, got, err, want)
		}
		checkBody(t, "written out", c.c)
	}
}

// Nothing of the zero value is amiss: a name may have no parts, and 0 is a time.
func TestTheZeroListHasABody(t *testing.T) { checkBody(t, "the zero value", api.Crl{}) }

func TestBodiesOfAllThatMayBe(t *testing.T) {
	for _, one := range rightChanges() {
		for _, c := range []api.Crl{bare(), full()} {
			one.do(&c)
			checkBody(t, one.what, c)
		}
	}
}

func TestBodiesOfTwoThingsAtOnce(t *testing.T) {
	all := rightChanges()
	for _, one := range all {
		for _, other := range all {
			c := bare()
			one.do(&c)
			other.do(&c)
			checkBody(t, one.what+", "+other.what, c)
		}
	}
}

func TestManyBodies(t *testing.T) {
	r := rand.New(rand.NewSource(1))
	all := rightChanges()
	for range 10000 {
		checkBody(t, "at random", someCrl(r, all))
	}
}

func TestEveryCountOfGone(t *testing.T) {
	for n := range 200 {
		c := full()
		c.Gone = slices.Repeat(gones(1), n)
		if n <= 64 {
			checkBody(t, "Gone", c)
		} else {
			checkNoBody(t, "Gone", c)
		}
	}
}

func TestEveryLengthAndFirstByteOfASerial(t *testing.T) {
	for length := range 70 {
		for first := range 256 {
			c := bare()
			serial := make([]byte, length)
			if length > 0 {
				serial[0] = byte(first)
			}
			c.Gone = []api.Gone{{Serial: serial, At: 1}}
			if length >= 1 && length <= 20 && first > 0 {
				checkBody(t, "Serial", c)
			} else {
				checkNoBody(t, "Serial", c)
			}
		}
	}
}

// The greatest body that there is.
func TestTheGreatestBody(t *testing.T) {
	c := api.Crl{This: lastTime, Next: lastTime}
	for range 8 {
		c.Issuer = append(c.Issuer, org(strings.Repeat("~", 64)))
	}
	for range 64 {
		c.Gone = append(c.Gone, api.Gone{Serial: bytes.Repeat([]byte{0xff}, 20), At: lastTime})
	}
	checkBody(t, "the greatest", c)
	checkRound(t, c, api.Sig{R: overN(-1), S: overN(-1)})
}

func TestNothingThatMayNotBe(t *testing.T) {
	for _, one := range wrongChanges() {
		for _, c := range []api.Crl{bare(), full(), {}} {
			one.do(&c)
			checkNoBody(t, one.what, c)
		}
	}
}

// Whatever else is amiss: there is one error.
func TestTwoThingsAmiss(t *testing.T) {
	all := wrongChanges()
	for _, one := range all {
		for _, other := range all {
			c := full()
			one.do(&c)
			other.do(&c)
			checkNoBody(t, one.what+", "+other.what, c)
		}
	}
}

// One thing is amiss amidst many that may be.
func TestOneThingAmiss(t *testing.T) {
	for _, one := range wrongChanges() {
		for _, other := range rightChanges() {
			c := full()
			other.do(&c)
			one.do(&c)
			checkNoBody(t, other.what+", "+one.what, c)
		}
	}
}

// One that is revoked is amiss at each place of lists of all lengths.
func TestOneOfGoneAmiss(t *testing.T) {
	for n := range 64 {
		for place := range n + 1 {
			c := full()
			c.Gone = amid(n, place, api.Gone{Serial: []byte{0}, At: 1})
			checkNoBody(t, "a serial", c)
			c.Gone[place] = api.Gone{Serial: []byte{1}, At: lastTime + 1}
			checkNoBody(t, "a time", c)
			c.Gone[place].At--
			checkBody(t, "all right", c)
		}
	}
}
