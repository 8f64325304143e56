package cert

import (
	"bytes"
	"math/rand"
	"strings"
	"testing"

	"escutcheon/api"
	"escutcheon/curve"
)

// P17.1

func checkBody(t *testing.T, what string, c api.Cert) {
	t.Helper()
	want := wantBody(c)
	if got, err := Body(c); err != nil || !bytes.Equal(got, want) {
		t.Errorf("%s: Body(%+v) = %x, %v; want %x", what, c, got, err, want)
	}
}

func checkNoBody(t *testing.T, what string, c api.Cert) {
	t.Helper()
	if got, err := Body(c); err != api.ErrArg || len(got) > 0 {
		t.Errorf("%s: Body(%+v) = %x, %v; want ErrArg itself", what, c, got, err)
	}
}

// point is what stands in the bodies below for the key's bytes, which are long.
const point = "30 76 30 10 06 07 2a8648ce3d0201 06 05 2b81040022 03 62 00" +
	"04 aa87ca22be8b05378eb1c71ef320ad746e1d3b628ba79b9859f741e082542a385502f25dbf55296c3a545e3872760ab7" +
	"3617de4a96262c6f5d9e98bf9292dc29f8f41dbd289a147ce9da3113b5f0b8c00a60b1ce1d7e819d7a431d7c90ea0e5f"

// bareBody is the body of bare, but for its extensions.
const bareBody = "a0 03 02 01 02" + "02 01 01" + "30 0a 06 08 2a8648ce3d040303" + "30 00" +
	"30 1e 17 0d 3730303130313030303031305a 17 0d 3730303130313030303032305a" + "30 00" + point

// only is the one extension of bare, and the first one of others that are no Ca.
const only = "30 0c 06 03 551d13 01 01 ff 04 02 30 00"

func TestBodiesWrittenOut(t *testing.T) {
	ca := func(path int) api.Cert { c := bare(); c.Ca, c.Path = true, path; return c }
	usage := func(usage int) api.Cert { c := bare(); c.Usage = usage; return c }
	uses, names := bare(), bare()
	uses.Uses = [][]uint64{{1, 3, 6, 1, 4, 1, 4711, 1}}
	names.Permit, names.Exclude = []api.Name{{common("a")}}, []api.Name{nil}
	for _, c := range []struct {
		c          api.Cert
		head, tail string
	}{
		{bare(), "30 81c2", "a3 10 30 0e" + only},
		{ca(-1), "30 81c5", "a3 13 30 11 30 0f 06 03 551d13 01 01 ff 04 05 30 03 01 01 ff"},
		{ca(0), "30 81c8", "a3 16 30 14 30 12 06 03 551d13 01 01 ff 04 08 30 06 01 01 ff 02 01 00"},
		{ca(128), "30 81c9", "a3 17 30 15 30 13 06 03 551d13 01 01 ff 04 09 30 07 01 01 ff 02 02 0080"},
		{ca(1<<31 - 1), "30 81cb", "a3 19 30 17 30 15 06 03 551d13 01 01 ff 04 0b 30 09 01 01 ff 02 04 7fffffff"},
		{usage(1), "30 81d2", "a3 20 30 1e" + only + "30 0e 06 03 551d0f 01 01 ff 04 04 03 02 07 80"},
		{usage(96), "30 81d2", "a3 20 30 1e" + only + "30 0e 06 03 551d0f 01 01 ff 04 04 03 02 01 06"},
		{usage(128), "30 81d2", "a3 20 30 1e" + only + "30 0e 06 03 551d0f 01 01 ff 04 04 03 02 00 01"},
		{usage(255), "30 81d2", "a3 20 30 1e" + only + "30 0e 06 03 551d0f 01 01 ff 04 04 03 02 00 ff"},
		{usage(256), "30 81d3", "a3 21 30 1f" + only + "30 0f 06 03 551d0f 01 01 ff 04 05 03 03 07 0080"},
		{usage(32768), "30 81d3", "a3 21 30 1f" + only + "30 0f 06 03 551d0f 01 01 ff 04 05 03 03 00 0001"},
		{usage(65535), "30 81d3", "a3 21 30 1f" + only + "30 0f 06 03 551d0f 01 01 ff 04 05 03 03 00 ffff"},
		{uses, "30 81d7", "a3 25 30 23" + only + "30 13 06 03 551d25 04 0c 30 0a 06 08 2b06010401a46701"},
		{
			names, "30 81ec", "a3 3a 30 38" + only + "30 28 06 03 551d1e 01 01 ff 04 1e 30 1c" +
				"a0 12 30 10 a4 0e 30 0c 31 0a 30 08 06 03 550403 0c 01 61" + "a1 06 30 04 a4 02 30 00",
		},
	} {
		want := bytesFrom(c.head + bareBody + c.tail)
		if got, err := Body(c.c); err != nil || !bytes.Equal(got, want) {
			t.Errorf("Body(%+v) = %x, %v; want %x", c.c, got, err, want)
		}
		checkBody(t, "written out", c.c)
	}
}

// The chapter's example.
func TestTheZeroCertificateHasNoBody(t *testing.T) { checkNoBody(t, "the zero value", api.Cert{}) }

func TestBodiesOfAllThatMayBe(t *testing.T) {
	for _, one := range rightChanges() {
		for _, c := range []api.Cert{bare(), full()} {
			one.do(&c)
			checkBody(t, one.what, c)
		}
	}
}

func TestBodiesOfTwoThingsAtOnce(t *testing.T) {
	all := rightChanges()
	for _, one := range all {
		for _, other := range all {
			c := bare()
			one.do(&c)
			other.do(&c)
			checkBody(t, one.what+", "+other.what, c)
		}
	}
}

func TestManyBodies(t *testing.T) {
	r := rand.New(rand.NewSource(1))
	all := rightChanges()
	for range 10000 {
		checkBody(t, "at random", someCert(r, all))
	}
}

func TestEveryUsage(t *testing.T) {
	for usage := -300; usage < 1<<16+300; usage++ {
		c := bare()
		c.Usage = usage
		if usage == -1 || usage > 0 && usage < 1<<16 {
			checkBody(t, "Usage", c)
		} else {
			checkNoBody(t, "Usage", c)
		}
	}
}

// The greatest body that there is.
func TestTheGreatestBody(t *testing.T) {
	text := strings.Repeat("~", 64)
	var n api.Name
	for range 8 {
		n = append(n, org(text))
	}
	c := full()
	c.Serial = bytes.Repeat([]byte{0xff}, 20)
	c.Issuer, c.Subject = n, n
	c.From, c.To = lastTime, lastTime
	c.Path, c.Usage = 1<<31-1, 65535
	c.Uses, c.Permit, c.Exclude = nil, nil, nil
	for range 8 {
		c.Uses = append(c.Uses, longId(16))
		c.Permit, c.Exclude = append(c.Permit, n), append(c.Exclude, n)
	}
	checkBody(t, "the greatest", c)
	checkRound(t, c, lastSig())
}

func TestNothingThatMayNotBe(t *testing.T) {
	for _, one := range wrongChanges() {
		for _, c := range []api.Cert{bare(), full(), {}} {
			one.do(&c)
			checkNoBody(t, one.what, c)
		}
	}
}

// Whatever else is amiss: there is one error.
func TestTwoThingsAmiss(t *testing.T) {
	all := wrongChanges()
	for _, one := range all {
		for _, other := range all {
			c := full()
			one.do(&c)
			other.do(&c)
			checkNoBody(t, one.what+", "+other.what, c)
		}
	}
}

// One thing is amiss amidst many that may be.
func TestOneThingAmiss(t *testing.T) {
	right := rightChanges()
	for i, one := range wrongChanges() {
		for k, other := range right {
			if (i+k)%3 > 0 {
				continue
			}
			c := full()
			other.do(&c)
			one.do(&c)
			checkNoBody(t, other.what+", "+one.what, c)
		}
	}
}

// A zero Usage, or Path, of who didn't think of it isn't taken for none.
func TestZeroIsNotMissing(t *testing.T) {
	c := api.Cert{Serial: []byte{1}, Key: curve.G(), Path: -1}
	checkNoBody(t, "Usage 0", c)
	c.Usage, c.Path = -1, 0
	checkNoBody(t, "Path 0", c)
	c.Ca = true
	checkBody(t, "Path 0 with Ca", c)
}
