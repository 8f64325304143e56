package manifest

import (
	"bytes"
	"math/rand"
	"slices"
	"strings"
	"testing"

	"escutcheon/api"
	"escutcheon/der"
)

// P20.1: Decode

func checkDecode(t *testing.T, what string, b []byte, want api.Manifest) {
	t.Helper()
	if got, err := Decode(b); err != nil || !sameManifest(got, want) {
		t.Errorf("%s: Decode(%s) = %+v, %v; want %+v", what, short(b), got, err, want)
	}
}

// checkNoManifest asks for ErrForm itself.
func checkNoManifest(t *testing.T, what string, b []byte) {
	t.Helper()
	if got, err := Decode(b); err != api.ErrForm || !isZero(got) {
		t.Errorf("%s: Decode(%s) = %+v, %v; want ErrForm itself", what, short(b), got, err)
	}
}

func isZero(m api.Manifest) bool { return sameManifest(m, api.Manifest{}) }

// checkBoth holds Decode against der.Parse's error, or what the library reads; it tells whether that is
// a manifest.
func checkBoth(t *testing.T, what string, b []byte) bool {
	t.Helper()
	if _, want := der.Parse(b); want != nil {
		if got, err := Decode(b); !sameError(err, want) || !isZero(got) {
			t.Errorf("%s: Decode(%s) = %+v, %v; want %v", what, short(b), got, err, want)
		}
		return false
	}
	want, ok := wantDecode(b)
	if !ok {
		checkNoManifest(t, what, b)
		return false
	}
	checkDecode(t, what, b, want)
	return true
}

// checkTree is checkBoth of an element, which must be one that can be told.
func checkTree(t *testing.T, what string, x api.Tlv) bool {
	t.Helper()
	return checkBoth(t, what, written(x))
}

func checkRead(t *testing.T, what string, x api.Tlv) {
	t.Helper()
	if !checkTree(t, what, x) {
		t.Errorf("%s: that is a manifest", what)
	}
}

func checkNotRead(t *testing.T, what string, x api.Tlv) {
	t.Helper()
	if checkTree(t, what, x) {
		t.Errorf("%s: that is none", what)
	}
}

func treeOf(m api.Manifest) api.Tlv { return tree(wantBytes(m)) }

func TestNoManifestsWrittenOut(t *testing.T) {
	for _, told := range []string{
		"30 00", // the chapter's
		"05 00", "31 00", "02 01 01", "10 00", "a0 00", "70 00", "24 00", "30 0e" + strings.Repeat("05 00", 7), "30 0e" + strings.Repeat("30 00", 7),
		"30 15" + strings.Repeat("02 01 01", 7),
		"30 12" + strings.Repeat("02 01 01", 4) + strings.Repeat("04 00", 3),
	} {
		checkNoManifest(t, told, bytesFrom(told))
		checkBoth(t, told, bytesFrom(told))
	}
	checkNoManifest(t, "a manifest in a list", written(made(16, treeOf(full()))))
	checkNoManifest(t, "a signed manifest", wantSign(wantBytes(full()), someSig()))
}

func TestReadsAllThatMayBe(t *testing.T) {
	for _, one := range rightChanges() {
		for _, m := range []api.Manifest{zero(), full()} {
			one.do(&m)
			b := wantBytes(m)
			checkDecode(t, one.what, b, m)
			if !checkBoth(t, one.what, b) {
				t.Errorf("%s: the library doesn't read it", one.what)
			}
		}
	}
}

// What der.Parse refuses is refused with its error, at its place.
func TestNoElements(t *testing.T) {
	for _, b := range noElements(wantBytes(full())) {
		if _, err := der.Parse(b); err == nil {
			t.Errorf("%s is an element", short(b))
		}
		checkBoth(t, "no element", b)
	}
	// No manifest either, but that isn't told.
	for _, c := range []struct {
		told string
		want api.Spot
	}{
		{"", api.Spot{At: 0, Err: api.ErrShort}},
		{"30 00 00", api.Spot{At: 2, Err: api.ErrMore}},
		{"1f 00", api.Spot{At: 0, Err: api.ErrForm}},
		{"30 02 02 80", api.Spot{At: 3, Err: api.ErrForm}},
		{"30 02 02 01", api.Spot{At: 3, Err: api.ErrShort}},
	} {
		if got, err := Decode(bytesFrom(c.told)); !sameError(err, &c.want) || !isZero(got) {
			t.Errorf("Decode(%s) = %+v, %v", c.told, got, err)
		}
	}
	if got, err := Decode(make([]byte, 1<<20+1)); err != api.ErrLong || !isZero(got) {
		t.Error(got, err)
	}
	// Amiss behind a manifest that is one.
	b := append(wantBytes(full()), 5)
	if _, err := Decode(b); !sameError(err, &api.Spot{At: len(b) - 1, Err: api.ErrMore}) {
		t.Error(err)
	}
}

// Too deep anywhere in it: der.Parse's error is told, though what is there is no manifest at any depth.
func TestTooDeepAnywhere(t *testing.T) {
	x := treeOf(full())
	for _, way := range places(x) {
		for _, depth := range []int{14, 15, 16, 17} {
			b := unbounded(replaced(x, way, nested(depth)))
			if checkBoth(t, "deep", b) {
				t.Error(way, depth)
			}
			if _, err := Decode(b); (err == api.ErrForm) != (depth+len(way) <= 16) {
				t.Errorf("depth %d at %v: %v", depth, way, err)
			}
		}
	}
}

// Of six, of seven and of eight elements, and of others.
func TestOtherCounts(t *testing.T) {
	x := treeOf(full())
	with := func(kids ...api.Tlv) api.Tlv { return made(16, kids...) }
	for n := range 7 {
		checkNotRead(t, "the first ones", with(x.Kids[:n]...))
		checkNotRead(t, "the last ones", with(x.Kids[7-n:]...))
	}
	checkRead(t, "seven", with(x.Kids...))
	for i := range 8 {
		for _, more := range []api.Tlv{leaf(5, ""), leaf(2, "00"), leaf(4, ""), made(16), x.Kids[min(i, 6)]} {
			checkNotRead(t, "one more", with(slices.Insert(slices.Clone(x.Kids), i, more)...))
		}
	}
	for i := range 7 {
		checkNotRead(t, "one fewer", with(slices.Delete(slices.Clone(x.Kids), i, i+1)...))
	}
	for n := 8; n < 30; n++ {
		checkNotRead(t, "many more", with(append(slices.Clone(x.Kids), slices.Repeat([]api.Tlv{leaf(2, "01")}, n-7)...)...))
	}
	checkNotRead(t, "twice", with(slices.Concat(x.Kids, x.Kids)...))
}

// They stand in one order. Two numbers, that both are small, may be exchanged.
func TestOtherOrders(t *testing.T) {
	x := treeOf(full())
	for i := range 7 {
		for k := range i {
			kids := slices.Clone(x.Kids)
			kids[i], kids[k] = kids[k], kids[i]
			if got := checkTree(t, "two exchanged", made(16, kids...)); got != (i < 4) {
				t.Errorf("elements %d and %d exchanged: %v", k, i, got)
			}
		}
	}
}

// Every class, tag and making, of the list and of each of the seven.
func TestOtherHeadsAtEveryPlace(t *testing.T) {
	for _, m := range []api.Manifest{zero(), full()} {
		x := treeOf(m)
		for _, way := range places(x) {
			right := headsTaken(x, way, func(x api.Tlv) bool { return checkTree(t, "another head", x) })
			if right != 1 {
				t.Errorf("%d heads were taken at %v; want 1", right, way)
			}
		}
	}
}

// One that is made holds what would be right, were it not: as an element, or as bytes that are one.
func TestMadeAtEveryPlace(t *testing.T) {
	x := treeOf(full())
	for i, kid := range x.Kids {
		for _, other := range []api.Tlv{
			made(kid.Tag), made(kid.Tag, kid), made(16, kid), made(17, kid), {Class: 2, Tag: i, Made: true, Kids: []api.Tlv{kid}},
			{Class: 2, Tag: i, Body: kid.Body}, {Tag: 16, Body: kid.Body}, {Tag: 3, Body: append([]byte{0}, kid.Body...)},
		} {
			checkNotRead(t, "made", replaced(x, []int{i}, other))
		}
	}
	// Bytes that are elements, so that they can be told as made of these.
	m := full()
	m.Nonce, m.Wrapped, m.Digest = bytes.Repeat([]byte{5, 0}, 6), append([]byte{4, 1, 9}, bytes.Repeat([]byte{5, 0}, 71)...), bytes.Repeat([]byte{5, 0}, 24)
	x = treeOf(m)
	checkRead(t, "bytes that are elements", x)
	for i := 4; i < 7; i++ {
		b := written(x.Kids[i])
		b[0] |= 0x20
		checkNotRead(t, "made of elements", replaced(x, []int{i}, tree(b)))
	}
	b := written(x)
	b[0] &^= 0x20
	checkNotRead(t, "a list that isn't made", tree(b))
}

func TestNumbersInEachPlace(t *testing.T) {
	x := treeOf(full())
	for place := range 4 {
		for _, c := range []struct {
			told string
			want bool
		}{
			{"00", true}, {"01", true}, {"7f", true}, {"0080", true}, {"00ff", true}, {"0100", true}, {"7fff", true}, {"008000", true}, {"00ffff", true}, {"00800000", true}, {"01000000", true}, {"7fffffff", true},
			// Below 0.
			{"80", false}, {"ff", false}, {"ff7f", false}, {"8000", false}, {"80000000", false}, {"ffffffff", false}, {"ff00000000", false},
			// With a nought too many.
			{"0000", false}, {"0001", false}, {"007f", false}, {"000080", false}, {"000100", false}, {"007fffff", false}, {"007fffffff", false}, {"0000ffff", false},
			// Above 2^31 - 1.
			{"0080000000", false}, {"00ffffffff", false}, {"0100000000", false}, {"0100000001", false}, {"7fffffffff", false}, {"010000000000000001", false}, {"00ffffffffffffffff", false},
			{"01" + strings.Repeat("00", 63), false}, {"00ff" + strings.Repeat("00", 63), false}, {"01" + strings.Repeat("00", 64), false}, {"00ff" + strings.Repeat("00", 64), false}, {"01" + strings.Repeat("00", 299) + "05", false},
			// None.
			{"", false},
		} {
			if got := checkTree(t, "number "+c.told, replaced(x, []int{place}, leaf(2, c.told))); got != c.want {
				t.Errorf("number %s in place %d: %v", c.told, place, got)
			}
		}
		for n := range 256 {
			checkTree(t, "a number of one byte", replaced(x, []int{place}, api.Tlv{Tag: 2, Body: []byte{byte(n)}}))
			checkTree(t, "a number of two", replaced(x, []int{place}, api.Tlv{Tag: 2, Body: []byte{0, byte(n)}}))
			checkTree(t, "a number of five", replaced(x, []int{place}, api.Tlv{Tag: 2, Body: []byte{0, byte(n), 0, 0, 0}}))
		}
	}
}

func TestCountsOfBytesInEachPlace(t *testing.T) {
	x := treeOf(full())
	for place, size := range rowSizes() {
		for n := range 400 {
			other := replaced(x, []int{4 + place}, api.Tlv{Tag: 4, Body: row(n, 0x33)})
			if got := checkTree(t, "bytes", other); got != (n == size) {
				t.Errorf("%d bytes in place %d: %v", n, place, got)
			}
		}
	}
	// None is where it belongs, though all are there.
	for _, order := range [][3]int{{4, 6, 5}, {5, 4, 6}, {5, 6, 4}, {6, 4, 5}, {6, 5, 4}} {
		kids := slices.Clone(x.Kids[:4])
		for _, i := range order {
			kids = append(kids, x.Kids[i])
		}
		checkNotRead(t, "in another order", made(16, kids...))
	}
}

func TestEveryChangeAtEveryPlace(t *testing.T) {
	right, wrong := 0, 0
	for _, m := range []api.Manifest{zero(), full()} {
		x := treeOf(m)
		for _, way := range places(x) {
			for _, change := range elementChanges() {
				if checkTree(t, "a change", changed(x, way, change)) {
					right++
				} else {
					wrong++
				}
			}
		}
	}
	if right < 100 || wrong < 250 {
		t.Error(right, wrong)
	}
}

// More than one thing is amiss in one manifest.
func TestManyChanges(t *testing.T) {
	r := rand.New(rand.NewSource(4))
	right := 0
	for range 20000 {
		x := treeOf(someManifest(r))
		for range 1 + r.Intn(3) {
			x = changed(x, someOf(r, places(x)), someOf(r, elementChanges()))
		}
		if b, err := der.Write(x); err == nil && checkBoth(t, "some changes", b) {
			right++
		}
	}
	if right < 500 {
		t.Error(right)
	}
}

// One byte is another one, anywhere.
func TestOtherBytesAtEveryPlace(t *testing.T) {
	m := full()
	m.Version, m.Class, m.Load, m.Length = 0, 127, 128, 1<<31-1
	right := wantBytes(m)
	read := 0
	for place := range right {
		for x := range 256 {
			b := bytes.Clone(right)
			b[place] = byte(x)
			if checkBoth(t, "another byte", b) {
				read++
			}
		}
	}
	if read < 205*256 {
		t.Error(read)
	}
}

func TestAnyBytes(t *testing.T) {
	r := rand.New(rand.NewSource(5))
	right := wantBytes(full())
	for range 20000 {
		b := make([]byte, r.Intn(100))
		r.Read(b)
		checkBoth(t, "any bytes", b)
		b = bytes.Clone(right)
		for range 1 + r.Intn(4) {
			b[r.Intn(30)] = byte(r.Intn(256))
		}
		checkBoth(t, "some other bytes", b)
		from := r.Intn(len(right))
		checkBoth(t, "some bytes left out", slices.Delete(bytes.Clone(right), from, min(from+r.Intn(9), len(right))))
	}
}
