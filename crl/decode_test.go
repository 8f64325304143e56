package crl

import (
	"bytes"
	"encoding/asn1"
	"math/rand"
	"slices"
	"strings"
	"testing"

	"escutcheon/api"
	"escutcheon/der"
)

// P18.2: Decode

func checkDecode(t *testing.T, what string, b []byte, want api.Crl) {
	t.Helper()
	if got, err := Decode(b); err != nil || !sameCrl(got, want) {
		t.Errorf("%s: Decode(%s) = %+v, %v; want %+v", what, short(b), got, err, want)
	}
}

// checkNoCrl asks for ErrForm itself.
func checkNoCrl(t *testing.T, what string, b []byte) {
	t.Helper()
	if got, err := Decode(b); err != api.ErrForm || !isZero(got) {
		t.Errorf("%s: Decode(%s) = %+v, %v; want ErrForm itself", what, short(b), got, err)
	}
}

func isZero(c api.Crl) bool { return sameCrl(c, api.Crl{}) }

// checkBoth holds Decode against der.Parse's error, or what the library reads; it tells whether that is
// a list of revoked ones.
func checkBoth(t *testing.T, what string, b []byte) bool {
	t.Helper()
	if _, want := der.Parse(b); want != nil {
		if got, err := Decode(b); !sameError(err, want) || !isZero(got) {
			t.Errorf("%s: Decode(%s) = %+v, %v; want %v", what, short(b), got, err, want)
		}
		return false
	}
	want, ok := wantDecode(b)
	if !ok {
		checkNoCrl(t, what, b)
		return false
	}
	checkDecode(t, what, b, want)
	return true
}

// checkTree is checkBoth of an element, which must be one that can be told.
func checkTree(t *testing.T, what string, x api.Tlv) bool {
	t.Helper()
	return checkBoth(t, what, written(x))
}

func checkRead(t *testing.T, what string, x api.Tlv) {
	t.Helper()
	if !checkTree(t, what, x) {
		t.Errorf("%s: that is a list of revoked ones", what)
	}
}

func checkNotRead(t *testing.T, what string, x api.Tlv) {
	t.Helper()
	if checkTree(t, what, x) {
		t.Errorf("%s: that is none", what)
	}
}

// sigTail stands behind a body: the algorithm, and a signature of 7 and 128.
const sigTail = "30 0a 06 08 2a8648ce3d040303" + "03 0a 00 30 07 02 01 07 02 02 0080"

func TestListsWrittenOut(t *testing.T) {
	sig := api.Sig{R: api.U384{7}, S: api.U384{128}}
	named, one, high := bare(), bare(), bare()
	named.Issuer = api.Name{common("a")}
	one.Gone = []api.Gone{{Serial: []byte{9}, At: 5}}
	high.Gone = []api.Gone{{Serial: []byte{0x80}, At: firstTime}}
	for _, c := range []struct {
		head, body string
		want       api.Crl
	}{
		{"30 49", "30 2f" + bodyStart + "30 00" + bareTimes, bare()},
		{"30 55", "30 3b" + bodyStart + "30 0c 31 0a 30 08 06 03 550403 0c 01 61" + bareTimes, named},
		{"30 5f", "30 45" + bodyStart + "30 00" + bareTimes + "30 14 30 12 02 01 09 17 0d 3730303130313030303030355a", one},
		{"30 62", "30 48" + bodyStart + "30 00" + bareTimes + "30 17 30 15 02 02 0080 18 0f 32303530303130313030303030305a", high},
	} {
		c.want.Body, c.want.Sig = bytesFrom(c.body), sig
		checkDecode(t, "written out", bytesFrom(c.head+c.body+sigTail), c.want)
	}
}

func TestNoListsWrittenOut(t *testing.T) {
	for _, told := range []string{
		"30 00", // the chapter's
		"05 00", "31 00", "02 01 01", "30 02 30 00", "30 04 30 00 30 00", "30 06 30 00 30 00 30 00", "10 00", "a0 00", "70 00", "24 00",
		// None is revoked, and an empty list tells it.
		"30 4b 30 31" + bodyStart + "30 00" + bareTimes + "30 00" + sigTail,
	} {
		checkNoCrl(t, told, bytesFrom(told))
	}
	checkNoCrl(t, "a body alone", wantBody(full()))
	checkNoCrl(t, "a list of revoked ones in a list", written(made(16, treeOf(full()))))
}

func TestReadsAllThatMayBe(t *testing.T) {
	for _, one := range rightChanges() {
		for _, c := range []api.Crl{bare(), full()} {
			one.do(&c)
			body := wantBody(c)
			for _, s := range []api.Sig{someSig(), lastSig()} {
				c.Body, c.Sig = body, s
				b := wantCrl(body, s)
				checkDecode(t, one.what, b, c)
				if !checkBoth(t, one.what, b) {
					t.Errorf("%s: the library doesn't read it", one.what)
				}
			}
		}
	}
}

func TestReadsEverySignature(t *testing.T) {
	for _, s := range rightSigs() {
		c := full()
		c.Body, c.Sig = wantBody(c), s
		checkDecode(t, "a signature", wantCrl(c.Body, s), c)
	}
}

// Where none is revoked nothing is told of it, however long a list the caller has.
func TestNoneGoneIsRead(t *testing.T) {
	for _, gone := range [][]api.Gone{nil, {}, gones(3)[:0]} {
		c := full()
		c.Gone = gone
		got, err := Decode(wantCrl(wantBody(c), someSig()))
		if err != nil || len(got.Gone) > 0 {
			t.Errorf("%+v, %v", got, err)
		}
	}
}

// What der.Parse refuses is refused with its error, at its place.
func TestNoElements(t *testing.T) {
	right := wantCrl(wantBody(full()), someSig())
	for i := range right {
		if checkBoth(t, "cut", right[:i]) {
			t.Error(i)
		}
	}
	long := append(right, make([]byte, 1<<20)...)
	for _, b := range [][]byte{
		nil, {}, {0x30}, {0x1f, 0}, {0x30, 0x80, 0, 0}, append(right, 0), append(right, right...), right[1:], long, long[:1<<20+1], long[:1<<20], make([]byte, 1<<20+1), make([]byte, 1<<20),
	} {
		if checkBoth(t, "no element", b) {
			t.Error(short(b))
		}
	}
	b := []byte{0x30, 0}
	for range 40 {
		b = append([]byte{0x30, byte(len(b))}, b...)
		checkBoth(t, "deep", b)
	}
	// No list of revoked ones either, but that isn't told.
	if _, err := Decode(bytesFrom("30 00 00")); !sameError(err, &api.Spot{At: 2, Err: api.ErrMore}) {
		t.Error(err)
	}
	if _, err := Decode(make([]byte, 1<<20+1)); err != api.ErrLong {
		t.Error(err)
	}
}

// Every class, tag and making at every place of a list.
func TestOtherHeadsAtEveryPlace(t *testing.T) {
	for _, c := range []api.Crl{bare(), full()} {
		x := treeOf(c)
		for _, way := range places(x) {
			right := headsTaken(x, way, func(x api.Tlv) bool { return checkTree(t, "another head", x) })
			if right != 1 {
				t.Errorf("%d heads were taken at %v; want 1", right, way)
			}
		}
	}
}

func TestEveryChangeAtEveryPlace(t *testing.T) {
	right, wrong := 0, 0
	for _, c := range []api.Crl{bare(), full()} {
		x := treeOf(c)
		for _, way := range places(x) {
			for _, change := range elementChanges() {
				if checkTree(t, "a change", changed(x, way, change)) {
					right++
				} else {
					wrong++
				}
			}
		}
	}
	if right < 100 || wrong < 500 {
		t.Error(right, wrong)
	}
}

// More than one thing is amiss in one list.
func TestManyChanges(t *testing.T) {
	r := rand.New(rand.NewSource(4))
	all := rightChanges()
	for range 20000 {
		x := treeOf(someCrl(r, all))
		for range 2 + r.Intn(2) {
			x = changed(x, someOf(r, places(x)), someOf(r, elementChanges()))
		}
		if b, err := der.Write(x); err == nil {
			checkBoth(t, "some changes", b)
		}
	}
}

// One bit, or one byte, is another one, anywhere.
func TestOtherBytesAtEveryPlace(t *testing.T) {
	one := bare()
	one.Issuer, one.Gone = api.Name{common("a")}, []api.Gone{{Serial: []byte{9}, At: 5}}
	right := wantCrl(wantBody(one), api.Sig{R: api.U384{7}, S: api.U384{128}})
	read := 0
	for place := range right {
		for x := range 256 {
			b := bytes.Clone(right)
			b[place] = byte(x)
			read += count(checkBoth(t, "another byte", b))
		}
	}
	right = wantCrl(wantBody(full()), someSig())
	for place := range right {
		for bit := range 8 {
			b := bytes.Clone(right)
			b[place] ^= 1 << bit
			read += count(checkBoth(t, "another bit", b))
		}
	}
	if read < 1000 {
		t.Error(read)
	}
}

func TestAnyBytes(t *testing.T) {
	r := rand.New(rand.NewSource(5))
	right := wantCrl(wantBody(full()), someSig())
	for range 20000 {
		b := make([]byte, r.Intn(100))
		r.Read(b)
		checkBoth(t, "any bytes", b)
		b = bytes.Clone(right)
		for range 1 + r.Intn(4) {
			b[r.Intn(len(b))] = byte(r.Intn(256))
		}
		checkBoth(t, "some other bytes", b)
		from := r.Intn(len(right))
		checkBoth(t, "some bytes left out", slices.Delete(bytes.Clone(right), from, min(from+r.Intn(9), len(right))))
	}
}

// Too deep anywhere in it: der.Parse's error is told, though what is there is no list at any depth.
func TestTooDeepAnywhere(t *testing.T) {
	x := treeOf(full())
	for _, way := range places(x) {
		for _, depth := range []int{14, 15, 16, 17} {
			b := unbounded(replaced(x, way, nested(depth)))
			if checkBoth(t, "deep", b) {
				t.Error(way, depth)
			}
			if _, err := Decode(b); depth+len(way) > 16 && err == api.ErrForm {
				t.Errorf("depth %d at %v: %v", depth, way, err)
			}
		}
	}
}

// unbounded are the bytes of an element, however deep and long it is.
func unbounded(t api.Tlv) []byte {
	held := bytes.Clone(t.Body)
	for _, kid := range t.Kids {
		held = append(held, unbounded(kid)...)
	}
	return marshal(asn1.RawValue{Class: t.Class, Tag: t.Tag, IsCompound: t.Made, Bytes: held})
}

// Of all of it, as it stands in the chapter.

// A number that isn't 1 at the beginning, or no number.
func TestVersions(t *testing.T) {
	x := treeOf(full())
	checkRead(t, "version 1", replaced(x, atVersion(), leaf(2, "01")))
	for n := range 256 {
		if n != 1 {
			checkNotRead(t, "version", replaced(x, atVersion(), api.Tlv{Tag: 2, Body: []byte{byte(n)}}))
		}
	}
	for _, told := range []string{"", "0001", "0100", "0101", "ff01", "000001", "0100000001", "00ff", "01" + strings.Repeat("00", 70)} {
		checkNotRead(t, "version "+told, replaced(x, atVersion(), leaf(2, told)))
	}
	for _, other := range []api.Tlv{
		leaf(10, "01"), leaf(4, "01"), leaf(1, "01"), made(16, leaf(2, "01")), {Class: 2, Made: true, Kids: []api.Tlv{leaf(2, "01")}}, {Class: 2, Tag: 2, Body: []byte{1}},
		{Tag: 2, Made: true}, {Tag: 2, Made: true, Kids: []api.Tlv{leaf(2, "01")}}, leaf(5, ""),
	} {
		checkNotRead(t, "version", replaced(x, atVersion(), other))
	}
	for _, c := range []api.Crl{full(), bare()} {
		x := treeOf(c)
		checkNotRead(t, "no version", changed(x, atBody(), func(t api.Tlv) api.Tlv { t.Kids = t.Kids[1:]; return t }))
		checkNotRead(t, "two versions", changed(x, atBody(), func(t api.Tlv) api.Tlv { t.Kids = slices.Insert(t.Kids, 0, leaf(2, "01")); return t }))
	}
}

// The algorithm stands in the body and behind it.
func TestAlgorithms(t *testing.T) {
	x := treeOf(full())
	for _, way := range atAlgorithms() {
		checkRead(t, "the algorithm", replaced(x, way, made(16, leaf(6, "2a8648ce3d040303"))))
		for _, other := range []api.Tlv{
			made(16), leaf(6, "2a8648ce3d040303"), made(17, leaf(6, "2a8648ce3d040303")), leaf(5, ""),
			made(16, leaf(6, "2a8648ce3d040303"), leaf(5, "")), made(16, leaf(6, "2a8648ce3d040303"), leaf(6, "2a8648ce3d040303")), made(16, leaf(5, ""), leaf(6, "2a8648ce3d040303")),
			made(16, leaf(6, "2a8648ce3d040302")), made(16, leaf(6, "2a8648ce3d040304")), made(16, leaf(6, "2a8648ce3d0403")), made(16, leaf(6, "2a8648ce3d04030300")),
			made(16, leaf(6, "2a8648ce3d0201")), made(16, leaf(6, "2b81040022")), made(16, leaf(6, "")), made(16, leaf(6, "802a8648ce3d040303")), made(16, leaf(6, "2a8648ce3d04038003")),
			made(16, leaf(4, "2a8648ce3d040303")), made(16, leaf(13, "2a8648ce3d040303")), made(16, made(16, leaf(6, "2a8648ce3d040303"))),
			made(16, api.Tlv{Tag: 6, Made: true, Kids: []api.Tlv{leaf(6, "2a8648ce3d040303")}}), {Tag: 16, Body: bytesFrom("06082a8648ce3d040303")},
		} {
			checkNotRead(t, "another algorithm", replaced(x, way, other))
		}
	}
	// One and the same, but not the one.
	for _, way := range atAlgorithms() {
		x = replaced(x, way, made(16, leaf(6, "2a8648ce3d040302")))
	}
	checkNotRead(t, "both others", x)
}

func TestIssuers(t *testing.T) {
	x := treeOf(full())
	for n := range 12 {
		other := tree(marshal(nameListOf(parts(n))))
		if got := checkTree(t, "a name", replaced(x, atIssuer(), other)); got != (n <= 8) {
			t.Errorf("a name of %d parts: %v", n, got)
		}
	}
	for _, n := range noNames() {
		if element, ok := nameTree(n); ok {
			checkNotRead(t, "no name", replaced(x, atIssuer(), element))
		}
	}
	for _, told := range []string{
		"31 00", "05 00", "10 00", "30 02 30 00", "30 02 31 00", "30 0a 31 08 06 03 550403 0c 01 61", "30 0c 31 0a 30 08 06 03 550403 13 01 61", "a4 02 30 00", "a4 00",
		// One set of two lists, and one list of three.
		"30 16 31 14 30 08 06 03 550403 0c 01 61 30 08 06 03 550403 0c 01 62", "30 0e 31 0c 30 0a 06 03 550403 0c 01 61 05 00",
	} {
		checkNotRead(t, "no name "+told, replaced(x, atIssuer(), tree(bytesFrom(told))))
	}
}

// nameTree is the element of what may be no name, as far as it has one.
func nameTree(n api.Name) (api.Tlv, bool) {
	x := made(16)
	for _, p := range n {
		if p.Kind < 0 || p.Kind > 127 {
			return x, false
		}
		id := api.Tlv{Tag: 6, Body: []byte{0x55, 4, byte(p.Kind)}}
		x.Kids = append(x.Kids, made(17, made(16, id, api.Tlv{Tag: 12, Body: []byte(p.Text)})))
	}
	return x, true
}

// This, Next, and each At.
func TestTimes(t *testing.T) {
	x := treeOf(full())
	for _, c := range []struct {
		tag  int
		told string
		want bool
	}{
		{23, "500101000000Z", true}, {23, "491231235959Z", true}, {23, "700101000000Z", true}, {23, "991231235959Z", true}, {23, "000101000000Z", true}, {23, "000229000000Z", true},
		{24, "20500101000000Z", true}, {24, "99991231235959Z", true}, {24, "24000229120000Z", true},
		{24, "20491231235959Z", false}, {24, "19491231235959Z", false}, {24, "19500101000000Z", false}, {24, "20260101000000Z", false}, {24, "00000101000000Z", false},
		{23, "20500101000000Z", false}, {24, "500101000000Z", false}, {23, "260229000000Z", false}, {24, "21000229000000Z", false},
		{23, "261301000000Z", false}, {23, "260001000000Z", false}, {23, "260100000000Z", false}, {23, "260431000000Z", false}, {23, "260101240000Z", false}, {23, "260101006000Z", false}, {23, "260101000060Z", false},
		{23, "2601010000Z", false}, {23, "260101000000", false}, {23, "260101000000z", false}, {23, "260101000000+0000", false}, {23, "260101000000+0100", false}, {23, "260101000000.0Z", false},
		{23, "26010100000 Z", false}, {23, "-60101000000Z", false}, {23, "", false}, {23, "Z", false}, {24, "", false}, {24, "20500101000000.5Z", false}, {24, "20500101000000+0100", false}, {24, "100000101000000Z", false},
		{22, "260101000000Z", false}, {25, "20500101000000Z", false}, {12, "260101000000Z", false}, {4, "260101000000Z", false}, {2, "260101000000Z", false},
	} {
		for _, way := range [][]int{atThis(), atNext(), atTime(0), atTime(1), atTime(2)} {
			other := replaced(x, way, api.Tlv{Tag: c.tag, Body: []byte(c.told)})
			if got := checkTree(t, c.told, other); got != c.want {
				t.Errorf("%s under %d at %v: %v", c.told, c.tag, way, got)
			}
		}
	}
	// Two times stand in the body itself, not in a list.
	two := func(t api.Tlv) api.Tlv {
		t.Kids = slices.Concat(t.Kids[:3], []api.Tlv{made(16, t.Kids[3], t.Kids[4])}, t.Kids[5:])
		return t
	}
	checkNotRead(t, "a list of two times", changed(x, atBody(), two))
	checkNotRead(t, "a list of two times, and none revoked", changed(treeOf(bare()), atBody(), two))
}

func TestSerials(t *testing.T) {
	x := treeOf(full())
	for i := range x.Kids[0].Kids[5].Kids {
		with := func(body []byte) api.Tlv { return replaced(x, atSerial(i), api.Tlv{Tag: 2, Body: body}) }
		for length := range 70 {
			for _, first := range []byte{0, 1, 0x7f, 0x80, 0xff} {
				body := bytes.Repeat([]byte{0xa5}, length)
				if length > 0 {
					body[0] = first
				}
				got := checkTree(t, "a serial", with(body))
				if want := length >= 1 && length <= 20 && first > 0 && first < 0x80 || first == 0 && length >= 2 && length <= 21; got != want {
					t.Errorf("serial %x: %v", body, got)
				}
				// Of which the highest bit isn't set.
				body = append(bytes.Repeat([]byte{0}, min(length, 1)), bytes.Repeat([]byte{0x25}, length)...)
				checkNotRead(t, "a serial with a 0 ahead", with(body))
			}
		}
		for n := range 256 {
			if got := checkTree(t, "a serial", with([]byte{byte(n)})); got != (n >= 1 && n < 128) {
				t.Errorf("serial %d: %v", n, got)
			}
			checkTree(t, "a serial", with([]byte{0, byte(n)}))
			checkTree(t, "a serial", with([]byte{byte(n), 0}))
		}
	}
}

// goneTrees are as many entries.
func goneTrees(n int) []api.Tlv {
	c := bare()
	for i := range n {
		c.Gone = append(c.Gone, api.Gone{Serial: []byte{1 + byte(i)%100}, At: int64(i)})
	}
	if n == 0 {
		return nil
	}
	return tree(wantBody(c)).Kids[5].Kids
}

func TestEveryCountOfGoneIsReadOrNot(t *testing.T) {
	x := treeOf(full())
	for n := range 200 {
		if got := checkTree(t, "Gone", replaced(x, atGone(), made(16, goneTrees(n)...))); got != (n >= 1 && n <= 64) {
			t.Errorf("Gone of %d: %v", n, got)
		}
	}
	// The bound is told as ErrForm as well, whatever else is amiss in one behind it.
	many := goneTrees(65)
	many[64] = leaf(5, "")
	checkNotRead(t, "65, and the last one none", replaced(x, atGone(), made(16, many...)))
}

// What stands where those that are revoked do, and isn't a list of them.
func TestNoGone(t *testing.T) {
	one := goneTrees(1)[0]
	for _, c := range []api.Crl{bare(), full()} {
		x := treeOf(c)
		with := func(more ...api.Tlv) api.Tlv {
			return changed(x, atBody(), func(t api.Tlv) api.Tlv { t.Kids = append(t.Kids[:5:5], more...); return t })
		}
		checkRead(t, "none", with())
		checkRead(t, "one", with(made(16, one)))
		checkRead(t, "the same twice", with(made(16, one, one)))
		for _, other := range [][]api.Tlv{
			{made(16)}, {made(17, one)}, {leaf(5, "")}, {one}, {{Tag: 16}}, {{Class: 2, Made: true, Kids: []api.Tlv{one}}}, {{Class: 2, Tag: 16, Made: true, Kids: []api.Tlv{one}}}, {{Tag: 16, Body: written(one)}},
			// Extensions, behind those that are revoked or without.
			{{Class: 2, Made: true, Kids: []api.Tlv{made(16)}}}, {made(16, one), {Class: 2, Made: true, Kids: []api.Tlv{made(16)}}},
			{made(16, one), made(16, one)}, {made(16, one), made(16)}, {made(16), made(16, one)}, {made(16, made(16, one))}, {one, one}, {made(16), made(16)},
		} {
			checkNotRead(t, "no list of those that are revoked", with(other...))
		}
	}
}

// One that is revoked is a list of two, wherever it stands.
func TestNoEntries(t *testing.T) {
	one := goneTrees(1)[0]
	serial, at := one.Kids[0], one.Kids[1]
	x := treeOf(full())
	for i := range 3 {
		way := append(atGone(), i)
		checkRead(t, "a serial and a time", replaced(x, way, made(16, serial, at)))
		for _, other := range []api.Tlv{
			made(16), made(16, serial), made(16, at), made(16, at, serial), made(16, serial, serial), made(16, at, at), made(16, serial, at, leaf(5, "")), made(16, serial, at, at), made(16, serial, serial, at),
			made(16, serial, at, made(16, made(16, leaf(6, "551d15"), leaf(4, "0a0101")))), made(16, leaf(5, ""), at), made(16, serial, leaf(5, "")), made(16, made(16, serial, at)),
			made(17, serial, at), {Class: 2, Made: true, Kids: []api.Tlv{serial, at}}, {Tag: 16, Body: written(one)}, serial, at, leaf(5, ""),
			made(16, leaf(4, "09"), at), made(16, leaf(10, "09"), at), made(16, leaf(6, "09"), at), made(16, made(16, serial), at), made(16, serial, made(16, at)),
		} {
			checkNotRead(t, "no serial and time", replaced(x, way, other))
		}
	}
}

// One entry amiss, at each place of lists of all lengths.
func TestOneEntryAmiss(t *testing.T) {
	x := treeOf(full())
	for n := 1; n <= 64; n++ {
		for place := range n {
			all := goneTrees(n)
			all[place] = made(16, leaf(2, "00"), all[place].Kids[1])
			checkNotRead(t, "a serial", replaced(x, atGone(), made(16, all...)))
		}
	}
}

// Bits of which not all count: of a signature all do.
func TestNotAllBitsCount(t *testing.T) {
	x := treeOf(full())
	// An S that ends in noughts, so that the last bits may be left out.
	sig := append([]byte{0}, marshal(sigList{bigOf(api.U384{1}), bigOf(api.U384{128})})...)
	for unused := range 256 {
		sig[0] = byte(unused)
		if checkTree(t, "a signature's bits", replaced(x, atSig(), api.Tlv{Tag: 3, Body: sig})) != (unused == 0) {
			t.Errorf("%d bits that don't count", unused)
		}
	}
	for _, other := range []api.Tlv{leaf(3, ""), leaf(3, "00"), leaf(3, "01"), leaf(3, "0000"), leaf(4, "")} {
		checkNotRead(t, "no bits", replaced(x, atSig(), other))
	}
	checkNotRead(t, "without the first byte", changed(x, atSig(), func(t api.Tlv) api.Tlv { t.Body = t.Body[1:]; return t }))
	checkNotRead(t, "as bytes", changed(x, atSig(), func(t api.Tlv) api.Tlv { t.Tag, t.Body = 4, t.Body[1:]; return t }))
	checkNotRead(t, "as a list", changed(x, atSig(), func(t api.Tlv) api.Tlv { return tree(t.Body[1:]) }))
}

func TestSignatures(t *testing.T) {
	x := treeOf(full())
	with := func(sig []byte) api.Tlv {
		return replaced(x, atSig(), api.Tlv{Tag: 3, Body: append([]byte{0}, sig...)})
	}
	two := func(r, s api.U384) []byte { return marshal(sigList{bigOf(r), bigOf(s)}) }
	one := api.U384{1}
	for _, right := range [][2]api.U384{{one, one}, {overN(-1), one}, {one, overN(-1)}, {overN(-1), overN(-1)}} {
		checkRead(t, "a signature", with(two(right[0], right[1])))
	}
	for _, s := range noSigs() {
		checkNotRead(t, "no signature", with(two(s.R, s.S)))
	}
	for _, told := range []string{
		"", "30", "30 00", "30 03 02 01 01", "30 09 02 01 01 02 01 01 02 01 01", "30 06 02 01 01 02 01 01 00", "31 06 02 01 01 02 01 01", "30 06 02 01 ff 02 01 01", "30 06 02 01 01 02 01 80",
		"30 07 02 02 0001 02 01 01", "30 05 02 00 02 01 01", "30 08 02 01 01 02 01 01 05 00", "30 06 02 01 01 04 01 01", "02 01 01 02 01 01", "30 80 02 01 01 02 01 01 00 00", "30 81 06 02 01 01 02 01 01", "05 00", "1f 00",
	} {
		checkNotRead(t, "no signature "+told, with(bytesFrom(told)))
	}
	// Too long for layer 13, and too long for a number of 384 bits.
	for _, length := range []int{49, 64, 65, 66, 100} {
		n := append([]byte{2, byte(length), 1}, make([]byte, length-1)...)
		checkNotRead(t, "a long number", with(append([]byte{0x30, byte(len(n) + 3)}, append(n, 2, 1, 1)...)))
	}
	// A body's signature isn't checked here: it may be that of any digest.
	checkRead(t, "another signature", with(two(api.U384{12345}, api.U384{0, 0, 54321})))
}

// Other elements behind, ahead or instead, in each list of a fixed length.
func TestOtherCounts(t *testing.T) {
	null := leaf(5, "")
	for _, c := range []api.Crl{bare(), full()} {
		x := treeOf(c)
		ways := [][]int{nil, {0}, {1}, {0, 1}}
		for i := range c.Gone {
			ways = append(ways, append(atGone(), i))
		}
		for _, way := range ways {
			kids := 0
			changed(x, way, func(t api.Tlv) api.Tlv { kids = len(t.Kids); return t })
			for i := range kids + 1 {
				checkNotRead(t, "one more", changed(x, way, func(t api.Tlv) api.Tlv { t.Kids = slices.Insert(t.Kids, i, null); return t }))
				if i == kids {
					break
				}
				// Those that are revoked are all that may be left out.
				fewer := changed(x, way, func(t api.Tlv) api.Tlv { t.Kids = slices.Delete(t.Kids, i, i+1); return t })
				if got := checkTree(t, "one fewer", fewer); got != slices.Equal(append(slices.Clone(way), i), atGone()) {
					t.Errorf("without element %d at %v: %v", i, way, got)
				}
				checkNotRead(t, "one twice", changed(x, way, func(t api.Tlv) api.Tlv { t.Kids = slices.Insert(t.Kids, i, copied(t.Kids[i])); return t }))
				for k := range i {
					other := changed(x, way, func(t api.Tlv) api.Tlv { t.Kids[i], t.Kids[k] = t.Kids[k], t.Kids[i]; return t })
					// This and Next may be exchanged, nothing else.
					if got := checkTree(t, "two exchanged", other); got != (len(way) == 1 && way[0] == 0 && k == 3 && i == 4) {
						t.Errorf("elements %d and %d exchanged at %v: %v", k, i, way, got)
					}
				}
			}
		}
	}
}
