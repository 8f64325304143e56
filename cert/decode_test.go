package cert

import (
	"bytes"
	"encoding/asn1"
	"math/rand"
	"slices"
	"strings"
	"testing"

	"escutcheon/api"
	"escutcheon/der"
)

// P17.3

func checkDecode(t *testing.T, what string, b []byte, want api.Cert) {
	t.Helper()
	if got, err := Decode(b); err != nil || !sameCert(got, want) {
		t.Errorf("%s: Decode(%s) = %+v, %v; want %+v", what, short(b), got, err, want)
	}
}

// checkNoCert asks for ErrForm itself.
func checkNoCert(t *testing.T, what string, b []byte) {
	t.Helper()
	if got, err := Decode(b); err != api.ErrForm || !isZero(got) {
		t.Errorf("%s: Decode(%s) = %+v, %v; want ErrForm itself", what, short(b), got, err)
	}
}

func isZero(c api.Cert) bool { return sameCert(c, api.Cert{}) }

// checkBoth holds Decode against der.Parse's error, or what the library reads; it tells whether that is
// a certificate.
func checkBoth(t *testing.T, what string, b []byte) bool {
	t.Helper()
	if _, want := der.Parse(b); want != nil {
		if got, err := Decode(b); !sameError(err, want) || !isZero(got) {
			t.Errorf("%s: Decode(%s) = %+v, %v; want %v", what, short(b), got, err, want)
		}
		return false
	}
	want, ok := wantDecode(b)
	if !ok {
		checkNoCert(t, what, b)
		return false
	}
	checkDecode(t, what, b, want)
	return true
}

// checkTree is checkBoth of an element, which must be one that can be told.
func checkTree(t *testing.T, what string, x api.Tlv) bool {
	t.Helper()
	return checkBoth(t, what, written(x))
}

func checkRead(t *testing.T, what string, x api.Tlv) {
	t.Helper()
	if !checkTree(t, what, x) {
		t.Errorf("%s: that is a certificate", what)
	}
}

func checkNotRead(t *testing.T, what string, x api.Tlv) {
	t.Helper()
	if checkTree(t, what, x) {
		t.Errorf("%s: that is none", what)
	}
}

// sigTail stands behind a body: the algorithm, and a signature of 7 and 128.
const sigTail = "30 0a 06 08 2a8648ce3d040303" + "03 0a 00 30 07 02 01 07 02 02 0080"

func TestCertificatesWrittenOut(t *testing.T) {
	sig := api.Sig{R: api.U384{7}, S: api.U384{128}}
	odd, ca, usage := bare(), bare(), bare()
	odd.Odd = true
	ca.Ca, ca.Path = true, 3
	usage.Usage = 6
	for _, c := range []struct {
		head, bodyHead, tail string
		want                 api.Cert
	}{
		{"30 81dd", "30 81c2", "a3 10 30 0e" + only, bare()},
		{"30 81da", "30 81bf", "a3 0d 30 0b 30 09 06 03 551d13 04 02 30 00", bare()},
		// One that needn't be understood, and one that must be, of an identifier that isn't known.
		{"30 81d8", "30 81bd", "a3 0b 30 09 30 07 06 03 551d0e 04 00", bare()},
		{"30 81dd", "30 81c2", "a3 10 30 0e 30 0c 06 03 551d0e 01 01 ff 04 02 1f ff", odd},
		{"30 81e3", "30 81c8", "a3 16 30 14 30 12 06 03 551d13 01 01 ff 04 08 30 06 01 01 ff 02 01 03", ca},
		{"30 81dc", "30 81c1", "a3 0f 30 0d 30 0b 06 03 551d0f 04 04 03 02 05 60", usage},
	} {
		body := bytesFrom(c.bodyHead + bareBody + c.tail)
		c.want.Body, c.want.Sig = body, sig
		checkDecode(t, c.tail, slices.Concat(bytesFrom(c.head), body, bytesFrom(sigTail)), c.want)
	}
}

func TestNoCertificatesWrittenOut(t *testing.T) {
	for _, told := range []string{
		"30 00", // the chapter's
		"05 00", "31 00", "02 01 02", "30 02 30 00", "30 04 30 00 30 00", "30 06 30 00 30 00 30 00", "10 00", "a0 00", "70 00", "24 00",
	} {
		checkNoCert(t, told, bytesFrom(told))
	}
	checkNoCert(t, "a body alone", wantBody(full()))
	checkNoCert(t, "a certificate in a list", written(made(16, treeOf(full()))))
}

func TestReadsAllThatMayBe(t *testing.T) {
	for _, one := range rightChanges() {
		for _, c := range []api.Cert{bare(), full()} {
			one.do(&c)
			body := wantBody(c)
			for _, s := range []api.Sig{someSig(), lastSig()} {
				c.Body, c.Sig = body, s
				b := wantCert(body, s)
				checkDecode(t, one.what, b, c)
				if !checkBoth(t, one.what, b) {
					t.Errorf("%s: the library doesn't read it", one.what)
				}
			}
		}
	}
}

func TestReadsEverySignature(t *testing.T) {
	for _, s := range rightSigs() {
		c := full()
		c.Body, c.Sig = wantBody(c), s
		checkDecode(t, "a signature", wantCert(c.Body, s), c)
	}
}

// What der.Parse refuses is refused with its error, at its place.
func TestNoElements(t *testing.T) {
	right := wantCert(wantBody(full()), someSig())
	for i := range right {
		if checkBoth(t, "cut", right[:i]) {
			t.Error(i)
		}
	}
	long := append(right, make([]byte, 1<<20)...)
	for _, b := range [][]byte{
		nil, {}, {0x30}, {0x1f, 0}, {0x30, 0x80, 0, 0}, append(right, 0), append(right, right...), right[1:], long, long[:1<<20+1], long[:1<<20], make([]byte, 1<<20+1), make([]byte, 1<<20),
	} {
		if checkBoth(t, "no element", b) {
			t.Error(short(b))
		}
	}
	b := []byte{0x30, 0}
	for range 40 {
		b = append([]byte{0x30, byte(len(b))}, b...)
		checkBoth(t, "deep", b)
	}
	// No certificate either, but that isn't told.
	if _, err := Decode(bytesFrom("30 00 00")); !sameError(err, &api.Spot{At: 2, Err: api.ErrMore}) {
		t.Error(err)
	}
	if _, err := Decode(make([]byte, 1<<20+1)); err != api.ErrLong {
		t.Error(err)
	}
}

// Every class, tag and making at every place of a certificate.
func TestOtherHeadsAtEveryPlace(t *testing.T) {
	for _, c := range []api.Cert{bare(), full()} {
		x := treeOf(c)
		for _, way := range places(x) {
			right := headsTaken(x, way, func(x api.Tlv) bool { return checkTree(t, "another head", x) })
			if right != 1 {
				t.Errorf("%d heads were taken at %v; want 1", right, way)
			}
		}
	}
}

func TestEveryChangeAtEveryPlace(t *testing.T) {
	right, wrong := 0, 0
	for _, c := range []api.Cert{bare(), full()} {
		x := treeOf(c)
		for _, way := range places(x) {
			for _, change := range elementChanges() {
				if checkTree(t, "a change", changed(x, way, change)) {
					right++
				} else {
					wrong++
				}
			}
		}
	}
	if right < 100 || wrong < 1000 {
		t.Error(right, wrong)
	}
}

// More than one thing is amiss in one way.
func TestManyChanges(t *testing.T) {
	r := rand.New(rand.NewSource(4))
	all := rightChanges()
	for range 20000 {
		x := treeOf(someCert(r, all))
		for range 2 + r.Intn(2) {
			x = changed(x, someOf(r, places(x)), someOf(r, elementChanges()))
		}
		if b, err := der.Write(x); err == nil {
			checkBoth(t, "some changes", b)
		}
	}
}

// One bit, or one byte, is another one, anywhere.
func TestOtherBytesAtEveryPlace(t *testing.T) {
	right := wantCert(wantBody(bare()), api.Sig{R: api.U384{7}, S: api.U384{128}})
	read := 0
	for place := range right {
		for x := range 256 {
			b := bytes.Clone(right)
			b[place] = byte(x)
			if checkBoth(t, "another byte", b) {
				read++
			}
		}
	}
	right = wantCert(wantBody(full()), someSig())
	for place := range right {
		for bit := range 8 {
			b := bytes.Clone(right)
			b[place] ^= 1 << bit
			if checkBoth(t, "another bit", b) {
				read++
			}
		}
	}
	if read < 1000 {
		t.Error(read)
	}
}

func TestAnyBytes(t *testing.T) {
	r := rand.New(rand.NewSource(5))
	right := wantCert(wantBody(full()), someSig())
	for range 20000 {
		b := make([]byte, r.Intn(100))
		r.Read(b)
		checkBoth(t, "any bytes", b)
		b = bytes.Clone(right)
		for range 1 + r.Intn(4) {
			b[r.Intn(len(b))] = byte(r.Intn(256))
		}
		checkBoth(t, "some other bytes", b)
		from := r.Intn(len(right))
		checkBoth(t, "some bytes left out", slices.Delete(bytes.Clone(right), from, min(from+r.Intn(9), len(right))))
	}
}

// Of the body.

func TestVersions(t *testing.T) {
	x := treeOf(full())
	mark := func(kids ...api.Tlv) api.Tlv { return api.Tlv{Class: 2, Tag: 0, Made: true, Kids: kids} }
	checkRead(t, "version 2", replaced(x, atVersion(), mark(leaf(2, "02"))))
	for n := range 256 {
		if n != 2 {
			checkNotRead(t, "version", replaced(x, atVersion(), mark(api.Tlv{Tag: 2, Body: []byte{byte(n)}})))
		}
	}
	for _, told := range []string{"", "0002", "0200", "0202", "ff02", "000002", "0100000002", "02" + strings.Repeat("00", 70)} {
		checkNotRead(t, "version "+told, replaced(x, atVersion(), mark(leaf(2, told))))
	}
	for _, other := range []api.Tlv{
		mark(), mark(leaf(2, "02"), leaf(2, "02")), mark(leaf(10, "02")), mark(leaf(4, "02")), mark(leaf(1, "02")), leaf(2, "02"), made(16, leaf(2, "02")),
		mark(made(16, leaf(2, "02"))), {Class: 2, Body: []byte{2, 1, 2}}, {Class: 2, Body: []byte{2}}, mark(api.Tlv{Tag: 2, Made: true, Kids: []api.Tlv{leaf(2, "02")}}),
	} {
		checkNotRead(t, "version", replaced(x, atVersion(), other))
	}
	// Version 1 isn't told at all.
	checkNotRead(t, "no version", changed(x, []int{0}, func(t api.Tlv) api.Tlv { t.Kids = t.Kids[1:]; return t }))
}

func TestSerials(t *testing.T) {
	x := treeOf(full())
	with := func(body []byte) api.Tlv { return replaced(x, atSerial(), api.Tlv{Tag: 2, Body: body}) }
	for length := range 70 {
		for _, first := range []byte{0, 1, 0x7f, 0x80, 0xff} {
			body := bytes.Repeat([]byte{0xa5}, length)
			if length > 0 {
				body[0] = first
			}
			got := checkTree(t, "a serial", with(body))
			if want := length >= 1 && length <= 20 && first > 0 && first < 0x80 || first == 0 && length >= 2 && length <= 21; got != want {
				t.Errorf("serial %x: %v", body, got)
			}
			// Of which the highest bit isn't set.
			body = append(bytes.Repeat([]byte{0}, min(length, 1)), bytes.Repeat([]byte{0x25}, length)...)
			checkNotRead(t, "a serial with a 0 ahead", with(body))
		}
	}
	for n := range 256 {
		if got := checkTree(t, "a serial", with([]byte{byte(n)})); got != (n >= 1 && n < 128) {
			t.Errorf("serial %d: %v", n, got)
		}
		checkTree(t, "a serial", with([]byte{0, byte(n)}))
		checkTree(t, "a serial", with([]byte{byte(n), 0}))
	}
}

// The algorithm stands in the body and behind it.
func TestAlgorithms(t *testing.T) {
	x := treeOf(full())
	for _, way := range [][]int{{0, 2}, {1}} {
		checkRead(t, "the algorithm", replaced(x, way, made(16, leaf(6, "2a8648ce3d040303"))))
		for _, other := range []api.Tlv{
			made(16), leaf(6, "2a8648ce3d040303"), made(17, leaf(6, "2a8648ce3d040303")), leaf(5, ""),
			made(16, leaf(6, "2a8648ce3d040303"), leaf(5, "")), made(16, leaf(6, "2a8648ce3d040303"), leaf(6, "2a8648ce3d040303")), made(16, leaf(5, ""), leaf(6, "2a8648ce3d040303")),
			made(16, leaf(6, "2a8648ce3d040302")), made(16, leaf(6, "2a8648ce3d040304")), made(16, leaf(6, "2a8648ce3d0403")), made(16, leaf(6, "2a8648ce3d04030300")),
			made(16, leaf(6, "2a8648ce3d0201")), made(16, leaf(6, "2b81040022")), made(16, leaf(6, "")), made(16, leaf(6, "802a8648ce3d040303")), made(16, leaf(6, "2a8648ce3d04038003")),
			made(16, leaf(4, "2a8648ce3d040303")), made(16, leaf(13, "2a8648ce3d040303")), made(16, made(16, leaf(6, "2a8648ce3d040303"))),
			made(16, api.Tlv{Tag: 6, Made: true, Kids: []api.Tlv{leaf(6, "2a8648ce3d040303")}}), {Tag: 16, Body: bytesFrom("06082a8648ce3d040303")},
		} {
			checkNotRead(t, "another algorithm", replaced(x, way, other))
		}
	}
	// One and the same, but not the one.
	other := made(16, leaf(6, "2a8648ce3d040302"))
	checkNotRead(t, "both others", replaced(replaced(x, []int{0, 2}, other), []int{1}, other))
}

func TestIssuersAndSubjects(t *testing.T) {
	x := treeOf(full())
	for _, way := range [][]int{atIssuer(), atSubject()} {
		for n := range 12 {
			other := tree(marshal(nameListOf(parts(n))))
			if got := checkTree(t, "a name", replaced(x, way, other)); got != (n <= 8) {
				t.Errorf("a name of %d parts at %v: %v", n, way, got)
			}
		}
		for _, n := range noNames() {
			if element, ok := nameTree(n); ok {
				checkNotRead(t, "no name", replaced(x, way, element))
			}
		}
		for _, told := range []string{
			"31 00", "05 00", "10 00", "30 02 30 00", "30 02 31 00", "30 0a 31 08 06 03 550403 0c 01 61", "30 0c 31 0a 30 08 06 03 550403 13 01 61", "a4 02 30 00", "a4 00",
		} {
			checkNotRead(t, "no name "+told, replaced(x, way, tree(bytesFrom(told))))
		}
	}
}

// nameTree is the element of what may be no name, as far as it has one.
func nameTree(n api.Name) (api.Tlv, bool) {
	x := made(16)
	for _, p := range n {
		if p.Kind < 0 || p.Kind > 127 {
			return x, false
		}
		id := api.Tlv{Tag: 6, Body: []byte{0x55, 4, byte(p.Kind)}}
		x.Kids = append(x.Kids, made(17, made(16, id, api.Tlv{Tag: 12, Body: []byte(p.Text)})))
	}
	return x, true
}

func TestTimes(t *testing.T) {
	x := treeOf(full())
	for _, c := range []struct {
		tag  int
		told string
		want bool
	}{
		{23, "500101000000Z", true}, {23, "491231235959Z", true}, {23, "700101000000Z", true}, {23, "991231235959Z", true}, {23, "000101000000Z", true}, {23, "000229000000Z", true},
		{24, "20500101000000Z", true}, {24, "99991231235959Z", true}, {24, "24000229120000Z", true},
		{24, "20491231235959Z", false}, {24, "19491231235959Z", false}, {24, "19500101000000Z", false}, {24, "20260101000000Z", false}, {24, "00000101000000Z", false},
		{23, "20500101000000Z", false}, {24, "500101000000Z", false}, {23, "260229000000Z", false}, {24, "21000229000000Z", false},
		{23, "261301000000Z", false}, {23, "260001000000Z", false}, {23, "260100000000Z", false}, {23, "260431000000Z", false}, {23, "260101240000Z", false}, {23, "260101006000Z", false}, {23, "260101000060Z", false},
		{23, "2601010000Z", false}, {23, "260101000000", false}, {23, "260101000000z", false}, {23, "260101000000+0000", false}, {23, "260101000000+0100", false}, {23, "260101000000.0Z", false},
		{23, "26010100000 Z", false}, {23, "-60101000000Z", false}, {23, "", false}, {23, "Z", false}, {24, "", false}, {24, "20500101000000.5Z", false}, {24, "20500101000000+0100", false}, {24, "100000101000000Z", false},
		{22, "260101000000Z", false}, {25, "20500101000000Z", false}, {12, "260101000000Z", false}, {4, "260101000000Z", false}, {2, "260101000000Z", false},
	} {
		for i := range 2 {
			other := replaced(x, append(atTimes(), i), api.Tlv{Tag: c.tag, Body: []byte(c.told)})
			if got := checkTree(t, c.told, other); got != c.want {
				t.Errorf("%s under %d: %v", c.told, c.tag, got)
			}
		}
	}
	utc, long := api.Tlv{Tag: 23, Body: []byte("700101000000Z")}, api.Tlv{Tag: 24, Body: []byte("20500101000000Z")}
	for _, right := range []api.Tlv{made(16, utc, utc), made(16, utc, long), made(16, long, utc), made(16, long, long)} {
		checkRead(t, "two times", replaced(x, atTimes(), right))
	}
	for _, wrong := range []api.Tlv{made(16), made(16, utc), made(16, long), made(16, utc, long, long), made(16, utc, utc, utc), made(17, utc, long), made(16, made(16, utc, long)), utc, made(16, utc, leaf(5, ""))} {
		checkNotRead(t, "no two times", replaced(x, atTimes(), wrong))
	}
}

func TestKeys(t *testing.T) {
	x := treeOf(full())
	kind := made(16, leaf(6, "2a8648ce3d0201"), leaf(6, "2b81040022"))
	with := func(point []byte) api.Tlv {
		return replaced(x, atKey(), made(16, kind, api.Tlv{Tag: 3, Body: append([]byte{0}, point...)}))
	}
	right := pointBytes(timesG(77))
	checkRead(t, "a key", with(right))
	checkRead(t, "a key with a small X", with(pointBytes(lowPoint())))
	for _, p := range noKeys() {
		if !p.None {
			checkNotRead(t, "no key", with(pointBytes(p)))
		}
	}
	compressed := append([]byte{2 + right[96]&1}, right[1:49]...)
	hybrid := append([]byte{6 + right[96]&1}, right[1:]...)
	for _, b := range [][]byte{nil, {0}, {4}, right[:96], append(right, 0), compressed, hybrid, right[1:], make([]byte, 97)} {
		checkNotRead(t, "no key", with(b))
	}
	for first := range 256 {
		b := bytes.Clone(right)
		b[0] = byte(first)
		if got := checkTree(t, "a key", with(b)); got != (first == 4) {
			t.Errorf("a key that begins with %d: %v", first, got)
		}
	}
	told := api.Tlv{Tag: 3, Body: append([]byte{0}, right...)}
	for _, other := range []api.Tlv{
		made(16, leaf(6, "2b81040022"), leaf(6, "2a8648ce3d0201")), made(16, leaf(6, "2a8648ce3d0201")), made(16, leaf(6, "2b81040022")), made(16), kind.Kids[0], made(17, kind.Kids...),
		made(16, leaf(6, "2a8648ce3d0201"), leaf(6, "2b81040022"), leaf(5, "")), made(16, leaf(6, "2a8648ce3d0201"), leaf(6, "2b81040023")), made(16, leaf(6, "2a8648ce3d0201"), leaf(6, "2a8648ce3d030107")),
		made(16, leaf(6, "2a8648ce3d0201"), leaf(5, "")), made(16, leaf(6, "2b8104010c"), leaf(6, "2b81040022")), made(16, kind),
	} {
		checkNotRead(t, "another kind of key", replaced(x, atKey(), made(16, other, told)))
	}
	checkRead(t, "a kind and a key", replaced(x, atKey(), made(16, kind, told)))
	for _, other := range []api.Tlv{made(16, kind), made(16, told), made(16, told, kind), made(16, kind, told, told), made(16, kind, told, leaf(5, "")), made(17, kind, told), told, kind} {
		checkNotRead(t, "no kind and a key", replaced(x, atKey(), other))
	}
}

// Bits of which not all count: of a key and of a signature all do.
func TestNotAllBitsCount(t *testing.T) {
	x := treeOf(full())
	// A Y, and an S, that end in noughts, so that the last bits may be left out.
	y := lowPoint()
	for k := int64(2); bigOf(y.Y).Bit(0) > 0 || bigOf(y.Y).Bit(1) > 0; k++ {
		y = timesG(k)
	}
	key := append([]byte{0}, pointBytes(y)...)
	sig := append([]byte{0}, marshal(sigList{bigOf(api.U384{1}), bigOf(api.U384{128})})...)
	for unused := range 256 {
		key[0], sig[0] = byte(unused), byte(unused)
		withKey := replaced(x, append(atKey(), 1), api.Tlv{Tag: 3, Body: key})
		withSig := replaced(x, atSig(), api.Tlv{Tag: 3, Body: sig})
		if checkTree(t, "a key's bits", withKey) != (unused == 0) || checkTree(t, "a signature's bits", withSig) != (unused == 0) {
			t.Errorf("%d bits that don't count", unused)
		}
	}
	for _, way := range [][]int{append(atKey(), 1), atSig()} {
		for _, other := range []api.Tlv{leaf(3, ""), leaf(3, "00"), leaf(3, "01"), leaf(3, "0000"), leaf(4, "")} {
			checkNotRead(t, "no bits", replaced(x, way, other))
		}
		checkNotRead(t, "without the first byte", changed(x, way, func(t api.Tlv) api.Tlv { t.Body = t.Body[1:]; return t }))
		checkNotRead(t, "as bytes", changed(x, way, func(t api.Tlv) api.Tlv { t.Tag, t.Body = 4, t.Body[1:]; return t }))
	}
}

func TestSignatures(t *testing.T) {
	x := treeOf(full())
	with := func(sig []byte) api.Tlv {
		return replaced(x, atSig(), api.Tlv{Tag: 3, Body: append([]byte{0}, sig...)})
	}
	two := func(r, s api.U384) []byte { return marshal(sigList{bigOf(r), bigOf(s)}) }
	one := api.U384{1}
	for _, right := range [][2]api.U384{{one, one}, {overN(-1), one}, {one, overN(-1)}, {overN(-1), overN(-1)}} {
		checkRead(t, "a signature", with(two(right[0], right[1])))
	}
	for _, s := range noSigs() {
		checkNotRead(t, "no signature", with(two(s.R, s.S)))
	}
	for _, told := range []string{
		"", "30", "30 00", "30 03 02 01 01", "30 09 02 01 01 02 01 01 02 01 01", "30 06 02 01 01 02 01 01 00", "31 06 02 01 01 02 01 01", "30 06 02 01 ff 02 01 01", "30 06 02 01 01 02 01 80",
		"30 07 02 02 0001 02 01 01", "30 05 02 00 02 01 01", "30 08 02 01 01 02 01 01 05 00", "30 06 02 01 01 04 01 01", "02 01 01 02 01 01", "30 80 02 01 01 02 01 01 00 00", "30 81 06 02 01 01 02 01 01", "05 00", "1f 00",
	} {
		checkNotRead(t, "no signature "+told, with(bytesFrom(told)))
	}
	// Too long for layer 13, and too long for a number of 384 bits.
	for _, length := range []int{49, 64, 65, 66, 100} {
		n := append([]byte{2, byte(length), 1}, make([]byte, length-1)...)
		checkNotRead(t, "a long number", with(append([]byte{0x30, byte(len(n) + 3)}, append(n, 2, 1, 1)...)))
	}
	// A body's signature isn't checked here: it may be that of any digest.
	checkRead(t, "another signature", with(two(api.U384{12345}, api.U384{0, 0, 54321})))
}

// Too deep anywhere in it: der.Parse's error is told, though what is there is no certificate at any depth.
func TestTooDeepAnywhere(t *testing.T) {
	x := treeOf(full())
	for _, way := range places(x) {
		for _, depth := range []int{14, 15, 16, 17} {
			b := unbounded(replaced(x, way, nested(depth)))
			if checkBoth(t, "deep", b) {
				t.Error(way, depth)
			}
			if _, err := Decode(b); depth+len(way) > 16 && err == api.ErrForm {
				t.Errorf("depth %d at %v: %v", depth, way, err)
			}
		}
	}
}

// unbounded are the bytes of an element, however deep and long it is.
func unbounded(t api.Tlv) []byte {
	held := bytes.Clone(t.Body)
	for _, kid := range t.Kids {
		held = append(held, unbounded(kid)...)
	}
	return marshal(asn1.RawValue{Class: t.Class, Tag: t.Tag, IsCompound: t.Made, Bytes: held})
}

// Other elements behind, ahead or instead.
func TestOtherCounts(t *testing.T) {
	x := treeOf(full())
	null := leaf(5, "")
	for _, way := range [][]int{nil, {0}, {1}, {0, 0}, {0, 2}, {0, 4}, {0, 6}, {0, 6, 0}, {0, 7}} {
		count := 0
		changed(x, way, func(t api.Tlv) api.Tlv { count = len(t.Kids); return t })
		for i := range count + 1 {
			checkNotRead(t, "one more", changed(x, way, func(t api.Tlv) api.Tlv { t.Kids = slices.Insert(t.Kids, i, null); return t }))
			if i == count {
				break
			}
			checkNotRead(t, "one fewer", changed(x, way, func(t api.Tlv) api.Tlv { t.Kids = slices.Delete(t.Kids, i, i+1); return t }))
			checkNotRead(t, "one twice", changed(x, way, func(t api.Tlv) api.Tlv { t.Kids = slices.Insert(t.Kids, i, copied(t.Kids[i])); return t }))
			for k := range i {
				other := changed(x, way, func(t api.Tlv) api.Tlv { t.Kids[i], t.Kids[k] = t.Kids[k], t.Kids[i]; return t })
				// The two times, and the two names, may be exchanged.
				checkTree(t, "two exchanged", other)
			}
		}
	}
}
