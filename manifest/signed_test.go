package manifest

import (
	"bytes"
	"math/rand"
	"slices"
	"strings"
	"testing"

	"escutcheon/api"
	"escutcheon/der"
	"escutcheon/ecdsa"
)

// P20.2: Signed

func checkSigned(t *testing.T, what string, b, wantBody []byte, wantSig api.Sig) {
	t.Helper()
	if body, s, err := Signed(b); err != nil || !bytes.Equal(body, wantBody) || s != wantSig {
		t.Errorf("%s: Signed(%s) = %s, %v, %v; want %s, %v", what, short(b), short(body), s, err, short(wantBody), wantSig)
	}
}

// checkNotIs asks for an error, and for zero values beside it.
func checkNotIs(t *testing.T, what string, b []byte, want error) {
	t.Helper()
	if body, s, err := Signed(b); !sameError(err, want) || len(body) > 0 || s != (api.Sig{}) {
		t.Errorf("%s: Signed(%s) = %s, %v, %v; want %v", what, short(b), short(body), s, err, want)
	}
}

// checkNoSigned asks for ErrForm itself.
func checkNoSigned(t *testing.T, what string, b []byte) {
	t.Helper()
	checkNotIs(t, what, b, api.ErrForm)
}

// checkSignedBoth holds Signed against der.Parse's error, or what the library reads; it tells whether
// that is a signed manifest.
func checkSignedBoth(t *testing.T, what string, b []byte) bool {
	t.Helper()
	if _, want := der.Parse(b); want != nil {
		checkNotIs(t, what, b, want)
		return false
	}
	body, s, ok := wantSigned(b)
	if !ok {
		checkNoSigned(t, what, b)
		return false
	}
	checkSigned(t, what, b, body, s)
	return true
}

func checkIs(t *testing.T, what string, x api.Tlv) {
	t.Helper()
	if !checkSignedBoth(t, what, written(x)) {
		t.Errorf("%s: that is a signed manifest", what)
	}
}

func checkIsNot(t *testing.T, what string, x api.Tlv) {
	t.Helper()
	if checkSignedBoth(t, what, written(x)) {
		t.Errorf("%s: that is none", what)
	}
}

// signedTree is the element of a signed manifest.
func signedTree() api.Tlv { return tree(wantSign(wantBytes(full()), someSig())) }

// bits is an element of bits of which as many of the last byte don't count.
func bits(unused byte, b []byte) api.Tlv {
	return api.Tlv{Tag: 3, Body: append([]byte{unused}, b...)}
}

func sigBytes(r, s api.U384) []byte { return marshal(sigList{bigOf(r), bigOf(s)}) }

func TestReadsEverySignedManifest(t *testing.T) {
	for _, one := range rightChanges() {
		m := full()
		one.do(&m)
		b := wantSign(wantBytes(m), someSig())
		checkSigned(t, one.what, b, wantBytes(m), someSig())
		if !checkSignedBoth(t, one.what, b) {
			t.Errorf("%s: the library doesn't read it", one.what)
		}
	}
}

func TestReadsEverySignature(t *testing.T) {
	for _, s := range rightSigs() {
		checkSigned(t, "a signature", wantSign(wantBytes(full()), s), wantBytes(full()), s)
	}
}

// What was signed may be any element: whether it is a manifest Decode tells.
func TestReadsAnyElementThatIsSigned(t *testing.T) {
	for _, body := range anyElements() {
		b := wantSign(body, lastSig())
		checkSigned(t, "any element", b, body, lastSig())
		if !checkSignedBoth(t, "any element", b) {
			t.Errorf("the library doesn't read %s", short(b))
		}
	}
	// As long as there is room for.
	around := len(wantSign(padded(70000, 2), someSig())) - 70000
	body := padded(1<<20-around, 15)
	checkSigned(t, "the longest", wantSign(body, someSig()), body, someSig())
}

// What der.Parse refuses is refused with its error, at its place.
func TestNoSignedElements(t *testing.T) {
	for _, b := range noElements(written(signedTree())) {
		if checkSignedBoth(t, "no element", b) {
			t.Error(short(b))
		}
	}
	checkNotIs(t, "bytes behind", bytesFrom("30 00 00"), &api.Spot{At: 2, Err: api.ErrMore})
	checkNotIs(t, "a body that isn't one", bytesFrom("30 04 1f 00 03 00"), &api.Spot{At: 2, Err: api.ErrForm})
	checkNotIs(t, "none", nil, &api.Spot{At: 0, Err: api.ErrShort})
	checkNotIs(t, "too long", make([]byte, 1<<20+1), api.ErrLong)
	// Too long as a whole, though the body alone isn't.
	checkNotIs(t, "too long with the signature", wantSign(padded(1<<20, 2), someSig()), api.ErrLong)
}

// Too deep in the body: told by der.Parse, at its place in the whole.
func TestSignedTooDeep(t *testing.T) {
	for depth := 1; depth < 40; depth++ {
		b := unbounded(made(16, nested(depth), bits(0, sigBytes(api.U384{7}, api.U384{8}))))
		if checkSignedBoth(t, "deep", b) != (depth <= 15) {
			t.Errorf("a body of depth %d", depth)
		}
		b = unbounded(made(16, leaf(5, ""), nested(depth)))
		if checkSignedBoth(t, "a deep signature", b) {
			t.Errorf("a signature of depth %d", depth)
		}
	}
}

func TestNoSignedWrittenOut(t *testing.T) {
	for _, told := range []string{
		"30 00", "05 00", "31 00", "02 01 01", "30 02 05 00", "30 04 05 00 05 00", "30 04 05 00 03 00", "30 05 05 00 03 01 00", "10 00", "a0 00", "70 00",
		"31 0e 05 00" + sevenTail, "10 0e 05 00" + sevenTail, "b0 0e 05 00" + sevenTail, "70 0e 05 00" + sevenTail, "f0 0e 05 00" + sevenTail,
	} {
		checkNoSigned(t, told, bytesFrom(told))
		checkSignedBoth(t, told, bytesFrom(told))
	}
	checkNoSigned(t, "a manifest alone", wantBytes(full()))
	checkNoSigned(t, "a signed manifest in a list", written(made(16, signedTree())))
}

// Of one, of two and of three elements, and of others.
func TestSignedOtherCounts(t *testing.T) {
	x := signedTree()
	body, sig := x.Kids[0], x.Kids[1]
	null := leaf(5, "")
	checkIs(t, "both", made(16, body, sig))
	checkIs(t, "the signature's bits as a body", made(16, sig, sig))
	for _, kids := range [][]api.Tlv{
		{}, {body}, {sig}, {sig, body}, {body, body}, {null, body, sig}, {body, null, sig}, {body, sig, null}, {body, body, sig}, {body, sig, sig}, {body, sig, body}, {sig, body, sig},
		{body, sig, body, sig}, {body, sig, null, null}, {body, null}, {null, null, null}, {made(16, body, sig)},
		// With the algorithm between them, as in certificates.
		{body, made(16, leaf(6, "2a8648ce3d040303")), sig},
	} {
		checkIsNot(t, "others", made(16, kids...))
		checkIsNot(t, "others in a set", made(17, kids...))
	}
	checkIsNot(t, "a set", made(17, body, sig))
}

// Every class, tag and making of the list, and of the bits; of the body all are taken.
func TestSignedOtherHeads(t *testing.T) {
	x := signedTree()
	taken := func(x api.Tlv) bool { return checkSignedBoth(t, "another head", written(x)) }
	for _, c := range []struct {
		way  []int
		want int
	}{{nil, 1}, {[]int{1}, 1}, {[]int{0}, 4 * 31 * 2}, {[]int{0, 2}, 4 * 31 * 2}} {
		if right := headsTaken(x, c.way, taken); right != c.want {
			t.Errorf("%d heads were taken at %v; want %d", right, c.way, c.want)
		}
	}
}

// Bits of which not all count: of a signature all do.
func TestNotAllBitsCount(t *testing.T) {
	x := signedTree()
	// An S that ends in noughts, so that the last bits may be left out.
	sig := sigBytes(api.U384{1}, api.U384{128})
	for unused := range 256 {
		b := written(replaced(x, []int{1}, bits(byte(unused), sig)))
		if checkSignedBoth(t, "a signature's bits", b) != (unused == 0) {
			t.Errorf("%d bits that don't count", unused)
		}
	}
	// One that doesn't: the last byte has bits that are none.
	for unused := 1; unused < 8; unused++ {
		checkIsNot(t, "bits that are none", replaced(x, []int{1}, bits(byte(unused), sigBytes(api.U384{1}, api.U384{0xff}))))
	}
	for _, other := range []api.Tlv{leaf(3, ""), leaf(3, "00"), leaf(3, "01"), leaf(3, "0000"), leaf(4, "")} {
		checkIsNot(t, "no bits", replaced(x, []int{1}, other))
	}
	right := x.Kids[1].Body
	for _, other := range []api.Tlv{
		{Tag: 3, Body: right[1:]}, {Tag: 4, Body: right[1:]}, {Tag: 4, Body: right}, tree(right[1:]), {Class: 2, Tag: 3, Body: right}, made(3, x.Kids[1]), made(16, x.Kids[1]), {Tag: 3, Body: append([]byte{0}, right...)},
	} {
		checkIsNot(t, "otherwise told", replaced(x, []int{1}, other))
	}
}

func TestSignatures(t *testing.T) {
	x := signedTree()
	with := func(sig []byte) api.Tlv { return replaced(x, []int{1}, bits(0, sig)) }
	one := api.U384{1}
	for _, right := range [][2]api.U384{{one, one}, {overN(-1), one}, {one, overN(-1)}, {overN(-1), overN(-1)}, {{128}, {127}}} {
		checkIs(t, "a signature", with(sigBytes(right[0], right[1])))
	}
	// Of 0, of the order and of more: ErrRange to layer 14, ErrForm here.
	for _, s := range noSigs() {
		if _, err := ecdsa.Decode(sigBytes(s.R, s.S)); err != api.ErrRange {
			t.Fatal(s, err)
		}
		checkIsNot(t, "no signature", with(sigBytes(s.R, s.S)))
	}
	for _, told := range []string{
		"", "30", "30 00", "30 03 02 01 01", "30 09 02 01 01 02 01 01 02 01 01", "30 06 02 01 01 02 01 01 00", "31 06 02 01 01 02 01 01", "30 06 02 01 ff 02 01 01", "30 06 02 01 01 02 01 80",
		"30 07 02 02 0001 02 01 01", "30 05 02 00 02 01 01", "30 08 02 01 01 02 01 01 05 00", "30 06 02 01 01 04 01 01", "02 01 01 02 01 01", "30 80 02 01 01 02 01 01 00 00", "30 81 06 02 01 01 02 01 01", "05 00", "1f 00",
		"10 06 02 01 01 02 01 01", "70 06 02 01 01 02 01 01", "30 06 82 01 01 02 01 01", "30 08 22 03 02 01 01 02 01 01",
	} {
		// Whatever is amiss in it, and wherever: no place is told.
		checkIsNot(t, "no signature "+told, with(bytesFrom(told)))
		checkNoSigned(t, "no signature "+told, written(with(bytesFrom(told))))
	}
	// Deep, which is der.Parse's in layer 14 only.
	checkNoSigned(t, "a deep signature", written(with(unbounded(nested(17)))))
	// Too long for layer 13, and too long for a number of 384 bits.
	for _, length := range []int{49, 64, 65, 66, 100} {
		n := append([]byte{2, byte(length), 1}, make([]byte, length-1)...)
		checkIsNot(t, "a long number", with(append([]byte{0x30, byte(len(n) + 3)}, append(n, 2, 1, 1)...)))
	}
	// Whether it holds isn't checked here: it may be that of any digest.
	checkIs(t, "another signature", with(sigBytes(api.U384{12345}, api.U384{0, 0, 54321})))
}

func TestSignedEveryChangeAtEveryPlace(t *testing.T) {
	right, wrong := 0, 0
	x := signedTree()
	for _, way := range places(x) {
		for _, change := range elementChanges() {
			if checkSignedBoth(t, "a change", written(changed(x, way, change))) {
				right++
			} else {
				wrong++
			}
		}
	}
	if right < 150 || wrong < 30 {
		t.Error(right, wrong)
	}
}

// One byte is another one, anywhere.
func TestSignedOtherBytesAtEveryPlace(t *testing.T) {
	bodies := []string{"05 00", "30 05 02 01 01 05 00", "04 81 80" + strings.Repeat("5a", 128)}
	read := 0
	for _, told := range bodies {
		right := wantSign(bytesFrom(told), sevenSig())
		for place := range right {
			for x := range 256 {
				b := bytes.Clone(right)
				b[place] = byte(x)
				if checkSignedBoth(t, "another byte", b) {
					read++
				}
			}
		}
	}
	if read < 5000 {
		t.Error(read)
	}
}

func TestAnyBytesSigned(t *testing.T) {
	r := rand.New(rand.NewSource(6))
	right := written(signedTree())
	for range 20000 {
		b := make([]byte, r.Intn(100))
		r.Read(b)
		checkSignedBoth(t, "any bytes", b)
		b = bytes.Clone(right)
		for range 1 + r.Intn(4) {
			b[r.Intn(len(b))] = byte(r.Intn(256))
		}
		checkSignedBoth(t, "some other bytes", b)
		from := r.Intn(len(right))
		checkSignedBoth(t, "some bytes left out", slices.Delete(bytes.Clone(right), from, min(from+r.Intn(9), len(right))))
	}
}
