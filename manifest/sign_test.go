package manifest

import (
	"bytes"
	"math/rand"
	"strings"
	"testing"

	"escutcheon/api"
	"escutcheon/der"
	"escutcheon/ecdsa"
)

// P20.2: Sign

func checkSign(t *testing.T, body []byte, s api.Sig) {
	t.Helper()
	want := wantSign(body, s)
	if got, err := Sign(body, s); err != nil || !bytes.Equal(got, want) {
		t.Errorf("Sign(%s, %v) = %s, %v; want %s", short(body), s, short(got), err, short(want))
	}
}

// checkNotSigned asks for an error itself.
func checkNotSigned(t *testing.T, body []byte, s api.Sig, want api.Code) {
	t.Helper()
	if got, err := Sign(body, s); err != want || len(got) > 0 {
		t.Errorf("Sign(%s, %v) = %s, %v; want error %d itself", short(body), s, short(got), err, want)
	}
}

// checkNotParsed asks for der.Parse's error.
func checkNotParsed(t *testing.T, body []byte, s api.Sig) {
	t.Helper()
	_, want := der.Parse(body)
	if want == nil {
		t.Fatalf("%s is an element", short(body))
	}
	if got, err := Sign(body, s); !sameError(err, want) || len(got) > 0 {
		t.Errorf("Sign(%s, %v) = %s, %v; want %v", short(body), s, short(got), err, want)
	}
}

// sevenTail is what stands behind a body: the bits of a signature of 7 and 128.
const sevenTail = "03 0a 00 30 07 02 01 07 02 02 0080"

func sevenSig() api.Sig { return api.Sig{R: api.U384{7}, S: api.U384{128}} }

// signedOut are bodies, and the beginnings of the signed ones' bytes.
func signedOut() [][2]string {
	return [][2]string{
		{"30 0e", "05 00"},
		{"30 0e", "30 00"},
		{"30 13", "30 05 02 01 01 05 00"},
		{"30 81 ef", "30 81 e0" + "02 01 03 02 01 07 02 01 10 02 01 05" + zeroRows()},
		{"30 82 0111", "04 82 0101" + strings.Repeat("5a", 257)},
	}
}

func TestSignedWrittenOut(t *testing.T) {
	for _, c := range signedOut() {
		body, want := bytesFrom(c[1]), bytesFrom(c[0]+c[1]+sevenTail)
		if got, err := Sign(body, sevenSig()); err != nil || !bytes.Equal(got, want) {
			t.Errorf("%x, %v; want %x", got, err, want)
		}
		checkSign(t, body, sevenSig())
		checkSigned(t, "written out", want, body, sevenSig())
	}
}

func TestSignsEveryManifest(t *testing.T) {
	for _, one := range rightChanges() {
		for _, m := range []api.Manifest{zero(), full()} {
			one.do(&m)
			checkSign(t, wantBytes(m), someSig())
		}
	}
}

func TestSignsWithEverySignature(t *testing.T) {
	for _, s := range rightSigs() {
		checkSign(t, wantBytes(full()), s)
		checkSign(t, []byte{5, 0}, s)
	}
}

// anyElements are the bytes of elements that are no manifests.
func anyElements() [][]byte {
	var all [][]byte
	for _, told := range []string{
		"05 00", "30 00", "02 01 05", "04 03 30 03 02", "31 02 05 00", "a0 03 02 01 02", "00 00", "20 00", "fe 00", "01 01 01", "02 02 00 01", "06 00", "03 00", "03 01 09", "0c 01 ff", "17 00", "70 00", "10 00",
	} {
		all = append(all, bytesFrom(told))
	}
	for depth := 1; depth <= 15; depth++ {
		all = append(all, written(nested(depth)))
	}
	for _, size := range []int{127, 128, 129, 255, 256, 300, 65535, 65536, 70000} {
		all = append(all, padded(size, 2), padded(size, 15))
	}
	// What no manifest may be, and a signed one, told as a body.
	x := treeOf(full())
	for _, way := range places(x) {
		for _, change := range elementChanges() {
			all = append(all, written(changed(x, way, change)))
		}
	}
	return append(all, wantSign(wantBytes(full()), someSig()))
}

// Whatever the element is.
func TestSignsAnyElement(t *testing.T) {
	for _, body := range anyElements() {
		checkSign(t, body, someSig())
		checkSign(t, body, lastSig())
	}
}

func TestSignsNoElement(t *testing.T) {
	for _, b := range noElements(wantBytes(full())) {
		checkNotParsed(t, b, someSig())
		// Der.Parse's error comes first.
		for _, s := range noSigs() {
			checkNotParsed(t, b, s)
		}
	}
	if got, err := Sign(bytesFrom("30 02 02 80"), api.Sig{}); !sameError(err, &api.Spot{At: 3, Err: api.ErrForm}) || len(got) > 0 {
		t.Error(got, err)
	}
	checkNotSigned(t, make([]byte, 1<<20+1), api.Sig{}, api.ErrLong)
}

func TestSignsWithNoSignature(t *testing.T) {
	for _, s := range noSigs() {
		if _, err := ecdsa.Encode(s); err != api.ErrRange {
			t.Fatal(s, err)
		}
		// Ecdsa.Encode's error comes ahead of der.Write's.
		for _, body := range [][]byte{wantBytes(full()), {5, 0}, written(nested(15)), written(nested(16)), padded(1<<20, 2), padded(1<<20, 16)} {
			checkNotSigned(t, body, s, api.ErrRange)
		}
	}
}

func TestSignsTooDeep(t *testing.T) {
	checkSign(t, written(nested(15)), someSig())
	checkNotSigned(t, written(nested(16)), someSig(), api.ErrDepth)
	checkNotSigned(t, written(made(17, leaf(5, ""), nested(15), leaf(5, ""))), someSig(), api.ErrDepth)
	// A kid that isn't made counts as well.
	x := leaf(5, "")
	for range 15 {
		x = made(16, x)
	}
	checkNotSigned(t, written(x), someSig(), api.ErrDepth)
	checkSign(t, written(x.Kids[0]), someSig())
}

func TestSignsTooLong(t *testing.T) {
	for _, s := range []api.Sig{someSig(), lastSig(), {R: api.U384{1}, S: api.U384{1}}, {R: overN(-1), S: overN(-1)}} {
		around := len(wantSign(padded(70000, 2), s)) - 70000
		for more := -2; more <= around; more++ {
			body := padded(1<<20-around+more, 2)
			if more <= 0 {
				checkSign(t, body, s)
				continue
			}
			checkNotSigned(t, body, s, api.ErrLong)
		}
		checkNotSigned(t, padded(1<<20, 15), s, api.ErrLong)
		// Too deep as well: that is told first.
		checkNotSigned(t, padded(1<<20, 16), s, api.ErrDepth)
		// That the body itself is too long is der.Parse's.
		checkNotSigned(t, make([]byte, 1<<20+1), s, api.ErrLong)
	}
}

func TestSignsManyElements(t *testing.T) {
	r := rand.New(rand.NewSource(3))
	right := 0
	for range 50000 {
		b := make([]byte, r.Intn(12))
		r.Read(b)
		if len(b) > 1 && r.Intn(2) == 0 {
			b[1] = byte(len(b) - 2)
		}
		if _, err := der.Parse(b); err != nil {
			checkNotParsed(t, b, someSig())
			continue
		}
		right++
		checkSign(t, b, someSig())
		checkSigned(t, "any element", wantSign(b, lastSig()), b, lastSig())
	}
	if right < 1000 {
		t.Error(right)
	}
}
