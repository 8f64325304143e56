package crl

import (
	"bytes"
	"errors"
	"math"
	"math/big"
	"math/rand"
	"testing"

	"escutcheon/api"
	"escutcheon/der"
	"escutcheon/ecdsa"
)

// P18.2: Encode

func checkEncode(t *testing.T, body []byte, s api.Sig) {
	t.Helper()
	want := wantCrl(body, s)
	if got, err := Encode(body, s); err != nil || !bytes.Equal(got, want) {
		t.Errorf("Encode(%s, %v) = %s, %v; want %s", short(body), s, short(got), err, short(want))
	}
}

// checkNotEncoded asks for an error itself.
func checkNotEncoded(t *testing.T, body []byte, s api.Sig, want api.Code) {
	t.Helper()
	if got, err := Encode(body, s); err != want || len(got) > 0 {
		t.Errorf("Encode(%s, %v) = %s, %v; want error %d itself", short(body), s, short(got), err, want)
	}
}

// checkNotParsed asks for der.Parse's error.
func checkNotParsed(t *testing.T, body []byte, s api.Sig) {
	t.Helper()
	_, want := der.Parse(body)
	if want == nil {
		t.Fatalf("%s is an element", short(body))
	}
	if got, err := Encode(body, s); !sameError(err, want) || len(got) > 0 {
		t.Errorf("Encode(%s, %v) = %s, %v; want %v", short(body), s, short(got), err, want)
	}
}

func sameError(a, b error) bool {
	var x, y *api.Spot
	if errors.As(a, &x) && errors.As(b, &y) {
		return *x == *y
	}
	return a == b
}

func short(b []byte) string {
	const most = 2000
	told := new(big.Int).SetBytes(b[:min(len(b), most)]).Text(16)
	if len(b) > most {
		return told + ".."
	}
	return told
}

// noSigs are those that ecdsa.Encode refuses.
func noSigs() []api.Sig {
	one, all := api.U384{1}, uint64(math.MaxUint64)
	full := api.U384{all, all, all, all, all, all}
	return []api.Sig{{}, {R: one}, {S: one}, {R: overN(0), S: one}, {R: one, S: overN(0)}, {R: overN(1), S: one}, {R: full, S: one}, {R: one, S: full}, {R: full, S: full}, {R: overN(0)}}
}

// rightSigs are of all lengths.
func rightSigs() []api.Sig {
	l := []api.Sig{someSig(), lastSig(), {R: api.U384{127}, S: api.U384{128}}, {R: overN(-1), S: overN(-1)}}
	for i := range 6 {
		var a api.U384
		for _, x := range []uint64{1, 0x7f, 0x80, 0xff, 1 << 55, 1 << 56, 1<<63 - 1, 1 << 63} {
			a[i] = x
			l = append(l, api.Sig{R: a, S: api.U384{1}}, api.Sig{R: api.U384{1}, S: a})
		}
	}
	return l
}

// nested is a list in a list, and so on: of as many depths.
func nested(depth int) api.Tlv {
	x := made(16)
	for range depth - 1 {
		x = made(16, x)
	}
	return x
}

// padded are the bytes of a list that has as many bytes, and the depth told.
func padded(size, depth int) []byte {
	room := make([]byte, size)
	// As lengths of other sizes are told otherwise, one padding alone doesn't do for all.
	for _, more := range [][]api.Tlv{nil, {leaf(5, "")}, {leaf(4, "00")}} {
		for n := max(0, size-100); n < size; n++ {
			kids := append([]api.Tlv{nested(depth - 1), {Tag: 4, Body: room[:n]}}, more...)
			if got, err := der.Size(made(16, kids...)); err == nil && got == size {
				return written(made(16, kids...))
			}
		}
	}
	panic("no such element")
}

func TestEncodeWrittenOut(t *testing.T) {
	sig := api.Sig{R: api.U384{7}, S: api.U384{128}}
	for _, c := range []struct{ head, body string }{
		{"30 1a", "05 00"},
		{"30 49", "30 2f" + bodyStart + "30 00" + bareTimes},
	} {
		want := bytesFrom(c.head + c.body + sigTail)
		if got, err := Encode(bytesFrom(c.body), sig); err != nil || !bytes.Equal(got, want) {
			t.Errorf("%x, %v; want %x", got, err, want)
		}
	}
}

func TestEncodesEveryBody(t *testing.T) {
	for _, one := range rightChanges() {
		c := full()
		one.do(&c)
		checkEncode(t, wantBody(c), someSig())
	}
}

func TestEncodesEverySignature(t *testing.T) {
	for _, s := range rightSigs() {
		checkEncode(t, wantBody(full()), s)
		checkEncode(t, []byte{5, 0}, s)
	}
}

// What body's element is isn't asked.
func TestEncodesAnyElement(t *testing.T) {
	for _, told := range []string{
		"05 00", "30 00", "02 01 05", "04 03 30 03 02", "31 02 05 00", "a0 03 02 01 02", "00 00", "20 00", "fe 00", "01 01 01", "02 02 00 01", "06 00", "03 00", "0c 01 ff", "17 00",
	} {
		checkEncode(t, bytesFrom(told), someSig())
	}
	for depth := 1; depth <= 15; depth++ {
		checkEncode(t, written(nested(depth)), someSig())
	}
	for _, size := range []int{127, 128, 129, 255, 256, 300, 65535, 65536, 70000} {
		checkEncode(t, padded(size, 2), lastSig())
		checkEncode(t, padded(size, 15), lastSig())
	}
	// A whole list of revoked ones, told as a body.
	checkEncode(t, written(treeOf(full())), someSig())
}

func TestEncodeNoElement(t *testing.T) {
	full := wantBody(full())
	all := [][]byte{
		nil, {}, {0x30}, {0xff}, {0x1f, 0}, {0x30, 0x80}, {0x30, 0x84, 0, 0, 0, 1}, {0x30, 0x81, 5}, {0x02, 0x81, 1, 0}, {5, 0, 0}, {5, 0, 5, 0},
		{0x30, 2, 5, 1}, append(full, 0), append(full, full...), full[1:], make([]byte, 1<<20+1), make([]byte, 1<<20), padded(1<<20, 2)[:1<<20-1],
	}
	for i := range full {
		all = append(all, full[:i])
	}
	// Of depths that der.Parse doesn't take, so that der.Write can't tell them.
	b := []byte{0x30, 0}
	for depth := 2; depth < 60; depth++ {
		b = append([]byte{0x30, byte(len(b))}, b...)
		if depth > 16 {
			all = append(all, b)
		}
	}
	for _, b := range all {
		checkNotParsed(t, b, someSig())
		// Der.Parse's error comes first.
		for _, s := range noSigs() {
			checkNotParsed(t, b, s)
		}
	}
}

func TestEncodeNoSignature(t *testing.T) {
	for _, s := range noSigs() {
		if _, err := ecdsa.Encode(s); err != api.ErrRange {
			t.Fatal(s, err)
		}
		// Ecdsa.Encode's error comes ahead of der.Write's.
		for _, body := range [][]byte{wantBody(full()), {5, 0}, written(nested(15)), written(nested(16)), padded(1<<20, 2), padded(1<<20, 16)} {
			checkNotEncoded(t, body, s, api.ErrRange)
		}
	}
}

func TestEncodeTooDeep(t *testing.T) {
	checkEncode(t, written(nested(15)), someSig())
	checkNotEncoded(t, written(nested(16)), someSig(), api.ErrDepth)
	checkNotEncoded(t, written(made(17, leaf(5, ""), nested(15), leaf(5, ""))), someSig(), api.ErrDepth)
	// A kid that isn't made counts as well.
	x := leaf(5, "")
	for range 15 {
		x = made(16, x)
	}
	checkNotEncoded(t, written(x), someSig(), api.ErrDepth)
	checkEncode(t, written(x.Kids[0]), someSig())
}

func TestEncodeTooLong(t *testing.T) {
	for _, s := range []api.Sig{someSig(), lastSig(), {R: api.U384{1}, S: api.U384{1}}, {R: overN(-1), S: overN(-1)}} {
		around := len(wantCrl(padded(70000, 2), s)) - 70000
		for more := -2; more <= around; more++ {
			body := padded(1<<20-around+more, 2)
			if more <= 0 {
				checkEncode(t, body, s)
				continue
			}
			checkNotEncoded(t, body, s, api.ErrLong)
		}
		checkNotEncoded(t, padded(1<<20, 15), s, api.ErrLong)
		// Too deep as well: that is told first.
		checkNotEncoded(t, padded(1<<20, 16), s, api.ErrDepth)
		// That the body itself is too long is der.Parse's.
		checkNotEncoded(t, make([]byte, 1<<20+1), s, api.ErrLong)
	}
}

func TestEncodesManyElements(t *testing.T) {
	r := rand.New(rand.NewSource(3))
	right := 0
	for range 50000 {
		b := make([]byte, r.Intn(12))
		r.Read(b)
		if len(b) > 1 && r.Intn(2) == 0 {
			b[1] = byte(len(b) - 2)
		}
		if _, err := der.Parse(b); err != nil {
			checkNotParsed(t, b, someSig())
			continue
		}
		right++
		checkEncode(t, b, someSig())
	}
	if right < 1000 {
		t.Error(right)
	}
}
