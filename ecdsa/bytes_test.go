package ecdsa

import (
	"bytes"
	"encoding/asn1"
	"math/big"
	"math/rand"
	"reflect"
	"slices"
	"testing"

	"escutcheon/api"
	"escutcheon/der"
)

// P14.3, P14.4

// toldBy is a signature's bytes by the library.
func toldBy(t *testing.T, s api.Sig) []byte {
	t.Helper()
	b, err := asn1.Marshal(struct{ R, S *big.Int }{bigOf(s.R), bigOf(s.S)})
	if err != nil {
		t.Fatal(err)
	}
	return b
}

func checkDecode(t *testing.T, b []byte, want api.Sig) {
	t.Helper()
	if s, err := Decode(b); err != nil || s != want {
		t.Errorf("Decode(%x): %x, %v; not %x", b, s, err, want)
	}
}

func checkNotDecoded(t *testing.T, b []byte, want error) {
	t.Helper()
	if s, err := Decode(b); s != (api.Sig{}) || err != want {
		t.Errorf("Decode(%x): %x, %v; not %v", b, s, err, want)
	}
}

// checkAsParse finds that what is no element has the error of layer 12, with its place.
func checkAsParse(t *testing.T, b []byte, want error) {
	t.Helper()
	s, err := Decode(b)
	if s != (api.Sig{}) || !reflect.DeepEqual(err, want) {
		t.Errorf("Decode(%x): %x, %v; not %v", b, s, err, want)
	}
	if _, parsed := der.Parse(b); !reflect.DeepEqual(err, parsed) {
		t.Errorf("Decode(%x): %v; but Parse: %v", b, err, parsed)
	}
}

// row is an element's bytes by its head, written another way than layer 12 does.
func row(head byte, parts ...[]byte) []byte {
	body := slices.Concat(parts...)
	switch n := len(body); {
	case n < 128:
		return append([]byte{head, byte(n)}, body...)
	case n < 256:
		return append([]byte{head, 0x81, byte(n)}, body...)
	case n < 1<<16:
		return append([]byte{head, 0x82, byte(n >> 8), byte(n)}, body...)
	default:
		return append([]byte{head, 0x83, byte(n >> 16), byte(n >> 8), byte(n)}, body...)
	}
}

const (
	listHead   = 0x30
	numberHead = 0x02
)

// numbered is a number's bytes, with a 0 ahead where it needs one.
func numbered(n *big.Int) []byte {
	b := n.Bytes()
	if len(b) == 0 || b[0] >= 128 {
		b = append([]byte{0}, b...)
	}
	return row(numberHead, b)
}

func pair(r, s *big.Int) []byte { return row(listHead, numbered(r), numbered(s)) }

func power(bits uint) *big.Int { return new(big.Int).Lsh(big.NewInt(1), bits) }

// told are numbers from 1 to N - 1 of many lengths, with and without the highest bit of their first byte.
func told() []api.U384 {
	all := []api.U384{{1}, {127}, {128}, {255}, {256}, nearN(-1), nearN(-2), some("told"), some("once more")}
	for n := range uint(48) {
		low := power(8 * n)
		all = append(all, number(low), number(new(big.Int).Mul(low, big.NewInt(0x7f))), number(new(big.Int).Mul(low, big.NewInt(0x80))))
	}
	return append(all, number(new(big.Int).Sub(power(383), big.NewInt(1))), number(power(383)))
}

func TestToldAndRead(t *testing.T) {
	check := func(s api.Sig) {
		want := toldBy(t, s)
		b, err := Encode(s)
		if err != nil || !bytes.Equal(b, want) {
			t.Errorf("Encode(%x): %x, %v; not %x", s, b, err, want)
		}
		checkDecode(t, want, s)
	}
	for i, r := range told() {
		for j, s := range told() {
			if i < 12 || j < 12 || (i+j)%7 == 0 {
				check(api.Sig{R: r, S: s})
			}
		}
	}
	for _, x := range examples() {
		check(x.s)
	}
	r := rand.New(rand.NewSource(14))
	below := new(big.Int).Sub(bigN(), big.NewInt(1))
	for range 2000 {
		a, b := new(big.Int).Rand(r, below), new(big.Int).Rand(r, below)
		a.Rsh(a, uint(r.Intn(16)))
		check(api.Sig{R: number(a.Add(a, big.NewInt(1))), S: number(b.Add(b, big.NewInt(1)))})
	}
}

// Bytes that are written out, so that no program is asked.
func TestWrittenOut(t *testing.T) {
	half := append([]byte{0x80}, make([]byte, 47)...)
	n := bytesOfN(-1)
	for _, x := range []struct {
		s api.Sig
		b []byte
	}{
		{api.Sig{R: api.U384{1}, S: api.U384{2}}, []byte{0x30, 6, 2, 1, 1, 2, 1, 2}},
		{api.Sig{R: api.U384{127}, S: api.U384{128}}, []byte{0x30, 7, 2, 1, 0x7f, 2, 2, 0, 0x80}},
		{api.Sig{R: api.U384{0x0102}, S: api.U384{0x8003}}, []byte{0x30, 9, 2, 2, 1, 2, 2, 3, 0, 0x80, 3}},
		{api.Sig{R: api.U384{5: 1 << 63}, S: api.U384{1}}, slices.Concat([]byte{0x30, 54, 2, 49, 0}, half, []byte{2, 1, 1})},
		{api.Sig{R: api.U384{1}, S: nearN(-1)}, slices.Concat([]byte{0x30, 54, 2, 1, 1, 2, 49, 0}, n)},
		{api.Sig{R: nearN(-1), S: nearN(-1)}, slices.Concat([]byte{0x30, 102, 2, 49, 0}, n, []byte{2, 49, 0}, n)},
	} {
		if b, err := Encode(x.s); err != nil || !bytes.Equal(b, x.b) {
			t.Errorf("Encode(%x): %x, %v; not %x", x.s, b, err, x.b)
		}
		checkDecode(t, x.b, x.s)
	}
}

func bytesOfN(d int64) []byte { return new(big.Int).Add(bigN(), big.NewInt(d)).Bytes() }

func TestEncodeOutOfRange(t *testing.T) {
	for _, bad := range outOfRange() {
		for _, good := range []api.U384{{1}, nearN(-1), some("good"), bad} {
			for _, s := range []api.Sig{{R: bad, S: good}, {R: good, S: bad}} {
				if b, err := Encode(s); b != nil || err != api.ErrRange {
					t.Errorf("Encode(%x): %x, %v", s, b, err)
				}
			}
		}
	}
}

func TestDecodeWhatIsNoElement(t *testing.T) {
	good := toldBy(t, api.Sig{R: some("R"), S: some("S")})
	spot := func(at int, c api.Code) error { return &api.Spot{At: at, Err: c} }
	checkAsParse(t, nil, spot(0, api.ErrShort))
	checkAsParse(t, []byte{}, spot(0, api.ErrShort))
	checkAsParse(t, good[:1], spot(1, api.ErrShort))
	for n := 2; n < len(good); n++ {
		checkAsParse(t, good[:n], spot(1, api.ErrShort))
	}
	for _, more := range [][]byte{{0}, {2, 1, 1}, good} {
		checkAsParse(t, slices.Concat(good, more), spot(len(good), api.ErrMore))
	}
	checkAsParse(t, []byte{0x30, 6, 2, 1, 1, 2, 2, 2}, spot(6, api.ErrShort))
	checkAsParse(t, []byte{0x30, 0x81, 6, 2, 1, 1, 2, 1, 2}, spot(1, api.ErrForm))
	checkAsParse(t, []byte{0x30, 0x80, 2, 1, 1, 2, 1, 2, 0, 0}, spot(1, api.ErrForm))
	checkAsParse(t, []byte{0x3f, 6, 2, 1, 1, 2, 1, 2}, spot(0, api.ErrForm))
	checkAsParse(t, bytes.Repeat([]byte{0x30, 0x80}, 20), spot(1, api.ErrForm))
	checkAsParse(t, make([]byte, api.MaxDer+1), api.ErrLong)
	deep := []byte{}
	for range 20 {
		deep = row(listHead, deep)
	}
	checkAsParse(t, deep, spot(2*16, api.ErrDepth))
	// What is no element is told ahead of all else that is amiss.
	checkAsParse(t, []byte{0x31, 3, 2, 1, 0, 9}, spot(5, api.ErrMore))
	checkAsParse(t, append(pair(bigN(), new(big.Int)), 0), spot(len(pair(bigN(), new(big.Int))), api.ErrMore))
}

// Of all heads, only a list's and two numbers' will do.
func TestDecodeHeads(t *testing.T) {
	one, kids := []byte{2, 1, 1}, []byte{2, 1, 1, 2, 1, 2}
	want := api.Sig{R: api.U384{1}, S: api.U384{2}}
	checked := 0
	for head := range 256 {
		if head&31 == 31 {
			continue
		}
		checked++
		if head != listHead {
			checkNotDecoded(t, row(byte(head), kids), api.ErrForm)
		} else {
			checkDecode(t, row(byte(head), kids), want)
		}
		first, second := row(byte(head), []byte{1}), row(byte(head), []byte{2})
		if head&32 != 0 {
			// One that is made of others holds none here, or a number.
			first, second = row(byte(head)), row(byte(head), one)
		}
		if head == numberHead {
			checkDecode(t, row(listHead, first, second), want)
			continue
		}
		checkNotDecoded(t, row(listHead, first, []byte{2, 1, 2}), api.ErrForm)
		checkNotDecoded(t, row(listHead, one, second), api.ErrForm)
		checkNotDecoded(t, row(listHead, first, second), api.ErrForm)
		checkNotDecoded(t, row(listHead, one, one, second), api.ErrForm)
	}
	if checked != 248 {
		t.Errorf("%d heads", checked)
	}
}

func TestDecodeOtherLists(t *testing.T) {
	one := []byte{2, 1, 1}
	for _, b := range [][]byte{
		row(listHead), row(listHead, one), row(listHead, one, one, one), row(listHead, slices.Repeat(one, 100)),
		one, row(listHead, row(listHead, one, one)), row(listHead, row(listHead, one), one),
		row(listHead, one, row(listHead, one, one)), {0x10, 0}, {0x10, 6, 2, 1, 1, 2, 1, 1},
		row(listHead, row(listHead), row(listHead)), row(listHead, one, one, row(listHead)), {4, 0}, {0, 0},
	} {
		checkNotDecoded(t, b, api.ErrForm)
	}
	// The greatest list there is: its elements are counted, not taken for two.
	kids := bytes.Repeat([]byte{2, 1, 1}, (api.MaxDer-5)/3)
	checkNotDecoded(t, row(listHead, kids), api.ErrForm)
	// And two numbers that fill it.
	full := row(listHead, row(numberHead, bytes.Repeat([]byte{1}, api.MaxDer-13)), one)
	if len(full) != api.MaxDer {
		t.Fatalf("%d bytes", len(full))
	}
	checkNotDecoded(t, full, api.ErrForm)
}

// bothSides checks a number's body as the first and as the second one, beside a good number, beside
// numbers that are out of range, and beside itself.
func bothSides(t *testing.T, body []byte, want error) {
	t.Helper()
	bad := row(numberHead, body)
	for _, other := range []*big.Int{big.NewInt(1), bigOf(nearN(-1))} {
		checkNotDecoded(t, row(listHead, bad, numbered(other)), want)
		checkNotDecoded(t, row(listHead, numbered(other), bad), want)
	}
	for _, other := range []*big.Int{new(big.Int), bigN(), power(400)} {
		checkNotDecoded(t, row(listHead, bad, numbered(other)), want)
		checkNotDecoded(t, row(listHead, numbered(other), bad), want)
	}
	checkNotDecoded(t, row(listHead, bad, bad), want)
}

func TestDecodeWhatIsNoNumber(t *testing.T) {
	filled := func(n int, x byte) []byte { return bytes.Repeat([]byte{x}, n) }
	for _, body := range [][]byte{
		{}, {0x80}, {0xff}, {0x80, 0}, {0xff, 0x7f}, {0, 0}, {0, 1}, {0, 0x7f}, {0, 0, 0x80}, {0, 0, 1},
		filled(48, 0xff), filled(48, 0x80), filled(49, 0), append([]byte{0}, filled(47, 1)...), append([]byte{0}, filled(48, 1)...),
		filled(65, 1), append([]byte{0}, filled(65, 0xff)...), filled(66, 0x7f), filled(1000, 1), filled(64, 0x80),
		append([]byte{0, 0}, filled(48, 0x80)...), filled(65, 0), filled(70000, 1),
	} {
		bothSides(t, body, api.ErrForm)
	}
}

func TestDecodeOutOfRange(t *testing.T) {
	for _, n := range []*big.Int{
		new(big.Int), bigN(), new(big.Int).Add(bigN(), big.NewInt(1)), bigP(), bigOf(most), power(384),
		new(big.Int).Add(power(384), big.NewInt(1)), new(big.Int).Add(power(384), bigOf(some("s"))), new(big.Int).Lsh(bigOf(some("s")), 8),
		power(385), power(391), power(392), power(400), power(504), power(511), new(big.Int).Sub(power(512), big.NewInt(1)),
		new(big.Int).Lsh(big.NewInt(5), 448), new(big.Int).Lsh(bigN(), 64), new(big.Int).Add(power(384), bigN()),
	} {
		body := numbered(n)[2:]
		bad := row(numberHead, body)
		for _, other := range []*big.Int{big.NewInt(1), bigOf(nearN(-1)), new(big.Int), bigN(), power(400)} {
			checkNotDecoded(t, row(listHead, bad, numbered(other)), api.ErrRange)
			checkNotDecoded(t, row(listHead, numbered(other), bad), api.ErrRange)
		}
		// What is no number is told ahead of one that is out of range, on either side.
		for _, other := range [][]byte{{2, 0}, {2, 1, 0x80}, {2, 2, 0, 1}, {3, 1, 1}, {0x22, 0}, {0x82, 1, 1}} {
			checkNotDecoded(t, row(listHead, bad, other), api.ErrForm)
			checkNotDecoded(t, row(listHead, other, bad), api.ErrForm)
		}
		checkNotDecoded(t, row(listHead, bad), api.ErrForm)
		checkNotDecoded(t, row(listHead, bad, bad, bad), api.ErrForm)
		checkNotDecoded(t, row(0x31, bad, bad), api.ErrForm)
	}
	for _, d := range []int64{-2, -1} {
		n := bigOf(nearN(d))
		checkDecode(t, pair(n, big.NewInt(1)), api.Sig{R: nearN(d), S: api.U384{1}})
		checkDecode(t, pair(big.NewInt(1), n), api.Sig{R: api.U384{1}, S: nearN(d)})
	}
}

// decodedBy is what the library takes for it: layer 12's error where it has one, else by two numbers
// that are told again as they were.
func decodedBy(b []byte) (api.Sig, error) {
	if _, err := der.Parse(b); err != nil {
		return api.Sig{}, err
	}
	var two struct{ R, S *big.Int }
	rest, err := asn1.Unmarshal(b, &two)
	if err != nil || len(rest) > 0 || two.R.Sign() < 0 || two.S.Sign() < 0 || two.R.BitLen() > 512 || two.S.BitLen() > 512 {
		return api.Sig{}, api.ErrForm
	}
	if again, err := asn1.Marshal(two); err != nil || !bytes.Equal(again, b) {
		return api.Sig{}, api.ErrForm
	}
	for _, n := range []*big.Int{two.R, two.S} {
		if n.Sign() == 0 || n.Cmp(bigN()) >= 0 {
			return api.Sig{}, api.ErrRange
		}
	}
	return api.Sig{R: number(two.R), S: number(two.S)}, nil
}

func checkAsDecoded(t *testing.T, b []byte) (read bool) {
	t.Helper()
	want, wantErr := decodedBy(b)
	s, err := Decode(b)
	if s != want || !reflect.DeepEqual(err, wantErr) {
		t.Errorf("Decode(%x): %x, %v; not %x, %v", b, s, err, want, wantErr)
	}
	if err != nil {
		return false
	}
	// What was read is told as it was.
	if again, err := Encode(s); err != nil || !bytes.Equal(again, b) {
		t.Errorf("%x is told again as %x, %v", b, again, err)
	}
	return true
}

// Every byte of good ones is made every other byte.
func TestDecodeOfChangedBytes(t *testing.T) {
	for _, s := range []api.Sig{
		{R: api.U384{1}, S: api.U384{128}}, {R: some("R"), S: some("S")}, {R: nearN(-1), S: number(power(376))},
	} {
		good := toldBy(t, s)
		for i := range good {
			for x := range 256 {
				b := slices.Clone(good)
				b[i] = byte(x)
				checkAsDecoded(t, b)
			}
		}
	}
}

// All lists of up to six bytes of those that tell something.
func TestDecodeOfShortLists(t *testing.T) {
	some := []byte{0, 1, 2, 3, 0x22, 0x7f, 0x80, 0xff}
	read := 0
	for n := range 7 {
		body := make([]byte, n)
		for k := range 1 << (3 * n) {
			for i := range body {
				body[i] = some[k>>(3*i)&7]
			}
			if checkAsDecoded(t, row(listHead, body)) {
				read++
			}
		}
	}
	// Two numbers of a byte, neither of which is 0: 1, 2, 3, 22 or 7f each.
	if read != 25 {
		t.Errorf("%d were read", read)
	}
}

// Rows of elements, some good, some not.
func TestDecodeOfManyRows(t *testing.T) {
	r := rand.New(rand.NewSource(15))
	heads := []byte{2, 2, 2, 2, 2, 2, 2, 2, 3, 0x22, 0x82}
	sizes := []int{0, 1, 2, 8, 47, 48, 49, 50, 64, 65}
	firsts := []byte{0, 0, 1, 0x7f, 0x80, 0xff}
	read := 0
	for range 30000 {
		var kids []byte
		for range 2 + r.Intn(8)/7 {
			body := make([]byte, sizes[r.Intn(len(sizes))])
			r.Read(body)
			for i := range min(2, len(body)) {
				body[i] = firsts[r.Intn(len(firsts))]
			}
			kids = append(kids, row(heads[r.Intn(len(heads))], body)...)
		}
		if checkAsDecoded(t, row(listHead, kids)) {
			read++
		}
	}
	if read < 500 {
		t.Errorf("only %d were read", read)
	}
}
