package prim

import (
	"bytes"
	"encoding/asn1"
	"math"
	"math/big"
	"math/rand"
	"slices"
	"testing"

	"escutcheon/api"
)

// What the chapter says of identifiers, told another way: a body is cut behind its bytes below 80,
// and each piece is a number of the library, in base 128.

func wantOid(body []byte) ([]uint64, api.Code) {
	if len(body) == 0 || body[len(body)-1] > 0x7f {
		return nil, api.ErrForm
	}
	var pieces [][]byte
	for from, at := 0, 0; at < len(body); at++ {
		if body[at] < 0x80 {
			pieces, from = append(pieces, body[from:at+1]), at+1
		}
	}
	if slices.ContainsFunc(pieces, func(p []byte) bool { return p[0] == 0x80 }) {
		return nil, api.ErrForm
	}
	var l []uint64
	for i, p := range pieces {
		n := new(big.Int)
		for _, x := range p {
			n.Add(n.Mul(n, big.NewInt(128)), big.NewInt(int64(x&0x7f)))
		}
		most := int64(0xffffffff)
		if i == 0 {
			most += 80
		}
		if n.Cmp(big.NewInt(most)) > 0 {
			return nil, api.ErrRange
		}
		l = append(l, n.Uint64())
	}
	switch first := l[0]; {
	case first < 40:
		l = append([]uint64{0}, l...)
	case first < 80:
		l = append([]uint64{1, first - 40}, l[1:]...)
	default:
		l = append([]uint64{2, first - 80}, l[1:]...)
	}
	if len(l) > 16 {
		return nil, api.ErrLong
	}
	return l, 0
}

// wantOidOf is what the library writes of an identifier.
func wantOidOf(l []uint64) []byte {
	var id asn1.ObjectIdentifier
	for _, n := range l {
		id = append(id, int(n))
	}
	told, err := asn1.Marshal(id)
	if err != nil {
		panic(err)
	}
	// An identifier of 16 numbers has at most 75 bytes: its length has one.
	return told[2:]
}

// big7 is a number, seven bits a byte, by as many bits as may be.
func big7(n *big.Int) []byte {
	all := []byte{byte(n.Uint64() & 0x7f)}
	for n = new(big.Int).Rsh(n, 7); n.Sign() > 0; n = new(big.Int).Rsh(n, 7) {
		all = append([]byte{byte(n.Uint64()&0x7f) | 0x80}, all...)
	}
	return all
}

func seven(n uint64) []byte { return big7(new(big.Int).SetUint64(n)) }

// someOid is an identifier by chance, with edges among its numbers.
func someOid(r *rand.Rand) []uint64 {
	edges := []uint64{0, 1, 39, 40, 79, 80, 127, 128, 1<<14 - 1, 1 << 14, 1<<21 - 1, 1 << 21, 1<<28 - 1, 1 << 28, 1<<32 - 1, 1<<32 - 80, 1<<32 - 81}
	l := []uint64{uint64(r.Intn(3))}
	for n := 1 + r.Intn(15); len(l) <= n; {
		x := uint64(r.Uint32() >> r.Intn(32))
		if r.Intn(2) == 0 {
			x = edges[r.Intn(len(edges))]
		}
		if len(l) == 1 && l[0] < 2 {
			x %= 40
		}
		l = append(l, x)
	}
	return l
}

// Checks.

func checkOid(t *testing.T, body []byte, want []uint64) {
	t.Helper()
	if got, err := Oid(body); err != nil || !slices.Equal(got, want) {
		t.Errorf("Oid(%x) = %d, %v; want %d", body, got, err, want)
	}
}

func checkOidRefused(t *testing.T, body []byte, want api.Code) {
	t.Helper()
	if got, err := Oid(body); err != want || len(got) > 0 {
		t.Errorf("Oid(%x) = %d, %v; want error %d itself", body, got, err, want)
	}
}

// checkOidBoth holds Oid against wantOid.
func checkOidBoth(t *testing.T, body []byte) api.Code {
	t.Helper()
	want, code := wantOid(body)
	if code != 0 {
		checkOidRefused(t, body, code)
		return code
	}
	checkOid(t, body, want)
	return 0
}

func checkOidOf(t *testing.T, l []uint64, want []byte) {
	t.Helper()
	if got, err := OidOf(l); err != nil || !bytes.Equal(got, want) {
		t.Errorf("OidOf(%d) = %x, %v; want %x", l, got, err, want)
	}
}

func checkNoOid(t *testing.T, l []uint64) {
	t.Helper()
	if got, err := OidOf(l); err != api.ErrArg || len(got) > 0 {
		t.Errorf("OidOf(%d) = %x, %v; want ErrArg itself", l, got, err)
	}
}

// P13.3

func TestOidsWrittenOut(t *testing.T) {
	for _, c := range []struct {
		told string
		want []uint64
	}{
		{"2a 86 48 ce 3d 02 01", []uint64{1, 2, 840, 10045, 2, 1}}, // the chapter's
		{"2b 81 04 00 22", []uint64{1, 3, 132, 0, 34}},
		{"55 04 03", []uint64{2, 5, 4, 3}},
		{"55 1d 13", []uint64{2, 5, 29, 19}},
		{"88 37 03", []uint64{2, 999, 3}},
		{"00", []uint64{0, 0}},
		{"27", []uint64{0, 39}},
		{"28", []uint64{1, 0}},
		{"4f", []uint64{1, 39}},
		{"50", []uint64{2, 0}},
		{"77", []uint64{2, 39}},
		{"78", []uint64{2, 40}},
		{"7f", []uint64{2, 47}},
		{"81 00", []uint64{2, 48}},
		{"00 00 00", []uint64{0, 0, 0, 0}},
		{"2a 7f", []uint64{1, 2, 127}},
		{"2a 81 00", []uint64{1, 2, 128}},
		{"2a ff 7f", []uint64{1, 2, 16383}},
		{"2a 81 80 00", []uint64{1, 2, 16384}},
		{"2a 8f ff ff ff 7f", []uint64{1, 2, 1<<32 - 1}},
		{"8f ff ff ff 7f", []uint64{2, 1<<32 - 81}},
		{"90 80 80 80 4f", []uint64{2, 1<<32 - 1}},
		{"90 80 80 80 4f 8f ff ff ff 7f", []uint64{2, 1<<32 - 1, 1<<32 - 1}},
	} {
		checkOid(t, bytesFrom(c.told), c.want)
		checkOidOf(t, c.want, bytesFrom(c.told))
	}
}

func TestOidsOfNoForm(t *testing.T) {
	for _, told := range []string{
		"", "80", "80 00", "80 01", "80 80 01", "81", "ff", "86 48 ce",
		"2a 86", "2a 86 48 ce", "2a 80", "2a 80 01", "2a 80 00", "2a 86 48 80 3d", "2a 03 80 80 01", "2a 81 81 81",
	} {
		checkOidRefused(t, bytesFrom(told), api.ErrForm)
	}
	checkOidRefused(t, nil, api.ErrForm)
	checkOidRefused(t, []byte{}, api.ErrForm)
	// A byte 80 that begins no number is as good as any.
	checkOid(t, bytesFrom("81 80 00"), []uint64{2, 1<<14 - 80})
	checkOid(t, bytesFrom("2a 81 80 80 00 05"), []uint64{1, 2, 1 << 21, 5})
}

func TestOidsOutOfRange(t *testing.T) {
	for first := uint64(1<<32 + 70); first < 1<<32+90; first++ {
		body := append(seven(first), 5)
		if first <= 1<<32+79 {
			checkOid(t, body, []uint64{2, first - 80, 5})
		} else {
			checkOidRefused(t, body, api.ErrRange)
		}
	}
	for _, ahead := range [][]byte{{0x2a}, {0x2a, 5}, append([]byte{0x50}, make([]byte, 13)...)} {
		want, _ := wantOid(ahead)
		for n := uint64(1<<32 - 10); n < 1<<32+90; n++ {
			body := slices.Concat(ahead, seven(n))
			if n < 1<<32 {
				checkOid(t, body, append(slices.Clone(want), n))
			} else {
				checkOidRefused(t, body, api.ErrRange)
			}
		}
	}
	// Whoever drops the bits that don't fit into 32, 64 or more tells these as small numbers.
	for shift := uint(32); shift < 300; shift++ {
		n := new(big.Int).Lsh(big.NewInt(1), shift)
		for _, more := range []int64{0, 5, 1 << 20, -1} {
			told := new(big.Int).Add(n, big.NewInt(more))
			if shift == 32 && more == -1 {
				continue
			}
			for _, ahead := range []string{"2a", "2a 05", "55"} {
				checkOidRefused(t, slices.Concat(bytesFrom(ahead), big7(told)), api.ErrRange)
				checkOidRefused(t, slices.Concat(bytesFrom(ahead), big7(told), []byte{5}), api.ErrRange)
			}
			if told.Cmp(big.NewInt(1<<32+79)) > 0 {
				checkOidRefused(t, big7(told), api.ErrRange)
				checkOidRefused(t, append(big7(told), 5), api.ErrRange)
			}
		}
	}
	checkOidRefused(t, append(bytes.Repeat([]byte{0xff}, 100000), 0x7f), api.ErrRange)
	checkOidRefused(t, append(append([]byte{0x2a, 0x81}, bytes.Repeat([]byte{0x80}, 100000)...), 5), api.ErrRange)
}

func TestLongOids(t *testing.T) {
	for n := 1; n <= 40; n++ {
		body := append([]byte{0x2a}, bytesOf(n, 7)...)
		for i := range body {
			body[i] &= 0x7f
		}
		want, code := wantOid(body)
		if (code == api.ErrLong) != (n+2 > 16) {
			t.Fatal(n, code)
		}
		if code == 0 {
			checkOid(t, body, want)
		} else {
			checkOidRefused(t, body, api.ErrLong)
		}
	}
	// Each number of as many bytes as may be: bytes aren't counted, numbers are.
	greatest := seven(1<<32 - 1)
	for n := range 20 {
		body := append([]byte{0x50}, bytes.Repeat(greatest, n)...)
		if n <= 14 {
			checkOid(t, body, append([]uint64{2, 0}, slices.Repeat([]uint64{1<<32 - 1}, n)...))
		} else {
			checkOidRefused(t, body, api.ErrLong)
		}
	}
	checkOidRefused(t, make([]byte, 16), api.ErrLong)
	checkOid(t, make([]byte, 15), make([]uint64, 16))
	checkOidRefused(t, make([]byte, 1<<20), api.ErrLong)
}

// More than one thing is amiss: first the form of any number, then the range of any, then how many they are.
func TestOidsAmissInOrder(t *testing.T) {
	great, greatFirst := seven(1<<32), seven(1<<32+80)
	many := bytes.Repeat([]byte{5}, 30)
	for _, c := range []struct {
		parts [][]byte
		want  api.Code
	}{
		{[][]byte{greatFirst, {0x80, 1}}, api.ErrForm},
		{[][]byte{greatFirst, {0x81}}, api.ErrForm},
		{[][]byte{{0x2a}, great, {0x80, 1}}, api.ErrForm},
		{[][]byte{{0x2a}, great, {0xff}}, api.ErrForm},
		{[][]byte{{0x80, 1}, great}, api.ErrForm},
		{[][]byte{many, {0x80, 1}}, api.ErrForm},
		{[][]byte{many, {0x81}}, api.ErrForm},
		{[][]byte{{0x80, 1}, many}, api.ErrForm},
		{[][]byte{many, great, {0x80, 1}}, api.ErrForm},
		{[][]byte{many, great, {0x80}}, api.ErrForm},
		{[][]byte{many, great, many, {0x81}}, api.ErrForm},
		{[][]byte{greatFirst, many, great, {0x80, 0}}, api.ErrForm},
		{[][]byte{great[:len(great)-1]}, api.ErrForm},
		{[][]byte{{0x80}, great}, api.ErrForm},
		{[][]byte{many, great}, api.ErrRange},
		{[][]byte{great, many, great}, api.ErrRange},
		{[][]byte{greatFirst, many}, api.ErrRange},
		{[][]byte{many, great, many}, api.ErrRange},
		{[][]byte{many[:15], great}, api.ErrRange},
		{[][]byte{many[:14], great}, api.ErrRange},
		{[][]byte{many[:16], great}, api.ErrRange},
		{[][]byte{great, many}, api.ErrLong}, // 2^32 may be the first
		{[][]byte{many}, api.ErrLong},
	} {
		checkOidRefused(t, slices.Concat(c.parts...), c.want)
	}
}

func TestManyOids(t *testing.T) {
	told := map[api.Code]int{}
	for _, body := range append(rows(2, allBytes()), rows(7, []byte{0, 0x28, 0x50, 0x7f, 0x80, 0x81, 0xff})...) {
		told[checkOidBoth(t, body)]++
	}
	r := rand.New(rand.NewSource(3))
	some := []byte{0, 1, 39, 40, 79, 80, 0x7f, 0x80, 0x81, 0x8f, 0x90, 0xff}
	for range 100000 {
		b := make([]byte, 1+r.Intn(40))
		for i := range b {
			b[i] = some[r.Intn(len(some))]
			if r.Intn(3) > 0 {
				b[i] &= 0x7f
			}
		}
		told[checkOidBoth(t, b)]++
	}
	if told[0] < 1000 || told[api.ErrForm] < 1000 || told[api.ErrRange] < 1000 || told[api.ErrLong] < 1000 {
		t.Error("too few of a kind were tried", told)
	}
}

func TestManyOidsOf(t *testing.T) {
	r := rand.New(rand.NewSource(4))
	for range 50000 {
		l := someOid(r)
		checkOidOf(t, l, wantOidOf(l))
	}
	for second := range uint64(300) {
		for first := range uint64(3) {
			l := []uint64{first, second}
			if first < 2 && second >= 40 {
				checkNoOid(t, l)
				continue
			}
			checkOidOf(t, l, wantOidOf(l))
			checkOidOf(t, append(l, 128), wantOidOf(append(l, 128)))
		}
	}
}

func TestNoOids(t *testing.T) {
	checkNoOid(t, nil)
	checkNoOid(t, []uint64{})
	for first := range uint64(4) {
		checkNoOid(t, []uint64{first})
	}
	for n := 2; n <= 16; n++ {
		checkOidOf(t, make([]uint64, n), make([]byte, n-1))
	}
	for _, n := range []int{17, 18, 40, 1000} {
		checkNoOid(t, make([]uint64, n))
		checkNoOid(t, append([]uint64{2, 5}, make([]uint64, n-2)...))
	}
	for _, first := range []uint64{3, 4, 40, 80, 255, 256, 1<<32 - 1, 1 << 32, 1 << 63, math.MaxUint64} {
		checkNoOid(t, []uint64{first, 0})
		checkNoOid(t, []uint64{first, 39, 1})
		checkNoOid(t, []uint64{first, 40, 1})
	}
	for _, first := range []uint64{0, 1} {
		checkOidOf(t, []uint64{first, 39, 1}, []byte{byte(first)*40 + 39, 1})
		for _, second := range []uint64{40, 41, 79, 80, 127, 128, 1<<32 - 1, 1 << 32, math.MaxUint64} {
			checkNoOid(t, []uint64{first, second, 1})
			checkNoOid(t, []uint64{first, second})
		}
	}
	for _, n := range []uint64{1 << 32, 1<<32 + 1, 1<<32 + 5, 1<<32 + 79, 1 << 33, 1 << 63, math.MaxUint64, math.MaxUint64 - 79, math.MaxUint64 - 80} {
		checkNoOid(t, []uint64{2, n})
		for place := 1; place < 16; place++ {
			l := append([]uint64{2}, make([]uint64, 15)...)
			l[place] = 1<<32 - 1
			checkOidOf(t, l, wantOidOf(l))
			checkOidOf(t, l[:place+1], wantOidOf(l[:place+1]))
			l[place] = n
			checkNoOid(t, l)
			checkNoOid(t, l[:place+1])
		}
	}
}
