package limb

import (
	"bytes"
	"math/big"
	"math/rand"
	"testing"

	"escutcheon/api"
)

const top = 1<<64 - 1

var most = api.U384{top, top, top, top, top, top}

// edges are the numbers at which a carry, a borrow or a limb's end could go wrong.
func edges() []api.U384 {
	return []api.U384{
		{},
		{1},
		{2},
		{top - 1},
		{top},
		{0, 1},
		{1, 1},
		{top, top},
		{0, 0, 1},
		{0, 0, 0, 1},
		{0, 0, 0, 0, 1},
		{top, top, top, top, top},
		{0, 0, 0, 0, 0, 1},
		{top, top, top, top, top, top >> 1},
		{0, 0, 0, 0, 0, 1 << 63},
		{1, 0, 0, 0, 0, 1 << 63},
		{0, top, top, top, top, top},
		{top - 1, top, top, top, top, top},
		{0x0123456789abcdef, 0x1122334455667788, 0x99aabbccddeeff00, 0xfedcba9876543210, 0x0f1e2d3c4b5a6978, 0x8796a5b4c3d2e1f0},
		most,
	}
}

// numbers are the edges and others, many limbs of which are 0 or all ones, so that carries run far.
func numbers() []api.U384 {
	r := rand.New(rand.NewSource(384))
	all := edges()
	for range 60 {
		var a api.U384
		for i := range a {
			switch r.Intn(4) {
			case 0:
				a[i] = 0
			case 1:
				a[i] = top
			default:
				a[i] = r.Uint64()
			}
		}
		all = append(all, a)
	}
	return all
}

// eachPair calls f with every two of the numbers, and with what math/big takes them for.
func eachPair(f func(a, b api.U384, x, y *big.Int)) {
	all := numbers()
	for _, a := range all {
		for _, b := range all {
			f(a, b, bigOf(a[:]), bigOf(b[:]))
		}
	}
}

func bigOf(limbs []uint64) *big.Int {
	n := new(big.Int)
	for i := len(limbs) - 1; i >= 0; i-- {
		n.Lsh(n, 64)
		n.Or(n, new(big.Int).SetUint64(limbs[i]))
	}
	return n
}

func oneIf(ok bool) uint64 {
	if ok {
		return 1
	}
	return 0
}

// around is 2^384.
func around() *big.Int { return new(big.Int).Lsh(big.NewInt(1), 384) }

// P1.1

func TestAddExamples(t *testing.T) {
	for _, c := range []struct {
		a, b, sum api.U384
		carry     uint64
	}{
		{api.U384{}, api.U384{}, api.U384{}, 0},
		{api.U384{1}, api.U384{2}, api.U384{3}, 0},
		{api.U384{top}, api.U384{1}, api.U384{0, 1}, 0},
		{api.U384{top, top, top, top, top}, api.U384{1}, api.U384{0, 0, 0, 0, 0, 1}, 0},
		{most, api.U384{}, most, 0},
		{most, api.U384{1}, api.U384{}, 1},
		{api.U384{1}, most, api.U384{}, 1},
		{most, api.U384{0, 1}, api.U384{top}, 1},
		{most, most, api.U384{top - 1, top, top, top, top, top}, 1},
	} {
		if sum, carry := Add(c.a, c.b); sum != c.sum || carry != c.carry {
			t.Errorf("Add(%x, %x) = %x, %d; want %x, %d", c.a, c.b, sum, carry, c.sum, c.carry)
		}
	}
}

func TestSubExamples(t *testing.T) {
	for _, c := range []struct {
		a, b, rest api.U384
		borrow     uint64
	}{
		{api.U384{}, api.U384{}, api.U384{}, 0},
		{api.U384{3}, api.U384{2}, api.U384{1}, 0},
		{api.U384{0, 1}, api.U384{1}, api.U384{top}, 0},
		{api.U384{0, 0, 0, 0, 0, 1}, api.U384{1}, api.U384{top, top, top, top, top}, 0},
		{most, most, api.U384{}, 0},
		{api.U384{}, api.U384{1}, most, 1},
		{api.U384{}, most, api.U384{1}, 1},
		{api.U384{top}, api.U384{0, 1}, most, 1},
		{api.U384{top, top, top, top, top}, api.U384{0, 0, 0, 0, 0, 1}, most, 1},
	} {
		if rest, borrow := Sub(c.a, c.b); rest != c.rest || borrow != c.borrow {
			t.Errorf("Sub(%x, %x) = %x, %d; want %x, %d", c.a, c.b, rest, borrow, c.rest, c.borrow)
		}
	}
}

func TestAddIsTheSum(t *testing.T) {
	eachPair(func(a, b api.U384, x, y *big.Int) {
		sum, carry := Add(a, b)
		want := new(big.Int).Add(x, y)
		if carry != oneIf(want.Cmp(around()) >= 0) || bigOf(sum[:]).Cmp(want.Mod(want, around())) != 0 {
			t.Fatalf("Add(%x, %x) = %x, %d", a, b, sum, carry)
		}
	})
}

func TestSubIsTheDifference(t *testing.T) {
	eachPair(func(a, b api.U384, x, y *big.Int) {
		rest, borrow := Sub(a, b)
		want := new(big.Int).Sub(x, y)
		if borrow != oneIf(y.Cmp(x) > 0) || bigOf(rest[:]).Cmp(want.Mod(want, around())) != 0 {
			t.Fatalf("Sub(%x, %x) = %x, %d", a, b, rest, borrow)
		}
	})
}

// P1.2

func TestMulExamples(t *testing.T) {
	for _, c := range []struct {
		a, b    api.U384
		product api.U768
	}{
		{api.U384{}, most, api.U768{}},
		{api.U384{1}, most, api.U768{top, top, top, top, top, top}},
		{api.U384{0, 1}, api.U384{0, 1}, api.U768{0, 0, 1}},
		{api.U384{top}, api.U384{top}, api.U768{1, top - 1}},
		{api.U384{0, 0, 0, 0, 0, 1}, api.U384{0, 0, 0, 0, 0, 1}, api.U768{10: 1}},
		{most, api.U384{0, 1}, api.U768{0, top, top, top, top, top, top}},
		{most, most, api.U768{1, 0, 0, 0, 0, 0, top - 1, top, top, top, top, top}},
	} {
		if product := Mul(c.a, c.b); product != c.product {
			t.Errorf("Mul(%x, %x) = %x; want %x", c.a, c.b, product, c.product)
		}
	}
}

func TestMulIsTheProduct(t *testing.T) {
	eachPair(func(a, b api.U384, x, y *big.Int) {
		product := Mul(a, b)
		if bigOf(product[:]).Cmp(new(big.Int).Mul(x, y)) != 0 {
			t.Fatalf("Mul(%x, %x) = %x", a, b, product)
		}
	})
}

// P1.3

func TestLess(t *testing.T) {
	if Less(api.U384{1}, api.U384{2}) != 1 || Less(api.U384{2}, api.U384{1}) != 0 || Less(api.U384{2}, api.U384{2}) != 0 {
		t.Error("small numbers")
	}
	// A lower limb must not outweigh a higher one.
	if Less(api.U384{top}, api.U384{0, 1}) != 1 || Less(api.U384{0, 1}, api.U384{top}) != 0 {
		t.Error("2^64 - 1 and 2^64")
	}
	eachPair(func(a, b api.U384, x, y *big.Int) {
		if got := Less(a, b); got != oneIf(x.Cmp(y) < 0) {
			t.Fatalf("Less(%x, %x) = %d", a, b, got)
		}
	})
}

func TestSame(t *testing.T) {
	if Same(api.U384{3}, api.U384{3}) != 1 || Same(api.U384{3}, api.U384{2}) != 0 {
		t.Error("small numbers")
	}
	eachPair(func(a, b api.U384, x, y *big.Int) {
		if got := Same(a, b); got != oneIf(x.Cmp(y) == 0) {
			t.Fatalf("Same(%x, %x) = %d", a, b, got)
		}
	})
}

func TestSameSeesEveryBit(t *testing.T) {
	for _, a := range edges() {
		for i := range 384 {
			b := a
			b[i/64] ^= 1 << (i % 64)
			if Same(a, b) != 0 {
				t.Fatalf("bit %d of %x is not seen", i, a)
			}
		}
	}
}

func TestPickGoesByTheLowestBit(t *testing.T) {
	eachPair(func(a, b api.U384, _, _ *big.Int) {
		for _, bit := range []uint64{0, 2, 4, 1 << 32, 1 << 63, top - 1} {
			if Pick(bit, a, b) != a {
				t.Fatalf("Pick(%d, %x, %x) is not the first", bit, a, b)
			}
		}
		for _, bit := range []uint64{1, 3, 5, 1<<32 + 1, 1<<63 + 1, top} {
			if Pick(bit, a, b) != b {
				t.Fatalf("Pick(%d, %x, %x) is not the second", bit, a, b)
			}
		}
	})
}

func TestBitInside(t *testing.T) {
	for _, a := range numbers() {
		x := bigOf(a[:])
		for i := range 384 {
			if got := Bit(a, i); got != uint64(x.Bit(i)) {
				t.Fatalf("Bit(%x, %d) = %d", a, i, got)
			}
		}
	}
	if Bit(api.U384{1}, 0) != 1 || Bit(api.U384{5: 1 << 63}, 383) != 1 {
		t.Error("the lowest, or the highest")
	}
}

func TestBitOutside(t *testing.T) {
	const maxInt = int(^uint(0) >> 1)
	for _, i := range []int{-1, -2, -63, -64, -65, -384, -maxInt - 1, 384, 385, 447, 448, 768, maxInt} {
		if got := Bit(most, i); got != 0 {
			t.Errorf("Bit(2^384 - 1, %d) = %d", i, got)
		}
	}
}

// P1.4

func TestFromReadsTheHighestByteFirst(t *testing.T) {
	b := make([]byte, 48)
	for i := range b {
		b[i] = byte(i + 1)
	}
	want := api.U384{0x292a2b2c2d2e2f30, 0x2122232425262728, 0x191a1b1c1d1e1f20, 0x1112131415161718, 0x090a0b0c0d0e0f10, 0x0102030405060708}
	if a, err := From(b); a != want || err != nil {
		t.Errorf("%x, %v", a, err)
	}
	if a, err := From(bytes.Repeat([]byte{255}, 48)); a != most || err != nil {
		t.Errorf("%x, %v", a, err)
	}
	if a, err := From(make([]byte, 48)); a != (api.U384{}) || err != nil {
		t.Errorf("%x, %v", a, err)
	}
}

func TestFromWrongLengths(t *testing.T) {
	if a, err := From(nil); a != (api.U384{}) || err != api.ErrShort {
		t.Errorf("nil: %x, %v", a, err)
	}
	for _, n := range []int{0, 1, 8, 40, 47, 49, 50, 56, 96, 1000} {
		want := api.ErrShort
		if n > 48 {
			want = api.ErrMore
		}
		for _, fill := range []byte{0, 255} {
			if a, err := From(bytes.Repeat([]byte{fill}, n)); a != (api.U384{}) || err != want {
				t.Errorf("%d bytes: %x, %v", n, a, err)
			}
		}
	}
}

func TestFromGoesByLengthNotByCapacity(t *testing.T) {
	b := bytes.Repeat([]byte{7}, 100)
	if _, err := From(b[:47]); err != api.ErrShort {
		t.Error(err)
	}
	if _, err := From(b[10:58]); err != nil {
		t.Error(err)
	}
}

func TestBytesTellsTheHighestFirst(t *testing.T) {
	for _, a := range numbers() {
		if got := Bytes(a); !bytes.Equal(got, bigOf(a[:]).FillBytes(make([]byte, 48))) {
			t.Fatalf("Bytes(%x) = %x", a, got)
		}
	}
	if b := Bytes(api.U384{}); len(b) != 48 {
		t.Errorf("0 has %d bytes", len(b))
	}
}

// R2

func TestBytesAreNewMemory(t *testing.T) {
	first := Bytes(most)
	clear(first)
	if second := Bytes(most); !bytes.Equal(second, bytes.Repeat([]byte{255}, 48)) {
		t.Errorf("%x", second)
	}
}

func TestFromLeavesItsBytes(t *testing.T) {
	b := Bytes(api.U384{1, 2, 3, 4, 5, 6})
	a, err := From(b)
	if err != nil || !bytes.Equal(b, Bytes(api.U384{1, 2, 3, 4, 5, 6})) {
		t.Fatalf("%x, %v", b, err)
	}
	clear(b)
	if a != (api.U384{1, 2, 3, 4, 5, 6}) {
		t.Errorf("%x", a)
	}
}

// P1.5

func TestAddedIsTakenOffAgain(t *testing.T) {
	eachPair(func(a, b api.U384, _, _ *big.Int) {
		sum, carry := Add(a, b)
		if rest, borrow := Sub(sum, b); rest != a || borrow != carry {
			t.Fatalf("%x + %x: carried %d; then %x, borrowed %d", a, b, carry, rest, borrow)
		}
		rest, borrow := Sub(a, b)
		if sum, carry := Add(rest, b); sum != a || carry != borrow {
			t.Fatalf("%x - %x: borrowed %d; then %x, carried %d", a, b, borrow, sum, carry)
		}
	})
}

func TestMulGoesEitherWayRound(t *testing.T) {
	eachPair(func(a, b api.U384, _, _ *big.Int) {
		if Mul(a, b) != Mul(b, a) {
			t.Fatalf("%x, %x", a, b)
		}
	})
}

func TestBytesAreReadAsTheyWere(t *testing.T) {
	for _, a := range numbers() {
		if got, err := From(Bytes(a)); got != a || err != nil {
			t.Fatalf("From(Bytes(%x)) = %x, %v", a, got, err)
		}
	}
}
