package ghash

import (
	"bytes"
	"crypto/aes"
	"crypto/cipher"
	"encoding/binary"
	"encoding/hex"
	"math/big"
	"math/rand"
	"slices"
	"strings"
	"testing"
)

// What the chapter says, told another way: by polynomials, and by the library.

// polynomial has the bit i where the block has x^i.
func polynomial(a [16]byte) *big.Int {
	p := new(big.Int)
	for i := range 128 {
		p.SetBit(p, i, uint(a[i/8]>>(7-i%8)&1))
	}
	return p
}

func blockOf(p *big.Int) [16]byte {
	var a [16]byte
	for i := range 128 {
		a[i/8] |= byte(p.Bit(i)) << (7 - i%8)
	}
	return a
}

// wantMul multiplies all powers of x at first, and then takes the modulus off from above.
func wantMul(a, b [16]byte) [16]byte {
	p, q, long := polynomial(a), polynomial(b), new(big.Int)
	for i := range 128 {
		if q.Bit(i) == 1 {
			long.Xor(long, new(big.Int).Lsh(p, uint(i)))
		}
	}
	modulus := new(big.Int)
	for _, power := range []int{128, 7, 2, 1, 0} {
		modulus.SetBit(modulus, power, 1)
	}
	for power := 254; power >= 128; power-- {
		if long.Bit(power) == 1 {
			long.Xor(long, new(big.Int).Lsh(modulus, uint(power-128)))
		}
	}
	return blockOf(long)
}

// filled makes bytes anew, with noughts behind.
func filled(b []byte) []byte {
	all := slices.Clone(b)
	for len(all)%16 != 0 {
		all = append(all, 0)
	}
	return all
}

// wantHash is a sum of products: the first block by the highest power of h, the last by h itself.
func wantHash(h [16]byte, b []byte) [16]byte {
	all := filled(b)
	sum, power := [16]byte{}, h
	for end := len(all); end > 0; end -= 16 {
		sum = xor(sum, wantMul([16]byte(all[end-16:end]), power))
		power = wantMul(power, h)
	}
	return sum
}

func wholeBytes(aad, b []byte) []byte {
	all := slices.Concat(filled(aad), filled(b))
	all = binary.BigEndian.AppendUint64(all, 8*uint64(len(aad)))
	return binary.BigEndian.AppendUint64(all, 8*uint64(len(b)))
}

func wantWhole(h [16]byte, aad, b []byte) [16]byte { return wantHash(h, wholeBytes(aad, b)) }

// Inputs.

func xor(a, b [16]byte) [16]byte {
	for i := range a {
		a[i] ^= b[i]
	}
	return a
}

func one() [16]byte { return [16]byte{0x80} }

// oneBit is x^i.
func oneBit(i int) [16]byte {
	var a [16]byte
	a[i/8] = 0x80 >> (i % 8)
	return a
}

func filledWith(b byte) [16]byte { return [16]byte(bytes.Repeat([]byte{b}, 16)) }

func bytesFrom(told string) []byte {
	b, err := hex.DecodeString(strings.Join(strings.Fields(told), ""))
	if err != nil {
		panic(err)
	}
	return b
}

func blockFrom(told string) [16]byte { return [16]byte(bytesFrom(told)) }

// bytesOf are n bytes of which no two near each other are the same; another seed makes others.
func bytesOf(n, seed int) []byte {
	b := make([]byte, n)
	for i := range b {
		b[i] = byte(i*151 + i/256*7 + seed*29 + 1)
	}
	return b
}

// edges are blocks at which a bit's place, a half's end or the modulus could go wrong.
func edges() [][16]byte {
	all := [][16]byte{{}, filledWith(0xff), one(), filledWith(0x55), filledWith(0xaa), filledWith(0x01), filledWith(0x80), {0xe1}, {0: 0xc2, 15: 0x01}}
	for _, i := range []int{1, 2, 7, 8, 31, 32, 63, 64, 65, 120, 121, 126, 127} {
		all = append(all, oneBit(i), xor(oneBit(i), filledWith(0xff)))
	}
	return append(all, blockFrom("66e94bd4ef8a2c3b884cfa59ca342b2e"), blockFrom("00112233445566778899aabbccddeeff"))
}

// blocks are edges, and others.
func blocks() [][16]byte {
	all := edges()
	r := rand.New(rand.NewSource(10))
	for range 40 {
		var a [16]byte
		r.Read(a[:])
		all = append(all, a)
	}
	return all
}

// lengthsNamed are those that the issue names.
func lengthsNamed() []int { return []int{0, 1, 15, 16, 17, 31, 32, 33} }

// inputs are nil, and bytes of the lengths named: counted ones, all 0 and all ff.
func inputs(seed int) [][]byte {
	all := [][]byte{nil}
	for _, n := range lengthsNamed() {
		all = append(all, bytesOf(n, seed), make([]byte, n), bytes.Repeat([]byte{0xff}, n))
	}
	return all
}

// P10.1

func TestProductsWrittenOut(t *testing.T) {
	for _, c := range []struct{ a, b, want string }{
		// x^127 times x is x^128: 1 + x + x^2 + x^7.
		{"00000000000000000000000000000001", "40000000000000000000000000000000", "e1000000000000000000000000000000"},
		// x^63 times x goes from one half into the other.
		{"00000000000000010000000000000000", "40000000000000000000000000000000", "00000000000000008000000000000000"},
		// x^64 times itself is x^128, and x^127 times itself is x^254.
		{"00000000000000008000000000000000", "00000000000000008000000000000000", "e1000000000000000000000000000000"},
		{"00000000000000000000000000000001", "00000000000000000000000000000001", "e6080000000000000000000000000003"},
		// GCM's specification, test case 2: the first block by h.
		{"0388dace60b6a392f328c2b971b2fe78", "66e94bd4ef8a2c3b884cfa59ca342b2e", "5e2ec746917062882c85b0685353deb7"},
	} {
		if got := Mul(blockFrom(c.a), blockFrom(c.b)); got != blockFrom(c.want) {
			t.Errorf("Mul(%s, %s) = %x; want %s", c.a, c.b, got, c.want)
		}
	}
}

func TestProducts(t *testing.T) {
	for _, a := range blocks() {
		for _, b := range blocks() {
			if got, want := Mul(a, b), wantMul(a, b); got != want {
				t.Fatalf("Mul(%x, %x) = %x; want %x", a, b, got, want)
			}
		}
	}
}

func TestEachBitByEachBit(t *testing.T) {
	// The powers of x, each the one ahead moved by one place.
	var powers [255][16]byte
	p := big.NewInt(1)
	for i := range powers {
		powers[i] = blockOf(p)
		p.Lsh(p, 1)
		if p.Bit(128) == 1 {
			p.SetBit(p, 128, 0)
			p.Xor(p, big.NewInt(1+2+4+128))
		}
	}
	for i := range 128 {
		for j := range 128 {
			if got, want := Mul(oneBit(i), oneBit(j)), powers[i+j]; got != want {
				t.Fatalf("x^%d times x^%d is %x; want %x", i, j, got, want)
			}
		}
	}
}

func TestEachBitByEdges(t *testing.T) {
	for i := range 128 {
		for _, b := range edges() {
			want := wantMul(oneBit(i), b)
			if got := Mul(oneBit(i), b); got != want {
				t.Fatalf("x^%d times %x is %x; want %x", i, b, got, want)
			}
			if got := Mul(b, oneBit(i)); got != want {
				t.Fatalf("%x times x^%d is %x; want %x", b, i, got, want)
			}
		}
	}
}

func TestNoughtTimesABlockIsNought(t *testing.T) {
	for _, b := range blocks() {
		if got := Mul([16]byte{}, b); got != [16]byte{} {
			t.Errorf("0 times %x is %x", b, got)
		}
		if got := Mul(b, [16]byte{}); got != [16]byte{} {
			t.Errorf("%x times 0 is %x", b, got)
		}
	}
}

// The field has 2^128 blocks: squared 128 times, each is itself again.
func TestSquaredSoOftenABlockIsItself(t *testing.T) {
	for _, a := range blocks() {
		power := a
		for range 128 {
			power = Mul(power, power)
		}
		if power != a {
			t.Errorf("%x, squared 128 times, is %x", a, power)
		}
	}
}

// P10.2

func TestHashOfNone(t *testing.T) {
	for _, h := range blocks() {
		for _, b := range [][]byte{nil, {}, make([]byte, 0, 100), bytesOf(100, 1)[:0], bytesOf(100, 1)[100:]} {
			if got := Hash(h, b); got != [16]byte{} {
				t.Errorf("Hash(%x, none) = %x", h, got)
			}
		}
	}
}

func TestHashWrittenOut(t *testing.T) {
	// GCM's specification: test case 2, also with the lengths behind, and what goes along in test case 4.
	for _, c := range []struct{ h, b, want string }{
		{
			"66e94bd4ef8a2c3b884cfa59ca342b2e", "0388dace60b6a392f328c2b971b2fe78",
			"5e2ec746917062882c85b0685353deb7",
		},
		{
			"66e94bd4ef8a2c3b884cfa59ca342b2e", "0388dace60b6a392f328c2b971b2fe78 00000000000000000000000000000080",
			"f38cbb1ad69223dcc3457ae5b6b0f885",
		},
		{
			"b83b533708bf535d0aa6e52980d53b78", "feedfacedeadbeeffeedfacedeadbeef",
			"ed56aaf8a72d67049fdb9228edba1322",
		},
		{
			"b83b533708bf535d0aa6e52980d53b78", "feedfacedeadbeeffeedfacedeadbeef abaddad2",
			"cd47221ccef0554ee4bb044c88150352",
		},
	} {
		if got := Hash(blockFrom(c.h), bytesFrom(c.b)); got != blockFrom(c.want) {
			t.Errorf("Hash(%s, %s) = %x; want %s", c.h, c.b, got, c.want)
		}
	}
}

func TestHash(t *testing.T) {
	for _, h := range blocks() {
		for _, b := range inputs(2) {
			if got, want := Hash(h, b), wantHash(h, b); got != want {
				t.Fatalf("Hash(%x, %x) = %x; want %x", h, b, got, want)
			}
		}
	}
}

func TestHashOfManyLengths(t *testing.T) {
	for _, h := range [][16]byte{filledWith(0xff), oneBit(1), blockFrom("66e94bd4ef8a2c3b884cfa59ca342b2e")} {
		for n := range 200 {
			b := bytesOf(n, 3)
			if got, want := Hash(h, b), wantHash(h, b); got != want {
				t.Fatalf("Hash(%x) of %d bytes = %x; want %x", h, n, got, want)
			}
		}
		b := bytesOf(10007, 3)
		if got, want := Hash(h, b), wantHash(h, b); got != want {
			t.Fatalf("Hash(%x) of %d bytes = %x; want %x", h, len(b), got, want)
		}
	}
}

// As the chapter has it, step by step.
func TestHashIsMadeOfItsSteps(t *testing.T) {
	for _, h := range blocks() {
		for _, b := range inputs(4) {
			var y [16]byte
			for all := filled(b); len(all) > 0; all = all[16:] {
				y = Mul(xor(y, [16]byte(all)), h)
			}
			if got := Hash(h, b); got != y {
				t.Fatalf("Hash(%x, %x) = %x; by its steps %x", h, b, got, y)
			}
		}
	}
}

func TestNoughtsFillABlock(t *testing.T) {
	h := filledWith(0xff)
	for _, b := range inputs(5) {
		if got, want := Hash(h, filled(b)), Hash(h, b); got != want {
			t.Errorf("%x: filled %x, else %x", b, got, want)
		}
		// As few noughts as make a block: one more block of them is another product.
		more := slices.Concat(filled(b), make([]byte, 16))
		if got, want := Hash(h, more), Mul(Hash(h, b), h); got != want {
			t.Errorf("%x with a block of noughts more: %x; want %x", b, got, want)
		}
	}
}

// Bytes are as many as there are, whatever lies behind them.
func TestRoomBehindDoesNotCount(t *testing.T) {
	h := blockFrom("66e94bd4ef8a2c3b884cfa59ca342b2e")
	for _, n := range lengthsNamed() {
		b, all := bytesOf(n, 6), slices.Concat(bytesOf(n, 6), bytes.Repeat([]byte{0xc3}, 64))
		if got, want := Hash(h, all[:n]), wantHash(h, b); got != want {
			t.Errorf("Hash of %d bytes with others behind = %x; want %x", n, got, want)
		}
		for _, m := range lengthsNamed() {
			c, more := bytesOf(m, 7), slices.Concat(bytesOf(m, 7), bytes.Repeat([]byte{0x3c}, 64))
			if got, want := Whole(h, all[:n], more[:m]), wantWhole(h, b, c); got != want {
				t.Errorf("Whole of %d and %d bytes with others behind = %x; want %x", n, m, got, want)
			}
		}
	}
}

// P10.3

func TestWholeWrittenOut(t *testing.T) {
	const hidden = `42831ec2217774244b7221b784d0d49c e3aa212f2c02a4e035c17e2329aca12e
		21d514b25466931c7d8f6a5aac84aa05 1ba30b396a0aac973d58e091`
	// GCM's specification, test cases 1 to 4.
	for _, c := range []struct{ h, aad, b, want string }{
		{"66e94bd4ef8a2c3b884cfa59ca342b2e", "", "", "00000000000000000000000000000000"},
		{"66e94bd4ef8a2c3b884cfa59ca342b2e", "", "0388dace60b6a392f328c2b971b2fe78", "f38cbb1ad69223dcc3457ae5b6b0f885"},
		{"b83b533708bf535d0aa6e52980d53b78", "", hidden + "473f5985", "7f1b32b81b820d02614f8895ac1d4eac"},
		{"b83b533708bf535d0aa6e52980d53b78", "feedfacedeadbeeffeedfacedeadbeef abaddad2", hidden, "698e57f70e6ecc7fd9463b7260a9ae5f"},
	} {
		if got := Whole(blockFrom(c.h), bytesFrom(c.aad), bytesFrom(c.b)); got != blockFrom(c.want) {
			t.Errorf("Whole(%s, %s, %s) = %x; want %s", c.h, c.aad, c.b, got, c.want)
		}
	}
}

func TestWhole(t *testing.T) {
	for _, h := range edges() {
		for _, aad := range inputs(8) {
			for _, b := range inputs(9) {
				if got, want := Whole(h, aad, b), wantWhole(h, aad, b); got != want {
					t.Fatalf("Whole(%x, %x, %x) = %x; want %x", h, aad, b, got, want)
				}
			}
		}
	}
}

func TestWholeIsHashOfAllOfIt(t *testing.T) {
	for _, h := range blocks() {
		for _, aad := range inputs(10) {
			for _, b := range inputs(11) {
				if got, want := Whole(h, aad, b), Hash(h, wholeBytes(aad, b)); got != want {
					t.Fatalf("Whole(%x, %x, %x) = %x; Hash of all of it %x", h, aad, b, got, want)
				}
			}
		}
	}
}

func TestNoneAndNilAreOne(t *testing.T) {
	for _, h := range blocks() {
		if got := Whole(h, nil, nil); got != [16]byte{} {
			t.Errorf("Whole(%x, nil, nil) = %x", h, got)
		}
		for _, b := range inputs(12) {
			if Whole(h, nil, b) != Whole(h, []byte{}, b) || Whole(h, b, nil) != Whole(h, b, []byte{}) {
				t.Errorf("%x, %x: nil and none differ", h, b)
			}
		}
	}
}

// By the block 80 00 .. 00 a sum is xor alone, so that the lengths are to be seen.
func TestLengthsAreTold(t *testing.T) {
	for _, c := range []struct {
		aad, b int
		want   string
	}{
		{0, 0, "0000000000000000 0000000000000000"},
		{1, 2, "0000000000000008 0000000000000010"},
		{31, 32, "00000000000000f8 0000000000000100"},
		{33, 31, "0000000000000108 00000000000000f8"},
		{1<<13 - 1, 1 << 13, "000000000000fff8 0000000000010000"},
		{1 << 21, 1<<21 - 1, "0000000001000000 0000000000fffff8"},
	} {
		if got := Whole(one(), make([]byte, c.aad), make([]byte, c.b)); got != blockFrom(c.want) {
			t.Errorf("%d and %d bytes: %x; want %s", c.aad, c.b, got, c.want)
		}
	}
	// So many bytes would take too long to go through.
	for _, c := range []struct {
		aad, b int
		want   string
	}{
		{1<<29 - 1, 1 << 29, "00000000fffffff8 0000000100000000"},
		{1<<31 - 1, 1 << 28, "00000003fffffff8 0000000080000000"},
		{0, 1<<31 - 1, "0000000000000000 00000003fffffff8"},
	} {
		if got := lengths(c.aad, c.b); got != blockFrom(c.want) {
			t.Errorf("%d and %d bytes: %x; want %s", c.aad, c.b, got, c.want)
		}
	}
}

func TestPartsDoNotRunIntoEachOther(t *testing.T) {
	h, seen := blockFrom("b83b533708bf535d0aa6e52980d53b78"), map[[16]byte]int{}
	all := bytesOf(33, 13)
	for n := range 34 {
		sum := Whole(h, all[:n], all[n:])
		if other, ok := seen[sum]; ok {
			t.Errorf("cut at %d and at %d the sum is %x", other, n, sum)
		}
		seen[sum] = n
	}
}

// A tag of the library is this sum, xor the code of the counter's first block.
func TestWholeIsWhatTheLibrarySumsUp(t *testing.T) {
	for seed, n := range lengthsNamed() {
		for _, m := range append(lengthsNamed(), 1000) {
			code, err := aes.NewCipher(bytesOf(32, seed))
			if err != nil {
				t.Fatal(err)
			}
			sealer, err := cipher.NewGCM(code)
			if err != nil {
				t.Fatal(err)
			}
			nonce, aad := bytesOf(12, n+m), bytesOf(n, 14)
			sealed := sealer.Seal(nil, nonce, bytesOf(m, 15), aad)
			var h, first [16]byte
			code.Encrypt(h[:], make([]byte, 16))
			code.Encrypt(first[:], append(nonce, 0, 0, 0, 1))
			want := xor([16]byte(sealed[m:]), first)
			if got := Whole(h, aad, sealed[:m]); got != want {
				t.Errorf("Whole(%x) of %d and %d bytes = %x; want %x", h, n, m, got, want)
			}
		}
	}
}

// P10.4

func TestProductsGoEitherWayRound(t *testing.T) {
	for _, a := range blocks() {
		for _, b := range blocks() {
			if ab, ba := Mul(a, b), Mul(b, a); ab != ba {
				t.Fatalf("%x times %x is %x; the other way round %x", a, b, ab, ba)
			}
		}
	}
}

func TestProductsGoInAnyOrder(t *testing.T) {
	for _, a := range edges() {
		for _, b := range edges() {
			for _, c := range blocks() {
				if left, right := Mul(Mul(a, b), c), Mul(a, Mul(b, c)); left != right {
					t.Fatalf("%x, %x, %x: %x; in another order %x", a, b, c, left, right)
				}
			}
		}
	}
}

func TestProductsSpreadOverSums(t *testing.T) {
	for _, a := range edges() {
		for _, b := range edges() {
			for _, c := range blocks() {
				if got, want := Mul(a, xor(b, c)), xor(Mul(a, b), Mul(a, c)); got != want {
					t.Fatalf("%x times the sum of %x and %x: %x; want %x", a, b, c, got, want)
				}
				if got, want := Mul(xor(b, c), a), xor(Mul(b, a), Mul(c, a)); got != want {
					t.Fatalf("the sum of %x and %x times %x: %x; want %x", b, c, a, got, want)
				}
			}
		}
	}
}

func TestOneIsOne(t *testing.T) {
	all := blocks()
	for i := range 128 {
		all = append(all, oneBit(i))
	}
	for _, b := range all {
		if got := Mul(one(), b); got != b {
			t.Errorf("1 times %x is %x", b, got)
		}
		if got := Mul(b, one()); got != b {
			t.Errorf("%x times 1 is %x", b, got)
		}
		if got := Hash(one(), b[:]); got != b {
			t.Errorf("Hash(1, %x) = %x", b, got)
		}
	}
}

// R2

func TestBlocksStay(t *testing.T) {
	for _, a := range blocks() {
		for _, b := range edges() {
			wasA, wasB := a, b
			Mul(a, b)
			Hash(a, b[:])
			Whole(a, b[:5], b[5:])
			if a != wasA || b != wasB {
				t.Errorf("%x, %x have become %x, %x", wasA, wasB, a, b)
			}
		}
	}
}

func TestBytesStay(t *testing.T) {
	h := filledWith(0x7b)
	for _, n := range lengthsNamed() {
		for _, m := range lengthsNamed() {
			// There is room behind both: who fills in place would write there.
			all := slices.Concat(bytesOf(20, 16), bytesOf(n, 17), bytes.Repeat([]byte{0x22}, 64))
			more := slices.Concat(bytesOf(20, 18), bytesOf(m, 19), bytes.Repeat([]byte{0x33}, 64))
			wasAll, wasMore := slices.Clone(all), slices.Clone(more)
			Hash(h, all[20:20+n])
			Whole(h, all[20:20+n], more[20:20+m])
			if !bytes.Equal(all, wasAll) || !bytes.Equal(more, wasMore) {
				t.Errorf("%d and %d bytes have changed, or what lies around them", n, m)
			}
		}
	}
}

// Both parts may be the same memory, or lie behind one another in it.
func TestPartsMayShareMemory(t *testing.T) {
	h, all := filledWith(0x7b), bytesOf(66, 20)
	for _, n := range lengthsNamed() {
		for _, m := range lengthsNamed() {
			want := wantWhole(h, bytesOf(66, 20)[:n], bytesOf(66, 20)[n:n+m])
			if got := Whole(h, all[:n], all[n:n+m]); got != want {
				t.Errorf("%d bytes and %d behind them: %x; want %x", n, m, got, want)
			}
		}
		if got, want := Whole(h, all[:n], all[:n]), wantWhole(h, bytesOf(n, 20), bytesOf(n, 20)); got != want {
			t.Errorf("%d bytes twice: %x; want %x", n, got, want)
		}
	}
}

func TestAnswersStay(t *testing.T) {
	h := blockFrom("66e94bd4ef8a2c3b884cfa59ca342b2e")
	for _, n := range lengthsNamed() {
		for _, m := range lengthsNamed() {
			aad, b, factor := bytesOf(n, 21), bytesOf(m, 22), h
			product, sum, whole := Mul(factor, one()), Hash(factor, b), Whole(factor, aad, b)
			// What was handed in is filled anew: the answers may not follow, and the next ones must.
			for i := range aad {
				aad[i] ^= 0xff
			}
			for i := range b {
				b[i] ^= 0xff
			}
			factor = xor(factor, filledWith(0xff))
			if product != h || sum != wantHash(h, bytesOf(m, 22)) || whole != wantWhole(h, bytesOf(n, 21), bytesOf(m, 22)) {
				t.Errorf("%d and %d bytes: an answer has changed with them", n, m)
			}
			if got, want := Hash(factor, b), wantHash(factor, b); got != want {
				t.Errorf("the same memory with other bytes: Hash = %x; want %x", got, want)
			}
			if got, want := Whole(factor, aad, b), wantWhole(factor, aad, b); got != want {
				t.Errorf("the same memory with other bytes: Whole = %x; want %x", got, want)
			}
			if got := Whole(h, bytesOf(n, 21), bytesOf(m, 22)); got != whole {
				t.Errorf("asked again, Whole = %x; want %x", got, whole)
			}
		}
	}
}
