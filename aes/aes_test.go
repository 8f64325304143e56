package aes

import (
	"bytes"
	"crypto/aes"
	"encoding/hex"
	"math/rand"
	"slices"
	"strings"
	"testing"

	"escutcheon/api"
)

// What the chapter says, told another way: by polynomials, by words of bytes, and by the library.

// wantProduct multiplies all powers of x at first, and then takes the modulus off from above.
func wantProduct(a, b byte) byte {
	var long int
	for i := range 8 {
		for j := range 8 {
			long ^= (int(a) >> i & 1) * (int(b) >> j & 1) << (i + j)
		}
	}
	for power := 14; power >= 8; power-- {
		if long>>power&1 == 1 {
			long ^= 0x11b << (power - 8)
		}
	}
	return byte(long)
}

// wantInverse is looked for among all bytes.
func wantInverse(a byte) byte {
	for b := range 256 {
		if wantProduct(a, byte(b)) == 1 {
			return byte(b)
		}
	}
	return 0
}

func wantSubstitute(a byte) byte {
	inverse := wantInverse(a)
	bit := func(b byte, i int) byte { return b >> (i % 8) & 1 }
	var all byte
	for i := range 8 {
		all |= (bit(inverse, i) ^ bit(inverse, i+4) ^ bit(inverse, i+5) ^ bit(inverse, i+6) ^ bit(inverse, i+7) ^ bit(0x63, i)) << i
	}
	return all
}

func wantMixed(s [16]byte) [16]byte {
	factors := [4][4]byte{{2, 3, 1, 1}, {1, 2, 3, 1}, {1, 1, 2, 3}, {3, 1, 1, 2}}
	var mixed [16]byte
	for c := range 4 {
		for r := range 4 {
			for k := range 4 {
				mixed[4*c+r] ^= wantProduct(factors[r][k], s[4*c+k])
			}
		}
	}
	return mixed
}

func wantTurned(s [16]byte) [16]byte {
	return [16]byte{
		s[0], s[5], s[10], s[15],
		s[4], s[9], s[14], s[3],
		s[8], s[13], s[2], s[7],
		s[12], s[1], s[6], s[11],
	}
}

func wantKeys(key []byte) [][16]byte {
	var words [][]byte
	for i := range 60 {
		if i < 8 {
			words = append(words, slices.Clone(key[4*i:4*i+4]))
			continue
		}
		t := slices.Clone(words[i-1])
		if i%8 == 0 {
			t = append(t[1:], t[0])
		}
		if i%4 == 0 {
			for k := range t {
				t[k] = sbox()[t[k]]
			}
		}
		if i%8 == 0 {
			t[0] ^= []byte{0x01, 0x02, 0x04, 0x08, 0x10, 0x20, 0x40}[i/8-1]
		}
		for k := range t {
			t[k] ^= words[i-8][k]
		}
		words = append(words, t)
	}
	var keys [][16]byte
	for i := range 15 {
		keys = append(keys, [16]byte(slices.Concat(words[4*i:4*i+4]...)))
	}
	return keys
}

func wantEncrypt(t *testing.T, key []byte, block [16]byte) [16]byte {
	t.Helper()
	cipher, err := aes.NewCipher(key)
	if err != nil {
		t.Fatal(err)
	}
	var code [16]byte
	cipher.Encrypt(code[:], block[:])
	return code
}

// sbox are all substitutes as FIPS 197 writes them out.
func sbox() []byte {
	return bytesFrom(`
		637c777bf26b6fc53001672bfed7ab76 ca82c97dfa5947f0add4a2af9ca472c0
		b7fd9326363ff7cc34a5e5f171d83115 04c723c31896059a071280e2eb27b275
		09832c1a1b6e5aa0523bd6b329e32f84 53d100ed20fcb15b6acbbe394a4c58cf
		d0efaafb434d338545f9027f503c9fa8 51a3408f929d38f5bcb6da2110fff3d2
		cd0c13ec5f974417c4a77e3d645d1973 60814fdc222a908846eeb814de5e0bdb
		e0323a0a4906245cc2d3ac629195e479 e7c8376d8dd54ea96c56f4ea657aae08
		ba78252e1ca6b4c6e8dd741f4bbd8b8a 703eb5664803f60e613557b986c11d9e
		e1f8981169d98e949b1e87e9ce5528df 8ca1890dbfe6426841992d0fb054bb16`)
}

func bytesFrom(told string) []byte {
	b, err := hex.DecodeString(strings.Join(strings.Fields(told), ""))
	if err != nil {
		panic(err)
	}
	return b
}

// Inputs.

// states are all 0, all ff, those of which one byte is not 0, at each place, and others.
func states() [][16]byte {
	all := [][16]byte{{}, [16]byte(bytes.Repeat([]byte{0xff}, 16)), [16]byte(bytesFrom("00112233445566778899aabbccddeeff"))}
	for place := range 16 {
		for _, b := range []byte{0x01, 0x02, 0x1b, 0x57, 0x7f, 0x80, 0x81, 0xff} {
			var one, other [16]byte
			for i := range other {
				other[i] = 0xff
			}
			one[place], other[place] = b, b-1
			all = append(all, one, other)
		}
	}
	r := rand.New(rand.NewSource(9))
	for range 100 {
		var s [16]byte
		r.Read(s[:])
		all = append(all, s)
	}
	return all
}

// keys are all 0, all ff, those of which one byte is not 0, at each place, and others.
func keys() [][]byte {
	counted := make([]byte, 32)
	for i := range counted {
		counted[i] = byte(i)
	}
	all := [][]byte{make([]byte, 32), bytes.Repeat([]byte{0xff}, 32), counted}
	for place := range 32 {
		one := make([]byte, 32)
		one[place] = 1 << (place % 8)
		all = append(all, one)
	}
	r := rand.New(rand.NewSource(99))
	for range 30 {
		key := make([]byte, 32)
		r.Read(key)
		all = append(all, key)
	}
	return all
}

// P9.1

func TestProductsWrittenOut(t *testing.T) {
	// The first is the chapter's; the rest of its row are FIPS 197's.
	for _, c := range []struct{ a, b, want byte }{
		{0x57, 0x83, 0xc1}, {0x57, 0x13, 0xfe}, {0x57, 0x02, 0xae}, {0x57, 0x04, 0x47}, {0x57, 0x08, 0x8e}, {0x57, 0x10, 0x07},
		{0x53, 0xca, 0x01}, {0x80, 0x02, 0x1b}, {0xff, 0x00, 0x00}, {0x00, 0x00, 0x00}, {0x01, 0xff, 0xff},
	} {
		if got := Product(c.a, c.b); got != c.want {
			t.Errorf("Product(%02x, %02x) = %02x; want %02x", c.a, c.b, got, c.want)
		}
	}
}

func TestAllProducts(t *testing.T) {
	for a := range 256 {
		for b := range 256 {
			if got, want := Product(byte(a), byte(b)), wantProduct(byte(a), byte(b)); got != want {
				t.Fatalf("Product(%02x, %02x) = %02x; want %02x", a, b, got, want)
			}
		}
	}
}

func TestSubstitutesWrittenOut(t *testing.T) {
	for _, c := range []struct{ a, want byte }{{0x53, 0xed}, {0x00, 0x63}} {
		if got := Substitute(c.a); got != c.want {
			t.Errorf("Substitute(%02x) = %02x; want %02x", c.a, got, c.want)
		}
	}
}

func TestAllSubstitutes(t *testing.T) {
	table := sbox()
	for a := range 256 {
		got := Substitute(byte(a))
		if want := wantSubstitute(byte(a)); got != want {
			t.Errorf("Substitute(%02x) = %02x; by its words %02x", a, got, want)
		}
		if got != table[a] {
			t.Errorf("Substitute(%02x) = %02x; written out is %02x", a, got, table[a])
		}
	}
}

// Each byte has a lane of its own: none may be seen in another.
func TestEachByteOfAStateIsSubstitutedAlone(t *testing.T) {
	for _, s := range states() {
		got := substituted(s)
		for i := range s {
			if want := sbox()[s[i]]; got[i] != want {
				t.Fatalf("%x: byte %d is %02x; want %02x", s, i, got[i], want)
			}
		}
	}
}

// P9.2

func TestTurnedWrittenOut(t *testing.T) {
	// FIPS 197, C.3, round 1: ahead of the rows' turn, and behind it.
	for _, c := range []struct{ s, want string }{
		{"000102030405060708090a0b0c0d0e0f", "00050a0f04090e03080d02070c01060b"},
		{"63cab7040953d051cd60e0e7ba70e18c", "6353e08c0960e104cd70b751bacad0e7"},
	} {
		if got := Turned([16]byte(bytesFrom(c.s))); got != [16]byte(bytesFrom(c.want)) {
			t.Errorf("Turned(%s) = %x; want %s", c.s, got, c.want)
		}
	}
}

func TestTurned(t *testing.T) {
	for _, s := range states() {
		if got, want := Turned(s), wantTurned(s); got != want {
			t.Errorf("Turned(%x) = %x; want %x", s, got, want)
		}
	}
}

func TestTurnedByteGoesToTheLeft(t *testing.T) {
	for c := range 4 {
		for r := range 4 {
			var s, want [16]byte
			s[4*c+r] = 0xa5
			want[4*((c-r+4)%4)+r] = 0xa5
			if got := Turned(s); got != want {
				t.Errorf("row %d, column %d: %x; want %x", r, c, got, want)
			}
		}
	}
}

func TestMixedWrittenOut(t *testing.T) {
	for _, c := range []struct{ s, want string }{
		{"db135345 f20a225c 01010101 c6c6c6c6", "8e4da1bc 9fdc589d 01010101 c6c6c6c6"},
		{"d4d4d4d5 2d26314c 00000000 ffffffff", "d5d5d7d6 4d7ebdf8 00000000 ffffffff"},
		{"01000000 00010000 00000100 00000001", "02010103 03020101 01030201 01010302"},
		{"6353e08c0960e104cd70b751bacad0e7", "5f72641557f5bc92f7be3b291db9f91a"}, // FIPS 197, C.3, round 1
	} {
		if got := Mixed([16]byte(bytesFrom(c.s))); got != [16]byte(bytesFrom(c.want)) {
			t.Errorf("Mixed(%s) = %x; want %s", c.s, got, c.want)
		}
	}
}

func TestMixed(t *testing.T) {
	for _, s := range states() {
		if got, want := Mixed(s), wantMixed(s); got != want {
			t.Errorf("Mixed(%x) = %x; want %x", s, got, want)
		}
	}
}

func TestMixedOfEveryByteAtEachPlace(t *testing.T) {
	for place := range 16 {
		for b := range 256 {
			var s [16]byte
			s[place] = byte(b)
			if got, want := Mixed(s), wantMixed(s); got != want {
				t.Fatalf("Mixed(%x) = %x; want %x", s, got, want)
			}
		}
	}
}

func TestFourTimesIsAsItWas(t *testing.T) {
	for _, s := range states() {
		if got := Turned(Turned(Turned(Turned(s)))); got != s {
			t.Errorf("%x, turned four times, is %x", s, got)
		}
		if got := Mixed(Mixed(Mixed(Mixed(s)))); got != s {
			t.Errorf("%x, mixed four times, is %x", s, got)
		}
	}
}

func TestStateStays(t *testing.T) {
	for _, s := range states() {
		was := s
		Turned(s)
		Mixed(s)
		if _, err := Encrypt(make([]byte, 32), s); err != nil || s != was {
			t.Errorf("%x has become %x, %v", was, s, err)
		}
	}
}

// P9.3

func TestKeysWrittenOut(t *testing.T) {
	// FIPS 197, A.3.
	all := bytesFrom(`
		603deb1015ca71be2b73aef0857d7781 1f352c073b6108d72d9810a30914dff4
		9ba354118e6925afa51a8b5f2067fcde a8b09c1a93d194cdbe49846eb75d5b9a
		d59aecb85bf3c917fee94248de8ebe96 b5a9328a2678a647983122292f6c79b3
		812c81addadf48ba24360af2fab8b464 98c5bfc9bebd198e268c3ba709e04214
		68007bacb2df331696e939e46c518d80 c814e20476a9fb8a5025c02d59c58239
		de1369676ccc5a71fa2563959674ee15 5886ca5d2e2f31d77e0af1fa27cf73c3
		749c47ab18501ddae2757e4f7401905a cafaaae3e4d59b349adf6acebd10190d
		fe4890d1e6188d0b046df344706c631e`)
	got, err := Keys(all[:32])
	if err != nil || len(got) != 15 {
		t.Fatalf("%d round keys, %v", len(got), err)
	}
	for i := range got {
		if want := [16]byte(all[16*i:]); got[i] != want {
			t.Errorf("round key %d is %x; want %x", i, got[i], want)
		}
	}
}

func TestKeys(t *testing.T) {
	for _, key := range keys() {
		if got, err := Keys(key); err != nil || !slices.Equal(got, wantKeys(key)) {
			t.Errorf("Keys(%x) = %x, %v; want %x", key, got, err, wantKeys(key))
		}
	}
}

func TestFirstRoundKeysAreTheKey(t *testing.T) {
	for _, key := range keys() {
		got, err := Keys(key)
		if err != nil || len(got) != 15 {
			t.Fatalf("Keys(%x): %d round keys, %v", key, len(got), err)
		}
		if !bytes.Equal(slices.Concat(got[0][:], got[1][:]), key) {
			t.Errorf("Keys(%x) begins with %x, %x", key, got[0], got[1])
		}
	}
}

func TestEncryptWrittenOut(t *testing.T) {
	const counted = "000102030405060708090a0b0c0d0e0f 101112131415161718191a1b1c1d1e1f"
	const sample = "603deb1015ca71be2b73aef0857d7781 1f352c073b6108d72d9810a30914dff4"
	noughts := strings.Repeat("00", 32)
	// The first is the chapter's; the four behind it are SP 800-38A's, F.1.5.
	for _, c := range []struct{ key, block, want string }{
		{counted, "00112233445566778899aabbccddeeff", "8ea2b7ca516745bfeafc49904b496089"},
		{sample, "6bc1bee22e409f96e93d7e117393172a", "f3eed1bdb5d2a03c064b5a7e3db181f8"},
		{sample, "ae2d8a571e03ac9c9eb76fac45af8e51", "591ccb10d410ed26dc5ba74a31362870"},
		{sample, "30c81c46a35ce411e5fbc1191a0a52ef", "b6ed21b99ca6f4f9f153e7b1beafed1d"},
		{sample, "f69f2445df4f9b17ad2b417be66c3710", "23304b7a39f9f3ff067d8d8f9e24ecc7"},
		{noughts, "00000000000000000000000000000000", "dc95c078a2408989ad48a21492842087"},
	} {
		got, err := Encrypt(bytesFrom(c.key), [16]byte(bytesFrom(c.block)))
		if err != nil || got != [16]byte(bytesFrom(c.want)) {
			t.Errorf("Encrypt(%s, %s) = %x, %v; want %s", c.key, c.block, got, err, c.want)
		}
	}
}

func TestEncrypt(t *testing.T) {
	for _, key := range keys() {
		for _, block := range states() {
			got, err := Encrypt(key, block)
			if want := wantEncrypt(t, key, block); err != nil || got != want {
				t.Fatalf("Encrypt(%x, %x) = %x, %v; want %x", key, block, got, err, want)
			}
		}
	}
}

// A row of codes, each of the one ahead, under a key that changes with it.
func TestEncryptInARow(t *testing.T) {
	key := make([]byte, 32)
	var block [16]byte
	for i := range 3000 {
		got, err := Encrypt(key, block)
		if want := wantEncrypt(t, key, block); err != nil || got != want {
			t.Fatalf("code %d: Encrypt(%x, %x) = %x, %v; want %x", i, key, block, got, err, want)
		}
		block = got
		for k := range block {
			key[(i%2)*16+k] ^= block[k]
		}
	}
}

func TestCodeIsMadeOfItsSteps(t *testing.T) {
	xor := func(a, b [16]byte) [16]byte {
		for i := range a {
			a[i] ^= b[i]
		}
		return a
	}
	replace := func(s [16]byte) [16]byte {
		for i := range s {
			s[i] = Substitute(s[i])
		}
		return s
	}
	for _, key := range keys() {
		round, err := Keys(key)
		if err != nil || len(round) != 15 {
			t.Fatalf("Keys(%x): %d round keys, %v", key, len(round), err)
		}
		for _, block := range states()[:20] {
			s := xor(block, round[0])
			for i := 1; i < 14; i++ {
				s = xor(Mixed(Turned(replace(s))), round[i])
			}
			want := xor(Turned(replace(s)), round[14])
			if got, err := Encrypt(key, block); err != nil || got != want {
				t.Fatalf("Encrypt(%x, %x) = %x, %v; by its steps %x", key, block, got, err, want)
			}
		}
	}
}

func testWrongKey(t *testing.T, key []byte) {
	t.Helper()
	if got, err := Keys(key); err != api.ErrArg || len(got) != 0 {
		t.Errorf("Keys of %d bytes = %x, %v", len(key), got, err)
	}
	for _, block := range states()[:5] {
		if got, err := Encrypt(key, block); err != api.ErrArg || got != [16]byte{} {
			t.Errorf("Encrypt of a key of %d bytes, %x = %x, %v", len(key), block, got, err)
		}
	}
}

func TestWrongKeys(t *testing.T) {
	testWrongKey(t, nil)
	lengths := []int{64, 128, 255, 256, 288, 1000, 1 << 16, 1<<16 + 32}
	for n := range 100 {
		if n != 32 {
			lengths = append(lengths, n)
		}
	}
	for _, n := range lengths {
		testWrongKey(t, make([]byte, n))
		testWrongKey(t, bytes.Repeat([]byte{0xff}, n))
	}
}

// A key is as long as it is, whatever lies behind it.
func TestRoomBehindAKeyDoesNotCount(t *testing.T) {
	all := bytes.Repeat([]byte{0xc3}, 64)
	for _, n := range []int{0, 16, 24, 31, 33} {
		testWrongKey(t, all[:n])
	}
	got, err := Encrypt(all[7:39], [16]byte{1})
	if want := wantEncrypt(t, all[:32], [16]byte{1}); err != nil || got != want {
		t.Errorf("%x, %v; want %x", got, err, want)
	}
}

func TestKeyStays(t *testing.T) {
	for _, key := range keys() {
		all := slices.Concat(bytes.Repeat([]byte{0x11}, 20), key, bytes.Repeat([]byte{0x22}, 20))
		was := slices.Clone(all)
		round, err := Keys(all[20:52])
		if err != nil {
			t.Fatal(err)
		}
		if _, err := Encrypt(all[20:52], [16]byte{}); err != nil {
			t.Fatal(err)
		}
		clear(round)
		if !bytes.Equal(all, was) {
			t.Errorf("the key %x has changed, or what lies around it", key)
		}
	}
	for _, n := range []int{0, 16, 24, 31, 33, 64} {
		key := bytes.Repeat([]byte{0x5a}, n)
		testWrongKey(t, key)
		if !bytes.Equal(key, bytes.Repeat([]byte{0x5a}, n)) {
			t.Errorf("a wrong key of %d bytes has changed", n)
		}
	}
}

func TestAnswersStay(t *testing.T) {
	for _, key := range keys() {
		given := slices.Clone(key)
		first, err1 := Keys(given)
		second, err2 := Keys(given)
		code, err3 := Encrypt(given, [16]byte{})
		if err1 != nil || err2 != nil || err3 != nil {
			t.Fatal(err1, err2, err3)
		}
		// What was handed in is filled anew, and an answer too: the others may not follow.
		for i := range given {
			given[i] ^= 0xff
		}
		clear(first)
		if !slices.Equal(second, wantKeys(key)) {
			t.Errorf("Keys(%x) shares memory with its key, or with another answer", key)
		}
		if third, err := Keys(key); err != nil || !slices.Equal(third, wantKeys(key)) {
			t.Errorf("then Keys(%x) = %x, %v", key, third, err)
		}
		if want := wantEncrypt(t, key, [16]byte{}); code != want {
			t.Errorf("Encrypt(%x, 0) has become %x; want %x", key, code, want)
		}
		if got, err := Keys(given); err != nil || !slices.Equal(got, wantKeys(given)) {
			t.Errorf("the same memory with other bytes: %x, %v; want %x", got, err, wantKeys(given))
		}
	}
}

// P9.4

func TestOneBitMakesAnotherCode(t *testing.T) {
	for _, key := range keys() {
		for _, block := range states()[:3] {
			code, err := Encrypt(key, block)
			if err != nil {
				t.Fatal(err)
			}
			for bit := range 128 {
				other := block
				other[bit/8] ^= 1 << (bit % 8)
				if got, err := Encrypt(key, other); err != nil || got == code {
					t.Errorf("Encrypt(%x, %x) = %x, %v, as that of %x", key, other, got, err, block)
				}
			}
		}
	}
}

func TestManyBlocksHaveManyCodes(t *testing.T) {
	for _, key := range keys()[:3] {
		seen := map[[16]byte]int{}
		for n := range 5000 {
			block := [16]byte{12: byte(n >> 24), 13: byte(n >> 16), 14: byte(n >> 8), 15: byte(n)}
			code, err := Encrypt(key, block)
			if err != nil {
				t.Fatal(err)
			}
			if other, ok := seen[code]; ok {
				t.Fatalf("%x: blocks %d and %d have the code %x", key, other, n, code)
			}
			seen[code] = n
		}
	}
}

// A code that the library makes a block of again is that of no other block.
func TestCodesLeadBack(t *testing.T) {
	for _, key := range keys() {
		cipher, err := aes.NewCipher(key)
		if err != nil {
			t.Fatal(err)
		}
		for _, block := range states() {
			code, err := Encrypt(key, block)
			if err != nil {
				t.Fatal(err)
			}
			var back [16]byte
			if cipher.Decrypt(back[:], code[:]); back != block {
				t.Fatalf("Encrypt(%x, %x) = %x, which is the code of %x", key, block, code, back)
			}
		}
	}
}

// Each step leads two states to two: so all of them do, whatever the key is.
func TestStepsLeadTwoToTwo(t *testing.T) {
	var substitutes [256]bool
	for a := range 256 {
		substitutes[Substitute(byte(a))] = true
	}
	for b, there := range substitutes {
		if !there {
			t.Errorf("%02x is no byte's substitute", b)
		}
	}
	// Turned and Mixed spread over sums, and are undone by three more of themselves.
	for i, s := range states() {
		other := states()[len(states())-1-i]
		both := s
		for k := range both {
			both[k] ^= other[k]
		}
		mixed, turned := Mixed(s), Turned(s)
		for k := range both {
			mixed[k] ^= Mixed(other)[k]
			turned[k] ^= Turned(other)[k]
		}
		if Mixed(both) != mixed || Turned(both) != turned {
			t.Fatalf("%x and %x: the step of their sum isn't the sum of their steps", s, other)
		}
	}
}
