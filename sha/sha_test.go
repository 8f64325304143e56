package sha

import (
	"bytes"
	"crypto/sha512"
	"encoding"
	"encoding/binary"
	"encoding/hex"
	"math/big"
	"math/rand"
	"slices"
	"strings"
	"testing"

	"escutcheon/api"
)

const top = 1<<64 - 1

// bytesOf are n bytes of which no two near each other are the same.
func bytesOf(n int) []byte {
	b := make([]byte, n)
	for i := range b {
		b[i] = byte(i*151 + i/256*7 + 1)
	}
	return b
}

// blocks are those that the issue names (all 00, all ff), and others.
func blocks() [][]byte {
	all := [][]byte{
		make([]byte, 128),
		bytes.Repeat([]byte{0xff}, 128),
		bytesOf(128),
		append(append(bytesOf(111), 0x80), make([]byte, 16)...),
	}
	// A bit alone shows which words hang on which.
	for word := range 16 {
		b := make([]byte, 128)
		b[word*8+word%8] = 1 << (word % 8)
		all = append(all, b)
	}
	r := rand.New(rand.NewSource(7))
	for range 40 {
		b := make([]byte, 128)
		r.Read(b)
		all = append(all, b)
	}
	return all
}

// manyWords are eight words each: all 0, all ones, one alone that is all ones or 1, those at first, and others.
func manyWords() [][8]uint64 {
	all := [][8]uint64{{}, {top, top, top, top, top, top, top, top}, {1, 2, 3, 4, 5, 6, 7, 8}, rootWords()}
	for i := range 8 {
		var one, most, none [8]uint64
		one[i], most[i] = 1, top
		for j := range none {
			none[j] = top
		}
		none[i] = 0
		all = append(all, one, most, none)
	}
	r := rand.New(rand.NewSource(77))
	for range 40 {
		var v [8]uint64
		for i := range v {
			switch r.Intn(4) {
			case 0:
				v[i] = 0
			case 1:
				v[i] = top
			default:
				v[i] = r.Uint64()
			}
		}
		all = append(all, v)
	}
	return all
}

// The constants, from the roots that they are made of.

func primes(n int) []int64 {
	var all []int64
	for p := int64(2); len(all) < n; p++ {
		if big.NewInt(p).ProbablyPrime(0) {
			all = append(all, p)
		}
	}
	return all
}

// rootPart is the first 64 bits of the fractional part of a prime's root: it is looked for bit by bit
// as the greatest number whose power isn't above the prime times 2^(64 degree).
func rootPart(prime, degree int64) uint64 {
	whole := new(big.Int).Lsh(big.NewInt(prime), uint(64*degree))
	root := new(big.Int)
	for bit := 64 + 9; bit >= 0; bit-- {
		next := new(big.Int).SetBit(root, bit, 1)
		if new(big.Int).Exp(next, big.NewInt(degree), nil).Cmp(whole) <= 0 {
			root = next
		}
	}
	return new(big.Int).And(root, new(big.Int).SetUint64(top)).Uint64()
}

func rootWords() [8]uint64 {
	var h [8]uint64
	for i, p := range primes(16)[8:] {
		h[i] = rootPart(p, 2)
	}
	return h
}

func rootConstants() []uint64 {
	var k []uint64
	for _, p := range primes(80) {
		k = append(k, rootPart(p, 3))
	}
	return k
}

// What the chapter says, told another way: by math/big, and bit by bit.

// sum is a sum modulo 2^64.
func sum(words ...uint64) uint64 {
	all := new(big.Int)
	for _, w := range words {
		all.Add(all, new(big.Int).SetUint64(w))
	}
	return all.And(all, new(big.Int).SetUint64(top)).Uint64()
}

// bitsOf is a word's bits, the highest first.
func bitsOf(w uint64) string {
	return new(big.Int).SetBit(new(big.Int).SetUint64(w), 64, 1).Text(2)[1:]
}

func wordOf(bits string) uint64 {
	n, ok := new(big.Int).SetString(bits, 2)
	if !ok {
		panic("no bits")
	}
	return n.Uint64()
}

func turned(w uint64, by int) uint64 { b := bitsOf(w); return wordOf(b[64-by:] + b[:64-by]) }

func shifted(w uint64, by int) uint64 { return wordOf(strings.Repeat("0", by) + bitsOf(w)[:64-by]) }

// eachBit makes a word of what f makes of three words' bits.
func eachBit(x, y, z uint64, f func(x, y, z byte) bool) uint64 {
	var told strings.Builder
	bx, by, bz := bitsOf(x), bitsOf(y), bitsOf(z)
	for i := range 64 {
		if f(bx[i], by[i], bz[i]) {
			told.WriteByte('1')
		} else {
			told.WriteByte('0')
		}
	}
	return wordOf(told.String())
}

// choice is y's bits where x has 1, z's where it has 0.
func choice(x, y, z uint64) uint64 {
	return eachBit(x, y, z, func(x, y, z byte) bool { return x == '1' && y == '1' || x == '0' && z == '1' })
}

// most is 1 where at least two have 1.
func most(x, y, z uint64) uint64 {
	return eachBit(x, y, z, func(x, y, z byte) bool { return int(x)+int(y)+int(z) >= 3*'0'+2 })
}

func wantRound(v [8]uint64, k, w uint64) [8]uint64 {
	a, e := v[0], v[4]
	t1 := sum(v[7], turned(e, 14)^turned(e, 18)^turned(e, 41), choice(e, v[5], v[6]), k, w)
	t2 := sum(turned(a, 28)^turned(a, 34)^turned(a, 39), most(a, v[1], v[2]))
	return [8]uint64{sum(t1, t2), a, v[1], v[2], sum(v[3], t1), e, v[5], v[6]}
}

func wantSchedule(block []byte) []uint64 {
	var w []uint64
	for i := range 16 {
		w = append(w, binary.BigEndian.Uint64(block[8*i:]))
	}
	for i := 16; i < 80; i++ {
		s0 := turned(w[i-15], 1) ^ turned(w[i-15], 8) ^ shifted(w[i-15], 7)
		s1 := turned(w[i-2], 19) ^ turned(w[i-2], 61) ^ shifted(w[i-2], 6)
		w = append(w, sum(w[i-16], s0, w[i-7], s1))
	}
	return w
}

// wantStep is a block's step as the library makes it: its state can be laid in and read.
func wantStep(t *testing.T, h [8]uint64, block []byte) [8]uint64 {
	t.Helper()
	d := sha512.New384()
	state, err := d.(encoding.BinaryMarshaler).MarshalBinary()
	if err != nil {
		t.Fatal(err)
	}
	const magic = 4
	for i := range h {
		binary.BigEndian.PutUint64(state[magic+8*i:], h[i])
	}
	if err := d.(encoding.BinaryUnmarshaler).UnmarshalBinary(state); err != nil {
		t.Fatal(err)
	}
	d.Write(block)
	if state, err = d.(encoding.BinaryMarshaler).MarshalBinary(); err != nil {
		t.Fatal(err)
	}
	for i := range h {
		h[i] = binary.BigEndian.Uint64(state[magic+8*i:])
	}
	return h
}

// P7.1

func TestPadAtEdges(t *testing.T) {
	for _, c := range []struct{ n, length int }{
		{0, 128}, {1, 127}, {110, 18}, {111, 17}, {112, 144}, {113, 143}, {127, 129}, {128, 128}, {129, 127},
		{239, 17}, {240, 144}, {1<<50 - 17, 17}, {1<<50 - 1, 129}, {1 << 50, 128},
	} {
		p, err := Pad(c.n)
		if err != nil || len(p) != c.length {
			t.Errorf("Pad(%d) has %d bytes, %v; want %d", c.n, len(p), err, c.length)
		}
	}
}

func TestPadByItsWords(t *testing.T) {
	lengths := []int{1<<16 - 1, 1 << 16, 1<<32 - 1, 1 << 32, 1<<50 - 1, 1 << 50}
	for n := range 700 {
		lengths = append(lengths, n)
	}
	for _, n := range lengths {
		want := []byte{0x80}
		for (n+len(want))%128 != 112 {
			want = append(want, 0)
		}
		bits := new(big.Int).Mul(big.NewInt(int64(n)), big.NewInt(8))
		want = append(want, bits.FillBytes(make([]byte, 16))...)
		if p, err := Pad(n); err != nil || !bytes.Equal(p, want) {
			t.Errorf("Pad(%d) = %x, %v; want %x", n, p, err, want)
		}
	}
}

func TestPadTellsBitsWrittenOut(t *testing.T) {
	p, err := Pad(111)
	if got := hex.EncodeToString(p); err != nil || got != "80"+"00000000000000000000000000000378" {
		t.Errorf("Pad(111) = %s, %v", got, err)
	}
	p, err = Pad(1 << 50)
	want := "80" + strings.Repeat("00", 111) + "0000000000000000" + "0020000000000000"
	if got := hex.EncodeToString(p); err != nil || got != want {
		t.Errorf("Pad(2^50) = %s, %v", got, err)
	}
}

func TestPadOfWhatMayNotBe(t *testing.T) {
	for _, n := range []int{-1, -2, -17, -128, -1 << 50, -1 << 63, 1<<50 + 1, 1<<50 + 128, 1 << 51, 1<<63 - 1} {
		if p, err := Pad(n); p != nil || err != api.ErrArg {
			t.Errorf("Pad(%d) = %x, %v", n, p, err)
		}
	}
}

func TestPadIsNewMemory(t *testing.T) {
	p, _ := Pad(3)
	want := slices.Clone(p)
	for i := range p {
		p[i] = 0x55
	}
	if again, _ := Pad(3); !bytes.Equal(again, want) {
		t.Errorf("then %x; want %x", again, want)
	}
}

// P7.2

func TestBeginIsOfSquareRoots(t *testing.T) {
	want := rootWords()
	got := Begin()
	for i := range want {
		if got[i] != want[i] {
			t.Errorf("word %d: %016x; want %016x", i, got[i], want[i])
		}
	}
	if got[0] != 0xcbbb9d5dc1059ed8 {
		t.Errorf("the first is %016x", got[0])
	}
}

func TestConstantsAreOfCubeRoots(t *testing.T) {
	want := rootConstants()
	if len(constants) != len(want) {
		t.Fatalf("%d of them", len(constants))
	}
	for i := range want {
		if constants[i] != want[i] {
			t.Errorf("constant %d: %016x; want %016x", i, constants[i], want[i])
		}
	}
	if want[0] != 0x428a2f98d728ae22 {
		t.Errorf("the first is %016x", want[0])
	}
}

func TestBeginIsNewMemory(t *testing.T) {
	h := Begin()
	clear(h[:])
	if Begin() != rootWords() {
		t.Errorf("then %016x", Begin())
	}
}

func TestScheduleOfBlocks(t *testing.T) {
	for _, b := range blocks() {
		if w, err := Schedule(b); err != nil || !slices.Equal(w, wantSchedule(b)) {
			t.Errorf("Schedule(%x) = %016x, %v; want %016x", b, w, err, wantSchedule(b))
		}
	}
}

func TestScheduleWrittenOut(t *testing.T) {
	w, err := Schedule(make([]byte, 128))
	if err != nil || !slices.Equal(w, make([]uint64, 80)) {
		t.Errorf("of 00: %x, %v", w, err)
	}
	w, err = Schedule(bytes.Repeat([]byte{0xff}, 128))
	// Two words of all ones are -2; of all ones s0 is all ones shifted by 7, s1 by 6.
	const next = top>>7 + top>>6 - 2
	if err != nil || len(w) != 80 || w[0] != top || w[15] != top || w[16] != next || w[17] != next {
		t.Errorf("of ff: %x, %v", w, err)
	}
}

func TestRoundOfWords(t *testing.T) {
	r := rand.New(rand.NewSource(777))
	for _, v := range manyWords() {
		for _, k := range []uint64{0, 1, top, r.Uint64()} {
			for _, w := range []uint64{0, 1, top, r.Uint64()} {
				if got, want := Round(v, k, w), wantRound(v, k, w); got != want {
					t.Errorf("Round(%016x, %x, %x) = %016x; want %016x", v, k, w, got, want)
				}
			}
		}
	}
}

func TestRoundWrittenOut(t *testing.T) {
	if got := Round([8]uint64{}, 0, 0); got != [8]uint64{} {
		t.Errorf("of 0: %x", got)
	}
	if got := Round([8]uint64{}, top, 2); got != [8]uint64{0: 1, 4: 1} {
		t.Errorf("with a sum that goes round: %x", got)
	}
	// t1 is the sum of five words of all ones, so -5; t2 of two, so -2.
	var ones [8]uint64
	for i := range ones {
		ones[i] = top
	}
	want := ones
	want[0], want[4] = 1<<64-7, 1<<64-6
	if got := Round(ones, top, top); got != want {
		t.Errorf("of all ones: %x; want %x", got, want)
	}
}

func TestStepOfBlocks(t *testing.T) {
	for _, h := range manyWords() {
		for _, b := range blocks() {
			if got, err := Step(h, b); err != nil || got != wantStep(t, h, b) {
				t.Errorf("Step(%016x, %x) = %016x, %v; want %016x", h, b, got, err, wantStep(t, h, b))
			}
		}
	}
}

func TestStepIsEightyRounds(t *testing.T) {
	k := rootConstants()
	for _, b := range blocks()[:4] {
		for _, h := range manyWords()[:4] {
			w := wantSchedule(b)
			v := h
			for i := range 80 {
				v = wantRound(v, k[i], w[i])
			}
			for i := range v {
				v[i] = sum(v[i], h[i])
			}
			if got, err := Step(h, b); err != nil || got != v {
				t.Errorf("Step(%016x, %x) = %016x, %v; want %016x", h, b, got, err, v)
			}
		}
	}
}

func TestNoBlock(t *testing.T) {
	for _, n := range []int{0, 1, 64, 127, 129, 255, 256, 1280} {
		if w, err := Schedule(bytesOf(n)); w != nil || err != api.ErrArg {
			t.Errorf("Schedule of %d bytes: %x, %v", n, w, err)
		}
		if h, err := Step(Begin(), bytesOf(n)); h != [8]uint64{} || err != api.ErrArg {
			t.Errorf("Step of %d bytes: %x, %v", n, h, err)
		}
	}
	if w, err := Schedule(nil); w != nil || err != api.ErrArg {
		t.Errorf("Schedule of nil: %x, %v", w, err)
	}
	if h, err := Step(Begin(), nil); h != [8]uint64{} || err != api.ErrArg {
		t.Errorf("Step of nil: %x, %v", h, err)
	}
}

func TestBlocksAndWordsStay(t *testing.T) {
	// The block lies in the midst of other bytes: these stay as well.
	around := bytesOf(384)
	was := slices.Clone(around)
	block := around[128:256]
	h := [8]uint64{1, 2, 3, 4, 5, 6, 7, 8}
	w, _ := Schedule(block)
	if _, err := Step(h, block); err != nil {
		t.Fatal(err)
	}
	Round(h, top, top)
	for i := range w {
		w[i] = top
	}
	if !bytes.Equal(around, was) {
		t.Errorf("the block is now %x", around)
	}
	if h != [8]uint64{1, 2, 3, 4, 5, 6, 7, 8} {
		t.Errorf("the words are now %x", h)
	}
	if again, _ := Schedule(block); !slices.Equal(again, wantSchedule(block)) {
		t.Errorf("then %016x", again)
	}
}

// P7.3

func TestSumWrittenOut(t *testing.T) {
	for text, want := range map[string]string{
		"": "38b060a751ac96384cd9327eb1b1e36a21fdb71114be0743" +
			"4c0cc7bf63f6e1da274edebfe76f65fbd51ad2f14898b95b",
		"abc": "cb00753f45a35e8bb5a03d699ac65007272c32ab0eded163" +
			"1a8b605a43ff5bed8086072ba1e7cc2358baeca134c825a7",
		"abcdefghbcdefghicdefghijdefghijkefghijklfghijklmghijklmn" +
			"hijklmnoijklmnopjklmnopqklmnopqrlmnopqrsmnopqrstnopqrstu": "09330c33f71147e83d192fc782cd1b47" +
			"53111b173b3b05d22fa08086e3b0f712fcc7c71a557e2db966c3e9fa91746039",
		strings.Repeat("a", 1000000): "9d0e1809716474cb086e834e310a4a1ced149e9c00f24852" +
			"7972cec5704c2a5b07b8b3dc38ecc4ebae97ddd87f3d8985",
	} {
		if got := hex.EncodeToString(Sum([]byte(text))); got != want {
			t.Errorf("Sum of %d bytes = %s; want %s", len(text), got, want)
		}
	}
}

func TestSumOfEveryLength(t *testing.T) {
	lengths := []int{1000, 1023, 1024, 2000, 4095, 4096, 5000, 10007, 65536}
	// Among these are the issue's: 0, 1, 111, 112, 127, 128, 129, 239 and 240.
	for n := range 600 {
		lengths = append(lengths, n)
	}
	for _, n := range lengths {
		for _, b := range [][]byte{bytesOf(n), make([]byte, n), bytes.Repeat([]byte{0xff}, n)} {
			if want := sha512.Sum384(b); !bytes.Equal(Sum(b), want[:]) {
				t.Errorf("Sum of %d bytes = %x; want %x", n, Sum(b), want)
			}
		}
	}
}

func TestSumIsOfStepsOverPadded(t *testing.T) {
	for _, n := range []int{0, 1, 111, 112, 127, 128, 129, 239, 240, 700} {
		b := bytesOf(n)
		p, err := Pad(n)
		if err != nil {
			t.Fatal(err)
		}
		h := Begin()
		for block := range slices.Chunk(append(b, p...), 128) {
			if h, err = Step(h, block); err != nil {
				t.Fatal(err)
			}
		}
		var want []byte
		for _, w := range h[:6] {
			want = binary.BigEndian.AppendUint64(want, w)
		}
		if !bytes.Equal(Sum(bytesOf(n)), want) {
			t.Errorf("Sum of %d bytes = %x; want %x", n, Sum(bytesOf(n)), want)
		}
	}
	if got, want := Sum(nil), Sum([]byte{}); !bytes.Equal(got, want) {
		t.Errorf("Sum(nil) = %x; want %x", got, want)
	}
}

func TestSumLeavesBytesAlone(t *testing.T) {
	for _, n := range []int{0, 1, 111, 112, 127, 128, 129, 300} {
		// Behind the bytes is room that isn't theirs: the padding mustn't be laid into it.
		room := bytesOf(n + 300)
		was := slices.Clone(room)
		first := Sum(room[:n])
		if !bytes.Equal(room, was) {
			t.Fatalf("Sum of %d bytes changed what was handed in, or what lies behind", n)
		}
		kept := slices.Clone(first)
		clear(room)
		if !bytes.Equal(first, kept) {
			t.Fatalf("Sum of %d bytes shares memory with them", n)
		}
		for i := range first {
			first[i] ^= 0xff
		}
		if again := Sum(was[:n]); !bytes.Equal(again, kept) {
			t.Errorf("Sum of %d bytes is then %x; want %x", n, again, kept)
		}
	}
}
