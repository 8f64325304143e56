package prim

import (
	"bytes"
	"encoding/asn1"
	"encoding/hex"
	"math"
	"math/big"
	"math/rand"
	"slices"
	"strings"
	"testing"

	"escutcheon/api"
)

// What the chapter says of numbers, told another way: the library's big numbers and its DER.

// wantNumberOf is the body that the library writes; nil: the number has too many bytes.
func wantNumberOf(n []byte) []byte {
	x := new(big.Int).SetBytes(n)
	if x.BitLen() > 64*8 {
		return nil
	}
	told, err := asn1.Marshal(x)
	if err != nil {
		panic(err)
	}
	return told[2:]
}

// wantNumber reads a body as a number of two's complement, which the library must write as that body.
func wantNumber(body []byte) ([]byte, api.Code) {
	x := new(big.Int).SetBytes(body)
	if len(body) == 0 || x.Bit(len(body)*8-1) == 1 {
		return nil, api.ErrForm
	}
	// The fewest bytes that leave the highest bit free.
	if len(body) != x.BitLen()/8+1 {
		return nil, api.ErrForm
	}
	if x.BitLen() > 64*8 {
		return nil, api.ErrLong
	}
	return x.Bytes(), 0
}

// Inputs.

func bytesFrom(told string) []byte {
	b, err := hex.DecodeString(strings.Join(strings.Fields(told), ""))
	if err != nil {
		panic(err)
	}
	return b
}

// bytesOf are n bytes, the first of them as told, the others without a nought among them.
func bytesOf(n int, first byte) []byte {
	b := make([]byte, n)
	for i := range b {
		b[i] = byte(i*151) | 1
	}
	if n > 0 {
		b[0] = first
	}
	return b
}

// rows are all rows of up to n bytes, each one of those told.
func rows(n int, some []byte) [][]byte {
	all, last := [][]byte{nil}, [][]byte{nil}
	for range n {
		var next [][]byte
		for _, row := range last {
			for _, x := range some {
				next = append(next, append(slices.Clone(row), x))
			}
		}
		all, last = append(all, next...), next
	}
	return all
}

// numberBodies are those that the issue names, and many more.
func numberBodies() [][]byte {
	all := append(rows(2, allBytes()), rows(5, []byte{0, 1, 0x7f, 0x80, 0xff})...)
	for n := range 140 {
		for _, first := range []byte{0, 1, 0x7f, 0x80, 0xff} {
			b := bytesOf(n, first)
			all = append(all, b, append([]byte{0}, b...), append([]byte{0, 0}, b...), append([]byte{0xff}, b...))
		}
	}
	r := rand.New(rand.NewSource(1))
	for range 3000 {
		b := make([]byte, r.Intn(70))
		r.Read(b)
		all = append(all, b, append([]byte{0}, b...))
	}
	return all
}

func allBytes() []byte {
	b := make([]byte, 256)
	for i := range b {
		b[i] = byte(i)
	}
	return b
}

// Checks.

func checkNumber(t *testing.T, body, want []byte) {
	t.Helper()
	if got, err := Number(body); err != nil || !bytes.Equal(got, want) {
		t.Errorf("Number(%x) = %x, %v; want %x", body, got, err, want)
	}
}

func checkNumberRefused(t *testing.T, body []byte, want api.Code) {
	t.Helper()
	if got, err := Number(body); err != want || len(got) > 0 {
		t.Errorf("Number(%x) = %x, %v; want error %d itself", body, got, err, want)
	}
	if got, err := Small(body); err != want || got != 0 {
		t.Errorf("Small(%x) = %d, %v; want error %d itself", body, got, err, want)
	}
}

func checkNumberOf(t *testing.T, n, want []byte) {
	t.Helper()
	if got, err := NumberOf(n); err != nil || !bytes.Equal(got, want) {
		t.Errorf("NumberOf(%x) = %x, %v; want %x", n, got, err, want)
	}
}

func checkNumberTooLong(t *testing.T, n []byte) {
	t.Helper()
	if got, err := NumberOf(n); err != api.ErrLong || len(got) > 0 {
		t.Errorf("NumberOf(%x) = %x, %v; want ErrLong itself", n, got, err)
	}
}

// P13.1

func TestNumbersWrittenOut(t *testing.T) {
	for _, c := range []struct{ body, want string }{
		{"00 80", "80"}, // the chapter's
		{"00", ""},
		{"01", "01"},
		{"7f", "7f"},
		{"00 ff", "ff"},
		{"01 00", "01 00"},
		{"7f ff", "7f ff"},
		{"00 80 00", "80 00"},
		{"00 ff 00 00", "ff 00 00"},
		{"12 00 80 00 7f", "12 00 80 00 7f"},
	} {
		checkNumber(t, bytesFrom(c.body), bytesFrom(c.want))
		checkNumberOf(t, bytesFrom(c.want), bytesFrom(c.body))
	}
	for _, body := range []string{
		"80", "00 7f", // the chapter's
		"", "ff", "80 00", "ff ff", "ff 00 80", "00 00", "00 01", "00 00 80", "00 7f ff", "00 00 00",
	} {
		checkNumberRefused(t, bytesFrom(body), api.ErrForm)
	}
	checkNumberRefused(t, nil, api.ErrForm)
	checkNumberRefused(t, []byte{}, api.ErrForm)
}

func TestEveryFirstByteOfANumber(t *testing.T) {
	for first := range 256 {
		b, nought := []byte{byte(first)}, []byte{0, byte(first)}
		behind := append(nought, 0x55)
		switch {
		case first == 0:
			checkNumber(t, b, nil)
			checkNumberRefused(t, nought, api.ErrForm)
			checkNumberRefused(t, behind, api.ErrForm)
		case first < 0x80:
			checkNumber(t, b, b)
			checkNumberRefused(t, nought, api.ErrForm)
			checkNumberRefused(t, behind, api.ErrForm)
		default:
			checkNumberRefused(t, b, api.ErrForm)
			checkNumber(t, nought, b)
			checkNumber(t, behind, []byte{byte(first), 0x55})
		}
	}
}

func TestLongNumbers(t *testing.T) {
	for n := 60; n < 200; n++ {
		free, full := bytesOf(n, 0x7f), bytesOf(n, 0x80)
		least := bytesOf(n, 1)
		ahead := append([]byte{0}, full...)
		if n <= 64 {
			checkNumber(t, free, free)
			checkNumber(t, least, least)
			checkNumber(t, ahead, full)
		} else {
			checkNumberRefused(t, free, api.ErrLong)
			checkNumberRefused(t, least, api.ErrLong)
			checkNumberRefused(t, ahead, api.ErrLong)
		}
		// No such body and too long as well: the form is asked first.
		checkNumberRefused(t, full, api.ErrForm)
		checkNumberRefused(t, bytesOf(n, 0xff), api.ErrForm)
		checkNumberRefused(t, append([]byte{0}, free...), api.ErrForm)
		checkNumberRefused(t, make([]byte, n), api.ErrForm)
		checkNumberRefused(t, append([]byte{0, 0}, full...), api.ErrForm)
	}
	checkNumberRefused(t, bytesOf(1<<20, 0x7f), api.ErrLong)
	checkNumberRefused(t, bytesOf(1<<20, 0x80), api.ErrForm)
}

func TestManyNumbers(t *testing.T) {
	told := map[api.Code]int{}
	for _, body := range numberBodies() {
		want, code := wantNumber(body)
		told[code]++
		if code != 0 {
			checkNumberRefused(t, body, code)
			continue
		}
		checkNumber(t, body, want)
	}
	if told[0] < 100 || told[api.ErrForm] < 100 || told[api.ErrLong] < 100 {
		t.Error("too few of a kind were tried", told)
	}
}

func TestNumbersOf(t *testing.T) {
	for _, c := range []struct{ n, want string }{
		{"00 05", "05"}, // the chapter's
		{"", "00"},
		{"00", "00"},
		{"00 00 00", "00"},
		{"7f", "7f"},
		{"80", "00 80"},
		{"ff", "00 ff"},
		{"00 7f", "7f"},
		{"00 80", "00 80"},
		{"00 00 00 ff 00", "00 ff 00"},
		{"01 00 00", "01 00 00"},
	} {
		checkNumberOf(t, bytesFrom(c.n), bytesFrom(c.want))
	}
	checkNumberOf(t, nil, []byte{0})
	checkNumberOf(t, []byte{}, []byte{0})
	checkNumberOf(t, make([]byte, 64), []byte{0})
	checkNumberOf(t, make([]byte, 65), []byte{0})
	checkNumberOf(t, make([]byte, 5000), []byte{0})
	for _, noughts := range []int{0, 1, 2, 63, 64, 65, 1000} {
		ahead := make([]byte, noughts)
		for _, first := range []byte{1, 0x7f, 0x80, 0xff} {
			for n := 1; n <= 64; n++ {
				b := bytesOf(n, first)
				want := b
				if first >= 0x80 {
					want = append([]byte{0}, b...)
				}
				checkNumberOf(t, slices.Concat(ahead, b), want)
			}
			for _, n := range []int{65, 66, 128, 1000} {
				checkNumberTooLong(t, slices.Concat(ahead, bytesOf(n, first)))
			}
			// Noughts behind count.
			checkNumberTooLong(t, slices.Concat(ahead, []byte{first}, make([]byte, 64)))
		}
	}
}

func TestManyNumbersOf(t *testing.T) {
	for _, n := range numberBodies() {
		if want := wantNumberOf(n); want != nil {
			checkNumberOf(t, n, want)
			continue
		}
		checkNumberTooLong(t, n)
	}
}

// P13.2

func checkSmall(t *testing.T, body []byte, want int) {
	t.Helper()
	if got, err := Small(body); err != nil || got != want {
		t.Errorf("Small(%x) = %d, %v; want %d", body, got, err, want)
	}
}

func checkSmallRange(t *testing.T, body []byte) {
	t.Helper()
	if got, err := Small(body); err != api.ErrRange || got != 0 {
		t.Errorf("Small(%x) = %d, %v; want ErrRange itself", body, got, err)
	}
}

func checkSmallOf(t *testing.T, n int, want []byte) {
	t.Helper()
	if got, err := SmallOf(n); err != nil || !bytes.Equal(got, want) {
		t.Errorf("SmallOf(%d) = %x, %v; want %x", n, got, err, want)
	}
}

func TestSmallNumbersWrittenOut(t *testing.T) {
	for _, c := range []struct {
		n    int
		told string
	}{
		{0, "00"}, {1, "01"}, {127, "7f"}, {128, "00 80"}, {255, "00 ff"}, {256, "01 00"},
		{32767, "7f ff"}, {32768, "00 80 00"}, {65535, "00 ff ff"}, {65536, "01 00 00"},
		{1<<23 - 1, "7f ff ff"}, {1 << 23, "00 80 00 00"}, {1<<24 - 1, "00 ff ff ff"}, {1 << 24, "01 00 00 00"},
		{0x12345678, "12 34 56 78"}, {1<<31 - 2, "7f ff ff fe"}, {1<<31 - 1, "7f ff ff ff"},
	} {
		checkSmall(t, bytesFrom(c.told), c.n)
		checkSmallOf(t, c.n, bytesFrom(c.told))
	}
	for _, told := range []string{
		"00 80 00 00 00", "00 80 00 00 01", "00 ff ff ff ff", "01 00 00 00 00", "01 00 00 00 05", "7f ff ff ff ff",
		"00 80 00 00 00 00 00 00 00", "01 00 00 00 00 00 00 00 00", "01 00 00 00 00 00 00 00 07",
		"00 ff ff ff ff ff ff ff ff", "00 80 00 00 00 00 00 00 05",
	} {
		checkSmallRange(t, bytesFrom(told))
	}
	for n := 5; n <= 64; n++ {
		// 2^(8 n - 8): whoever drops what doesn't fit tells it as 0.
		checkSmallRange(t, append([]byte{1}, make([]byte, n-1)...))
		checkSmallRange(t, bytesOf(n, 0x7f))
		checkSmallRange(t, append([]byte{0}, bytesOf(n, 0x80)...))
	}
}

func TestNotSmall(t *testing.T) {
	for _, n := range []int{-1, -2, -127, -128, -129, -1 << 31, -1<<31 - 1, 1 << 31, 1<<31 + 1, 1<<32 - 1, 1 << 32, 1<<32 + 5,
		-1<<32 + 5, math.MaxInt, math.MinInt, math.MinInt + 5} {
		if got, err := SmallOf(n); err != api.ErrRange || len(got) > 0 {
			t.Errorf("SmallOf(%d) = %x, %v; want ErrRange itself", n, got, err)
		}
	}
}

func TestManySmallNumbers(t *testing.T) {
	check := func(n int) {
		told, err := asn1.Marshal(n)
		if err != nil {
			t.Fatal(err)
		}
		checkSmall(t, told[2:], n)
		checkSmallOf(t, n, told[2:])
	}
	for n := range 70000 {
		check(n)
		check(1<<31 - 1 - n)
	}
	r := rand.New(rand.NewSource(2))
	for range 20000 {
		check(r.Intn(1 << (1 + r.Intn(31))))
	}
	for _, body := range numberBodies() {
		want, code := wantNumber(body)
		if x := new(big.Int).SetBytes(want); code == 0 && x.BitLen() > 31 {
			checkSmallRange(t, body)
		} else if code == 0 {
			checkSmall(t, body, int(x.Int64()))
		}
	}
}
