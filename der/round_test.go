package der

import (
	"bytes"
	"math/rand"
	"slices"
	"testing"

	"escutcheon/api"
)

// P12.4

// checkRound finds that what can be written is read as it was, and written as those bytes again.
func checkRound(t *testing.T, x api.Tlv) {
	t.Helper()
	b, err := Write(x)
	if err != nil {
		t.Fatalf("Write(%s): %v", tell(x), err)
	}
	got, err := Parse(b)
	if err != nil || !same(got, x) {
		t.Errorf("%s is read as %s, %v", tell(x), tell(got), err)
	}
	checkWrite(t, got, b)
}

func TestWhatWasWrittenIsRead(t *testing.T) {
	for class := range 4 {
		for tag := range 31 {
			x := api.Tlv{Class: class, Tag: tag}
			made := x
			made.Made = true
			checkRound(t, x)
			checkRound(t, made)
			x.Body, made.Kids = bytesOf(tag*9, class), []api.Tlv{x, made}
			checkRound(t, x)
			checkRound(t, made)
		}
	}
	for n := range lengths() {
		x := api.Tlv{Class: 2, Tag: 3, Body: bytesOf(n, 5)}
		checkRound(t, x)
		checkRound(t, listOf(x, x))
		checkRound(t, listed(15, x))
	}
	checkRound(t, api.Tlv{Body: []byte{}, Kids: []api.Tlv{}})
	checkRound(t, api.Tlv{Made: true, Body: []byte{}, Kids: []api.Tlv{}})
	r := rand.New(rand.NewSource(14))
	for range 5000 {
		checkRound(t, someTlv(r, 1+r.Intn(16)))
	}
}

// Of all rows of three bytes, and of many of more, what is read is written as those bytes.
func TestWhatWasReadIsWritten(t *testing.T) {
	read := 0
	check := func(b []byte) {
		x, err := Parse(b)
		if err != nil {
			return
		}
		read++
		if got, err := Write(x); err != nil || !bytes.Equal(got, b) {
			t.Fatalf("%x is read as %s, and that is written as %x, %v", b, tell(x), got, err)
		}
		if n, err := Size(x); err != nil || n != len(b) {
			t.Fatalf("%x is read, and its size is %d, %v", b, n, err)
		}
	}
	for k := range 1 << 24 {
		// No row of three bytes is an element but by a length of 1: the others are tried at every fifth head.
		if k>>8&0xff != 1 && k>>16%5 != 0 {
			continue
		}
		check([]byte{byte(k >> 16), byte(k >> 8), byte(k)})
	}
	r := rand.New(rand.NewSource(15))
	some := []byte{0, 1, 2, 3, 4, 5, 6, 0x30, 0x31, 0xa0}
	for range 1000000 {
		b := make([]byte, 2+r.Intn(8))
		for i := range b {
			b[i] = some[r.Intn(len(some))]
		}
		b[1] = byte(len(b) - 2)
		check(b)
	}
	if read < 10000 {
		t.Errorf("only %d rows were elements", read)
	}
}

// Whatever is behind an element, or is missing of it, it is no other one.
func TestNoneBeginsAnother(t *testing.T) {
	r := rand.New(rand.NewSource(16))
	var all [][]byte
	for range 400 {
		x := someTlv(r, 1+r.Intn(4))
		b, err := Write(x)
		if err != nil {
			t.Fatal(err)
		}
		all = append(all, b)
		for _, behind := range [][]byte{{0}, {0xff}, {0x30}, {5, 0}, b} {
			checkRefused(t, slices.Concat(b, behind), amiss{len(b), api.ErrMore})
		}
		for n := range b {
			if got, err := Parse(b[:n]); err == nil || !isNone(got) {
				t.Fatalf("the first %d bytes of %s are read as %s", n, short(b), tell(got))
			}
		}
	}
	for i, a := range all {
		for j, b := range all {
			if i != j && bytes.HasPrefix(b, a) && !bytes.Equal(a, b) {
				t.Fatalf("%s begins %s", short(a), short(b))
			}
		}
	}
}

// The beginning of an element lacks something of the outermost one: that is told at 0 or at 1.
func TestBeginningsAreShort(t *testing.T) {
	for n := range lengths() {
		if n > 300 {
			continue
		}
		b := wantWrite(listOf(api.Tlv{Tag: 4, Body: bytesOf(n, 6)}, listOf()), nil)
		for cut := range b {
			checkRefused(t, b[:cut], amiss{min(cut, 1), api.ErrShort})
		}
	}
}
