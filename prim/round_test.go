package prim

import (
	"bytes"
	"math/rand"
	"slices"
	"testing"

	"escutcheon/api"
)

// P13.8

func TestNumbersThereAndBack(t *testing.T) {
	written, read := 0, 0
	for _, b := range numberBodies() {
		if body, err := NumberOf(b); err == nil {
			written++
			checkNumber(t, body, bytes.TrimLeft(b, "\x00"))
		}
		if n, err := Number(b); err == nil {
			read++
			checkNumberOf(t, n, b)
		}
	}
	if written < 1000 || read < 1000 {
		t.Error(written, read)
	}
}

func TestSmallNumbersThereAndBack(t *testing.T) {
	check := func(n int) {
		t.Helper()
		body, err := SmallOf(n)
		if err != nil {
			t.Fatal(n, err)
		}
		checkSmall(t, body, n)
	}
	for n := range 1 << 17 {
		check(n)
		check(1<<31 - 1 - n)
		check(n * 16001)
	}
	read := 0
	for _, b := range numberBodies() {
		if n, err := Small(b); err == nil {
			read++
			checkSmallOf(t, n, b)
		}
	}
	if read < 1000 {
		t.Error(read)
	}
}

func TestOidsThereAndBack(t *testing.T) {
	r := rand.New(rand.NewSource(7))
	for range 50000 {
		l := someOid(r)
		body, err := OidOf(l)
		if err != nil {
			t.Fatal(l, err)
		}
		checkOid(t, body, l)
	}
	read := 0
	check := func(b []byte) {
		t.Helper()
		if l, err := Oid(b); err == nil {
			read++
			checkOidOf(t, l, b)
		}
	}
	for _, b := range rows(2, allBytes()) {
		check(b)
	}
	for _, b := range rows(7, []byte{0, 0x28, 0x50, 0x7f, 0x80, 0x81, 0xff}) {
		check(b)
	}
	for first := uint64(1<<32 - 200); first < 1<<32+100; first++ {
		check(seven(first))
		check(slices.Concat([]byte{0x2a}, seven(first), []byte{5}))
	}
	if read < 1000 {
		t.Error(read)
	}
}

// Both tags, and the seconds beside each first one of a year and of a month.
func TestTimesThereAndBack(t *testing.T) {
	check := func(at int64) {
		t.Helper()
		tag, body, err := TimeOf(at)
		if err != nil {
			t.Fatal(at, err)
		}
		checkTime(t, tag, string(body), at)
	}
	r := rand.New(rand.NewSource(8))
	for range 200000 {
		check(-631152000 + r.Int63n(253402300800+631152000))
		check(-631152000 + r.Int63n(2524608000+631152000))
	}
	for year := 1950; year < 10000; year++ {
		for month := 1; month <= 12; month++ {
			tag, told := yearTold(year)
			body := told + two(month) + "01000000Z"
			at, err := Time(tag, []byte(body))
			if err != nil {
				t.Fatal(body, err)
			}
			checkTimeOf(t, at, tag, body)
			if year > 1950 {
				check(at - 1)
			}
		}
	}
	// What is read under a tag is written under it, and no body of the other tag is read as the same.
	for _, tag := range []int{api.TagUTC, api.TagTime} {
		for range 100000 {
			body := two(r.Intn(100)) + two(r.Intn(14)) + two(r.Intn(33)) + two(r.Intn(25)) + two(r.Intn(61)) + two(r.Intn(61)) + "Z"
			if tag == api.TagTime {
				body = two(r.Intn(100)) + body
			}
			if at, err := Time(tag, []byte(body)); err == nil {
				checkTimeOf(t, at, tag, body)
			}
		}
	}
}
