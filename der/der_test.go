package der

import (
	"bytes"
	"encoding/asn1"
	"encoding/hex"
	"errors"
	"fmt"
	"math/rand"
	"slices"
	"strings"
	"testing"

	"escutcheon/api"
)

// What the chapter says, told another way: reading goes along one row with a pile of ends, and
// writing begins at the end and goes to the front; the head and the length are the library's.

// amiss is where reading ends, and why; Code 0: it doesn't.
type amiss struct {
	at   int
	code api.Code
}

// open is an element that is being read: its head, where what it holds ends, those of its Kids that were read.
type open struct {
	head byte
	end  int
	kids []api.Tlv
}

func tlvOf(head byte, body []byte, kids []api.Tlv) api.Tlv {
	return api.Tlv{Class: int(head >> 6), Made: head&0x20 == 0x20, Tag: int(head % 32), Body: body, Kids: kids}
}

// wantLength asks the questions 4 to 6 of the length at a place; limit is where what the element is in ends.
func wantLength(b []byte, at, limit int) (from, n int, bad amiss) {
	if at == limit {
		return 0, 0, amiss{at, api.ErrShort}
	}
	long := 0
	switch first := b[at]; {
	case first < 0x80:
		n = int(first)
	case first == 0x81, first == 0x82, first == 0x83:
		long = int(first & 3)
	default:
		return 0, 0, amiss{at, api.ErrForm}
	}
	from = at + 1 + long
	if from > limit {
		return 0, 0, amiss{at, api.ErrShort}
	}
	for place, scale := from-1, 1; place > at; place, scale = place-1, scale*256 {
		n += int(b[place]) * scale
	}
	// The least numbers that need so many bytes.
	if n < []int{0, 128, 256, 65536}[long] {
		return 0, 0, amiss{at, api.ErrForm}
	}
	if from+n > limit {
		return 0, 0, amiss{at, api.ErrShort}
	}
	return from, n, amiss{}
}

func wantParse(b []byte) (api.Tlv, amiss) {
	pile := []open{{end: len(b)}}
	for at := 0; ; {
		top := &pile[len(pile)-1]
		if len(pile) == 1 && len(top.kids) == 1 {
			if at < len(b) {
				return api.Tlv{}, amiss{at, api.ErrMore}
			}
			return top.kids[0], amiss{}
		}
		if len(pile) > 1 && at == top.end {
			done := tlvOf(top.head, nil, top.kids)
			pile = pile[:len(pile)-1]
			below := &pile[len(pile)-1]
			below.kids = append(below.kids, done)
			continue
		}
		if len(pile)-1 == 16 {
			return api.Tlv{}, amiss{at, api.ErrDepth}
		}
		if at == top.end {
			return api.Tlv{}, amiss{at, api.ErrShort}
		}
		head := b[at]
		if head|0xe0 == 0xff {
			return api.Tlv{}, amiss{at, api.ErrForm}
		}
		from, n, bad := wantLength(b, at+1, top.end)
		if bad.code != 0 {
			return api.Tlv{}, bad
		}
		if head&0x20 != 0 {
			pile = append(pile, open{head: head, end: from + n})
			at = from
			continue
		}
		top.kids = append(top.kids, tlvOf(head, b[from:from+n], nil))
		at = from + n
	}
}

// wantWrite lays an element that can be written ahead of what stands behind it.
func wantWrite(x api.Tlv, behind []byte) []byte {
	all := slices.Concat(x.Body, behind)
	for i := len(x.Kids) - 1; i >= 0; i-- {
		all = wantWrite(x.Kids[i], all)
	}
	n := len(all) - len(behind)
	// The length is one that the library writes, in a head without anything behind it.
	told, err := asn1.Marshal(asn1.RawValue{Class: x.Class, Tag: x.Tag, IsCompound: x.Made, Bytes: make([]byte, n)})
	if err != nil {
		panic(err)
	}
	return slices.Concat(told[:len(told)-n], all)
}

// Inputs.

func bytesFrom(told string) []byte {
	b, err := hex.DecodeString(strings.Join(strings.Fields(told), ""))
	if err != nil {
		panic(err)
	}
	return b
}

// bytesOf are n bytes of which no two near each other are the same; another seed makes others.
func bytesOf(n, seed int) []byte {
	b := make([]byte, n)
	for i := range b {
		b[i] = byte(i*151 + i/256*7 + seed*29 + 1)
	}
	return b
}

// lengths are those that the issue names, those beside them, and what tells each as short as may be.
func lengths() map[int]string {
	return map[int]string{
		0: "00", 1: "01", 2: "02", 126: "7e", 127: "7f", 128: "81 80", 129: "81 81", 254: "81 fe", 255: "81 ff",
		256: "82 01 00", 257: "82 01 01", 65534: "82 ff fe", 65535: "82 ff ff", 65536: "83 01 00 00", 65537: "83 01 00 01",
	}
}

// nested are bytes within n lists, each of which holds nothing else.
func nested(n int, inner []byte) []byte {
	for range n {
		inner = slices.Concat([]byte{0x30}, lengthBytes(len(inner)), inner)
	}
	return inner
}

func lengthBytes(n int) []byte {
	told := wantWrite(api.Tlv{Body: make([]byte, n)}, nil)
	return told[1 : len(told)-n]
}

// Checks.

// same tells whether two elements are alike; lists without elements are, nil or not.
func same(a, b api.Tlv) bool {
	return a.Class == b.Class && a.Tag == b.Tag && a.Made == b.Made && bytes.Equal(a.Body, b.Body) &&
		slices.EqualFunc(a.Kids, b.Kids, same)
}

func isNone(x api.Tlv) bool { return same(x, api.Tlv{}) }

func checkParse(t *testing.T, b []byte, want api.Tlv) {
	t.Helper()
	if got, err := Parse(b); err != nil || !same(got, want) {
		t.Errorf("Parse(%s) = %s, %v; want %s", short(b), tell(got), err, tell(want))
	}
}

// checkRefused finds that Parse answers a Spot with a Code, and nothing beside it.
func checkRefused(t *testing.T, b []byte, want amiss) {
	t.Helper()
	got, err := Parse(b)
	s, ok := err.(*api.Spot)
	if !ok || s.At != want.at || s.Err != want.code || !isNone(got) {
		t.Errorf("Parse(%s) = %s, %v; want %v at %d", short(b), tell(got), err, want.code, want.at)
	}
}

// checkBoth holds Parse against wantParse.
func checkBoth(t *testing.T, b []byte) {
	t.Helper()
	want, bad := wantParse(b)
	if bad.code != 0 {
		checkRefused(t, b, bad)
		return
	}
	checkParse(t, b, want)
}

func short(b []byte) string {
	if len(b) > 64 {
		return fmt.Sprintf("%x .. of %d bytes", b[:64], len(b))
	}
	return hex.EncodeToString(b)
}

func tell(x api.Tlv) string {
	if len(x.Kids) > 8 || len(x.Body) > 64 {
		return fmt.Sprintf("%d %d %t: %d bytes, %d kids", x.Class, x.Tag, x.Made, len(x.Body), len(x.Kids))
	}
	return fmt.Sprintf("%+v", x)
}

// P12.1

func TestReadsWrittenOut(t *testing.T) {
	five := api.Tlv{Tag: 2, Body: []byte{5}}
	for _, c := range []struct {
		told string
		want api.Tlv
	}{
		{"30 03 02 01 05", api.Tlv{Tag: 16, Made: true, Kids: []api.Tlv{five}}}, // the chapter's
		{"02 01 05", five},
		{"05 00", api.Tlv{Tag: 5}},
		{"00 00", api.Tlv{}},
		{"30 00", api.Tlv{Tag: 16, Made: true}},
		{"10 02 30 00", api.Tlv{Tag: 16, Body: []byte{0x30, 0}}}, // not made: its bytes stay bytes
		{"24 03 02 01 05", api.Tlv{Tag: 4, Made: true, Kids: []api.Tlv{five}}},
		{"de 01 ff", api.Tlv{Class: 3, Tag: 30, Body: []byte{0xff}}},
		{"fe 00", api.Tlv{Class: 3, Tag: 30, Made: true}},
		{"a0 06 02 01 05 81 01 1f", api.Tlv{Class: 2, Made: true, Kids: []api.Tlv{five, {Class: 2, Tag: 1, Body: []byte{0x1f}}}}},
		{"30 0c 30 02 30 00 31 03 02 01 05 04 01 00", api.Tlv{Tag: 16, Made: true, Kids: []api.Tlv{
			{Tag: 16, Made: true, Kids: []api.Tlv{{Tag: 16, Made: true}}},
			{Tag: 17, Made: true, Kids: []api.Tlv{five}},
			{Tag: 4, Body: []byte{0}},
		}}},
	} {
		checkParse(t, bytesFrom(c.told), c.want)
	}
}

// Each question, answered amiss at the outermost element.
func TestAmissOutermost(t *testing.T) {
	for _, c := range []struct {
		told string
		at   int
		code api.Code
	}{
		{"", 0, api.ErrShort},
		{"1f 00", 0, api.ErrForm}, // the chapter's
		{"3f 00", 0, api.ErrForm},
		{"5f 00", 0, api.ErrForm},
		{"ff 00", 0, api.ErrForm},
		{"02", 1, api.ErrShort},
		{"30", 1, api.ErrShort},
		{"02 80", 1, api.ErrForm}, // the chapter's
		{"30 80 00 00", 1, api.ErrForm},
		{"02 84 00 00 00 01 05", 1, api.ErrForm},
		{"02 84 01 00 00 00", 1, api.ErrForm},
		{"02 ff", 1, api.ErrForm},
		{"02 81", 1, api.ErrShort},
		{"02 82 01", 1, api.ErrShort},
		{"02 83 01 00", 1, api.ErrShort},
		{"02 81 05 01 02 03 04 05", 1, api.ErrForm}, // the chapter's
		{"02 81 00", 1, api.ErrForm},
		{"02 82 00 ff", 1, api.ErrForm},
		{"02 83 00 ff ff", 1, api.ErrForm},
		{"02 83 00 00 05", 1, api.ErrForm},
		{"02 01", 1, api.ErrShort}, // the chapter's
		{"02 02 05", 1, api.ErrShort},
		{"02 7f", 1, api.ErrShort},
		{"02 81 80", 1, api.ErrShort},
		{"30 82 01 00 05 00", 1, api.ErrShort},
		{"02 83 ff ff ff 00", 1, api.ErrShort},
		{"05 00 00", 2, api.ErrMore}, // the chapter's
		{"30 03 02 01 05 05 00", 5, api.ErrMore},
	} {
		checkRefused(t, bytesFrom(c.told), amiss{c.at, c.code})
	}
	checkRefused(t, nil, amiss{0, api.ErrShort})
}

// Each question, answered amiss within another element, whose end comes ahead of that of b: what
// stands behind that end would do, if it were within.
func TestAmissWithin(t *testing.T) {
	for _, c := range []struct {
		told string
		at   int
		code api.Code
	}{
		{"30 02 1f 00", 2, api.ErrForm},
		{"30 02 ff 00 05 00", 2, api.ErrForm},
		{"30 01 02 01 05", 3, api.ErrShort},
		{"30 01 30 00", 3, api.ErrShort},
		{"30 03 05 00 02 01 05", 5, api.ErrShort},
		{"30 02 02 80 00 00", 3, api.ErrForm},
		{"30 02 02 84 00 00 00 00", 3, api.ErrForm},
		{"30 02 02 ff 00", 3, api.ErrForm},
		{"30 02 02 81 80" + strings.Repeat("00", 128), 3, api.ErrShort},
		{"30 03 02 82 01 00" + strings.Repeat("00", 256), 3, api.ErrShort},
		{"30 04 02 83 01 00 00" + strings.Repeat("00", 65536), 3, api.ErrShort},
		{"30 03 02 81 7f" + strings.Repeat("00", 127), 3, api.ErrForm},
		{"30 04 02 82 00 80" + strings.Repeat("00", 128), 3, api.ErrForm},
		{"30 05 02 83 00 01 00" + strings.Repeat("00", 256), 3, api.ErrForm},
		{"30 02 02 01 05", 3, api.ErrShort},
		{"30 03 02 02 05 06", 3, api.ErrShort},
		{"30 04 02 81 80 05" + strings.Repeat("00", 128), 3, api.ErrShort},
		{"30 05 05 00 04 02 07 08", 5, api.ErrShort},
		{"a3 06 30 02 02 01 05 00", 5, api.ErrShort},
		{"30 02 30 02 05 00", 3, api.ErrShort},
		{"30 08 30 04 05 00 04 01 00 00", 7, api.ErrShort},
		{"30 08 30 02 05 00 04 05 00 00", 7, api.ErrShort},
	} {
		checkRefused(t, bytesFrom(c.told), amiss{c.at, c.code})
	}
}

// More than one thing is amiss: the first that is asked for, from the front, is told.
func TestAmissInOrder(t *testing.T) {
	for _, c := range []struct {
		told string
		at   int
		code api.Code
	}{
		{"1f", 0, api.ErrForm},       // and no length
		{"1f 80", 0, api.ErrForm},    // and a length that is none
		{"1f 05", 0, api.ErrForm},    // and too few bytes
		{"1f 00 00", 0, api.ErrForm}, // and a byte behind
		{"02 80 00", 1, api.ErrForm},
		{"02 84", 1, api.ErrForm},           // and none of its bytes
		{"02 82 00", 1, api.ErrShort},       // and a nought ahead
		{"02 83 00 00", 1, api.ErrShort},    // likewise
		{"02 81 7f", 1, api.ErrForm},        // and too few bytes
		{"02 82 00 ff 01", 1, api.ErrForm},  // likewise
		{"02 81 00 00", 1, api.ErrForm},     // and a byte behind
		{"30 05 1f 00", 1, api.ErrShort},    // and a Kid without a tag
		{"30 81 05 1f 00", 1, api.ErrForm},  // likewise
		{"30 02 1f 00 00", 2, api.ErrForm},  // and a byte behind
		{"30 02 02 05 00", 3, api.ErrShort}, // likewise
		{"30 04 02 80 1f 00", 3, api.ErrForm},
		{"30 04 02 05 1f 00", 3, api.ErrShort},
		{"30 06 30 02 02 80 1f 00", 5, api.ErrForm},
		{"30 06 05 00 1f 00 02 80", 4, api.ErrForm},
		{"30 06 30 04 05 00 02 01 1f 00", 7, api.ErrShort},
		{"05 00 1f", 2, api.ErrMore},
		{"05 00 02 80", 2, api.ErrMore},
	} {
		checkRefused(t, bytesFrom(c.told), amiss{c.at, c.code})
	}
}

func TestEveryHead(t *testing.T) {
	for head := range 256 {
		want := api.Tlv{Class: head / 64, Tag: head % 32, Made: head/32%2 == 1}
		b, within := []byte{byte(head), 0}, []byte{0x30, 2, byte(head), 0}
		if want.Tag == 31 {
			checkRefused(t, b, amiss{0, api.ErrForm})
			checkRefused(t, within, amiss{2, api.ErrForm})
			continue
		}
		checkParse(t, b, want)
		checkParse(t, within, api.Tlv{Tag: 16, Made: true, Kids: []api.Tlv{want}})
		full := []byte{byte(head), 3, 2, 1, 5}
		if want.Made {
			want.Kids = []api.Tlv{{Tag: 2, Body: []byte{5}}}
		} else {
			want.Body = []byte{2, 1, 5}
		}
		checkParse(t, full, want)
	}
}

func TestEveryLengthAsShortAsMayBe(t *testing.T) {
	for n, told := range lengths() {
		body := bytesOf(n, 1)
		b := slices.Concat([]byte{4}, bytesFrom(told), body)
		want := api.Tlv{Tag: 4, Body: body}
		checkParse(t, b, want)
		checkRefused(t, append(slices.Clone(b), 0), amiss{len(b), api.ErrMore})
		checkParse(t, nested(1, b), api.Tlv{Tag: 16, Made: true, Kids: []api.Tlv{want}})
		if n > 0 {
			checkRefused(t, b[:len(b)-1], amiss{1, api.ErrShort})
		}
		// Made: nothing but elements of two bytes.
		if n%2 == 0 {
			made := slices.Concat([]byte{0x31}, bytesFrom(told), bytes.Repeat([]byte{5, 0}, n/2))
			checkParse(t, made, api.Tlv{Tag: 17, Made: true, Kids: slices.Repeat([]api.Tlv{{Tag: 5}}, n/2)})
		}
	}
}

// Noughts ahead, or bytes that it doesn't need: the same number, and ErrForm.
func TestEveryLengthToldLonger(t *testing.T) {
	for n := range lengths() {
		least := len(lengthBytes(n)) - 1
		for long := 1; long <= 5; long++ {
			told := []byte{0x80 + byte(long)}
			for i := long - 1; i >= 0; i-- {
				told = append(told, byte(n>>(8*i)))
			}
			if long == least || n >= 1<<(8*long) {
				continue
			}
			for _, head := range []byte{4, 0x30, 0x81} {
				b := slices.Concat([]byte{head}, told, bytes.Repeat([]byte{5, 0}, n/2+1)[:n])
				checkRefused(t, b, amiss{1, api.ErrForm})
				within := nested(1, b)
				checkRefused(t, within, amiss{len(within) - len(b) + 1, api.ErrForm})
			}
		}
	}
}

func TestEveryFirstByteOfALength(t *testing.T) {
	for first := range 256 {
		for n := range 140 {
			for _, fill := range []byte{0, 1, 0x7f, 0x80, 0xff} {
				checkBoth(t, slices.Concat([]byte{4, byte(first)}, bytes.Repeat([]byte{fill}, n)))
			}
		}
	}
	for first := 0x84; first <= 0xff; first++ {
		checkRefused(t, append([]byte{4, byte(first)}, make([]byte, 300)...), amiss{1, api.ErrForm})
	}
	checkRefused(t, append([]byte{4, 0x80}, make([]byte, 300)...), amiss{1, api.ErrForm})
}

func TestDepth(t *testing.T) {
	for _, inner := range []string{"05 00", "30 00", "02 01 05"} {
		for n := range 16 {
			want, _ := wantParse(bytesFrom(inner))
			for range n {
				want = api.Tlv{Tag: 16, Made: true, Kids: []api.Tlv{want}}
			}
			checkParse(t, nested(n, bytesFrom(inner)), want)
		}
		for n := 16; n < 60; n++ {
			checkRefused(t, nested(n, bytesFrom(inner)), amiss{32, api.ErrDepth})
		}
	}
	// What would be in 16 others may be anything: that is asked first.
	for _, inner := range []string{"1f", "02", "02 80", "02 81", "02 81 00", "02 05", "30 02 1f 00"} {
		b := bytesFrom(inner)
		checkRefused(t, nested(16, b), amiss{32, api.ErrDepth})
		checkRefused(t, append(nested(16, b), 0), amiss{32, api.ErrDepth})
		checkRefused(t, nested(17, b), amiss{32, api.ErrDepth})
	}
	// But not ahead of what comes first.
	checkRefused(t, nested(14, append(bytesFrom("1f 00"), nested(2, []byte{5, 0})...)), amiss{28, api.ErrForm})
	checkRefused(t, nested(14, append(nested(2, []byte{5, 0}), bytesFrom("1f 00")...)), amiss{32, api.ErrDepth})
	checkRefused(t, nested(14, append(bytesFrom("05 00"), nested(2, []byte{5, 0})...)), amiss{34, api.ErrDepth})
	// The second of two that are as deep as may be is so too.
	pair := append(nested(1, nil), nested(1, nil)...)
	want, bad := wantParse(nested(15, pair))
	if bad.code != 0 {
		t.Fatal(bad)
	}
	checkParse(t, nested(15, pair), want)
	checkRefused(t, nested(15, append(nested(1, nil), nested(1, []byte{5, 0})...)), amiss{34, api.ErrDepth})
}

// Of lists of many, each one is read.
func TestManyKids(t *testing.T) {
	var inner []byte
	var kids []api.Tlv
	for i := range 300 {
		body := bytesOf(i%5, i)
		inner = slices.Concat(inner, []byte{byte(i % 31)}, lengthBytes(len(body)), body)
		kids = append(kids, api.Tlv{Tag: i % 31, Body: body})
		checkParse(t, nested(1, inner), api.Tlv{Tag: 16, Made: true, Kids: kids})
		checkRefused(t, nested(1, append(slices.Clone(inner), 0x1f)), amiss{len(nested(1, inner)), api.ErrForm})
	}
}

// All rows of up to five bytes of those that mean something.
func TestAllShortRows(t *testing.T) {
	some := []byte{0, 1, 2, 3, 0x1e, 0x1f, 0x30, 0x3f, 0x7f, 0x80, 0x81, 0x82, 0x83, 0x84, 0xff}
	for n := range 6 {
		all := 1
		for range n {
			all *= len(some)
		}
		b := make([]byte, n)
		for k := range all {
			for i, rest := 0, k; i < n; i, rest = i+1, rest/len(some) {
				b[i] = some[rest%len(some)]
			}
			checkBoth(t, b)
			if t.Failed() {
				return
			}
		}
	}
}

// Elements with a few bytes changed, left out or put in.
func TestManyReads(t *testing.T) {
	r := rand.New(rand.NewSource(12))
	some := []byte{0, 1, 2, 5, 0x1f, 0x30, 0x3f, 0x7f, 0x80, 0x81, 0x82, 0x83, 0x84, 0xff}
	for range 30000 {
		b := wantWrite(someTlv(r, 1+r.Intn(5)), nil)
		for range r.Intn(4) {
			at := r.Intn(len(b) + 1)
			switch end := min(at+1, len(b)); r.Intn(3) {
			case 0:
				b = slices.Concat(b[:at], b[end:])
			case 1:
				b = slices.Concat(b[:at], []byte{some[r.Intn(len(some))]}, b[end:])
			default:
				b = slices.Concat(b[:at], []byte{some[r.Intn(len(some))]}, b[at:])
			}
		}
		checkBoth(t, b)
		if t.Failed() {
			return
		}
	}
}

// someTlv is any element of at most that depth.
func someTlv(r *rand.Rand, depth int) api.Tlv {
	x := api.Tlv{Class: r.Intn(4), Tag: r.Intn(31), Made: depth > 1 && r.Intn(3) > 0}
	if !x.Made {
		sizes := []int{0, 1, 2, 5, 126, 127, 128, 129, 255, 256, 300}
		x.Body = bytesOf(sizes[r.Intn(len(sizes))], r.Intn(256))
		return x
	}
	for range r.Intn(5) {
		x.Kids = append(x.Kids, someTlv(r, depth-1))
	}
	return x
}

// What Parse refuses by a Spot is found by errors.As and errors.Is; the place is that of b, whatever lies ahead of b.
func TestPlacesAreThoseOfB(t *testing.T) {
	all := bytesFrom("00 00 00 30 04 05 00 02 05 00 00")
	_, err := Parse(all[3:9])
	var s *api.Spot
	if !errors.As(err, &s) || !errors.Is(err, api.ErrShort) || s.At != 5 {
		t.Errorf("%v; want ErrShort at 5", err)
	}
}
