package der

import (
	"bytes"
	"math"
	"math/rand"
	"slices"
	"strings"
	"testing"

	"escutcheon/api"
)

// P12.2

func checkWrite(t *testing.T, x api.Tlv, want []byte) {
	t.Helper()
	if got, err := Write(x); err != nil || !bytes.Equal(got, want) {
		t.Errorf("Write(%s) = %s, %v; want %s", tell(x), short(got), err, short(want))
	}
	if n, err := Size(x); err != nil || n != len(want) {
		t.Errorf("Size(%s) = %d, %v; want %d", tell(x), n, err, len(want))
	}
}

// checkUnwritten finds that both calls answer the error itself, and nothing beside it.
func checkUnwritten(t *testing.T, what string, x api.Tlv, want api.Code) {
	t.Helper()
	if got, err := Write(x); err != want || len(got) != 0 {
		t.Errorf("%s: Write = %s, %v; want %v", what, short(got), err, want)
	}
	if n, err := Size(x); err != want || n != 0 {
		t.Errorf("%s: Size = %d, %v; want %v", what, n, err, want)
	}
}

// listOf is a list of elements.
func listOf(kids ...api.Tlv) api.Tlv { return api.Tlv{Tag: api.TagList, Made: true, Kids: kids} }

// listed is an element within n lists.
func listed(n int, x api.Tlv) api.Tlv {
	for range n {
		x = listOf(x)
	}
	return x
}

func TestWritesWrittenOut(t *testing.T) {
	five := api.Tlv{Tag: api.TagInt, Body: []byte{5}}
	for _, c := range []struct {
		x    api.Tlv
		want string
	}{
		{listOf(five), "30 03 02 01 05"},
		{five, "02 01 05"},
		{api.Tlv{}, "00 00"},
		{api.Tlv{Made: true}, "20 00"},
		{api.Tlv{Class: 3, Tag: 30, Body: []byte{0x1f}}, "de 01 1f"},
		{api.Tlv{Class: 3, Tag: 30, Made: true}, "fe 00"},
		{api.Tlv{Class: 1, Tag: 30, Made: true, Kids: []api.Tlv{{}, {Class: 2, Tag: 1}}}, "7e 04 00 00 81 00"},
		{listOf(listOf(listOf()), api.Tlv{Tag: api.TagSet, Made: true, Kids: []api.Tlv{five}}, five), "30 0c 30 02 30 00 31 03 02 01 05 02 01 05"},
		{api.Tlv{Body: []byte{}, Kids: []api.Tlv{}}, "00 00"}, // it has neither: lists without elements are none
		{api.Tlv{Made: true, Body: []byte{}, Kids: []api.Tlv{}}, "20 00"},
	} {
		checkWrite(t, c.x, bytesFrom(c.want))
	}
}

func TestWritesEveryHead(t *testing.T) {
	for class := range 4 {
		for tag := range 31 {
			for _, made := range []bool{false, true} {
				head := class<<6 | tag
				if made {
					head |= 32
				}
				x := api.Tlv{Class: class, Tag: tag, Made: made}
				checkWrite(t, x, []byte{byte(head), 0})
				checkWrite(t, listOf(x, x), []byte{0x30, 4, byte(head), 0, byte(head), 0})
			}
		}
	}
}

func TestWritesEveryLength(t *testing.T) {
	for n, told := range lengths() {
		body := bytesOf(n, 2)
		want := slices.Concat([]byte{4}, bytesFrom(told), body)
		x := api.Tlv{Tag: 4, Body: body}
		checkWrite(t, x, want)
		checkWrite(t, listOf(x), nested(1, want))
		checkWrite(t, listed(3, x), nested(3, want))
		if n%2 == 0 {
			kids := slices.Repeat([]api.Tlv{{Tag: 5}}, n/2)
			checkWrite(t, listOf(kids...), slices.Concat([]byte{0x30}, bytesFrom(told), bytes.Repeat([]byte{5, 0}, n/2)))
		}
	}
	for n := range 700 {
		checkWrite(t, api.Tlv{Body: make([]byte, n)}, wantWrite(api.Tlv{Body: make([]byte, n)}, nil))
	}
}

func TestManyWrites(t *testing.T) {
	r := rand.New(rand.NewSource(13))
	for range 5000 {
		x := someTlv(r, 1+r.Intn(6))
		checkWrite(t, x, wantWrite(x, nil))
	}
}

// unsound are elements that can't be written, each by one thing.
func unsound() map[string]api.Tlv {
	kid, body := []api.Tlv{{Tag: 5}}, []byte{5, 0}
	return map[string]api.Tlv{
		"class -1":                  {Class: -1},
		"class 4":                   {Class: 4},
		"class -1, made":            {Class: -1, Made: true},
		"class 4, made":             {Class: 4, Made: true},
		"the least class":           {Class: math.MinInt},
		"the greatest class":        {Class: math.MaxInt},
		"class 256":                 {Class: 256},
		"tag -1":                    {Tag: -1},
		"tag 31":                    {Tag: 31},
		"tag -1, made":              {Tag: -1, Made: true, Kids: kid},
		"tag 31, made":              {Tag: 31, Made: true, Kids: kid},
		"tag 32":                    {Tag: 32},
		"the least tag":             {Tag: math.MinInt},
		"the greatest tag":          {Tag: math.MaxInt},
		"tag -1 of class 1":         {Class: 1, Tag: -1},
		"class 4 with tag -256":     {Class: 4, Tag: -256},
		"made, with a Body":         {Tag: 16, Made: true, Body: body},
		"made, with both":           {Tag: 16, Made: true, Body: body, Kids: kid},
		"made, with a byte of Body": {Tag: 16, Made: true, Body: []byte{0}},
		"not made, with Kids":       {Tag: 16, Kids: kid},
		"not made, with both":       {Tag: 16, Body: body, Kids: kid},
	}
}

// within are lists that hold an element: alone, first, between, last, deep, and too deep.
func within(x api.Tlv) map[string]api.Tlv {
	sound := api.Tlv{Tag: 5}
	return map[string]api.Tlv{
		"alone": listOf(x), "first": listOf(x, sound, sound), "between": listOf(sound, x, sound), "last": listOf(sound, sound, x),
		"in a later list": listOf(listed(3, sound), sound, listed(2, x)), "in 15": listed(15, x), "in 16": listed(16, x),
		"in 17": listed(17, x), "in 40": listed(40, x), "behind what is too deep": listOf(listed(16, sound), x),
		"behind what is too long": listOf(api.Tlv{Body: make([]byte, api.MaxDer)}, x),
		"behind both":             listOf(listed(16, api.Tlv{Body: make([]byte, api.MaxDer)}), x),
		"in one with a fault":     {Class: 4, Made: true, Kids: []api.Tlv{x}},
	}
}

func TestWhatCannotBeWritten(t *testing.T) {
	for what, x := range unsound() {
		checkUnwritten(t, what, x, api.ErrArg)
		for where, outer := range within(x) {
			checkUnwritten(t, what+", "+where, outer, api.ErrArg)
		}
	}
	// Too long or too deep as well: that is asked later.
	long := api.Tlv{Class: 4, Body: make([]byte, api.MaxDer+1)}
	checkUnwritten(t, "class 4, too long", long, api.ErrArg)
	checkUnwritten(t, "class 4, too long and too deep", listed(20, long), api.ErrArg)
	checkUnwritten(t, "not made, with Kids, too deep", listed(15, api.Tlv{Kids: []api.Tlv{{}}}), api.ErrArg)
}

func TestDepthOfWhatIsWritten(t *testing.T) {
	for _, inner := range []api.Tlv{{Tag: 5}, listOf(), {Tag: 2, Body: []byte{5}}} {
		for n := range 16 {
			checkWrite(t, listed(n, inner), nested(n, wantWrite(inner, nil)))
		}
		for n := 16; n < 40; n++ {
			checkUnwritten(t, "too deep", listed(n, inner), api.ErrDepth)
		}
		checkUnwritten(t, "too deep, the first", listOf(listed(15, inner), inner, inner), api.ErrDepth)
		checkUnwritten(t, "too deep, the last", listOf(inner, listed(14, inner), listed(15, inner)), api.ErrDepth)
		checkUnwritten(t, "too deep, and later again", listOf(listed(15, inner), listed(14, inner), listed(15, inner)), api.ErrDepth)
	}
	wide := listOf(listed(14, api.Tlv{Tag: 5}), listed(14, listOf()), listed(14, api.Tlv{Tag: 2, Body: []byte{5}}))
	checkWrite(t, wide, wantWrite(wide, nil))
	// Too long as well: the depth is asked first.
	long := api.Tlv{Tag: 4, Body: make([]byte, api.MaxDer+1)}
	checkUnwritten(t, "too deep and too long", listed(16, long), api.ErrDepth)
	checkUnwritten(t, "too deep behind what is too long", listOf(long, listed(15, api.Tlv{})), api.ErrDepth)
	checkUnwritten(t, "as deep as may be, and too long", listed(15, long), api.ErrLong)
}

// As deep as the document's bound lets parts be nested.
func TestDeepest(t *testing.T) {
	const most = 1 << 16
	checkUnwritten(t, "2^16 nested", listed(most-1, api.Tlv{Tag: 5}), api.ErrDepth)
	checkUnwritten(t, "2^16 nested, with a fault", listed(most-1, api.Tlv{Tag: 31}), api.ErrArg)
}

// greatest is an element that isn't made, of MaxDer bytes in all, and more.
func greatest(more int) api.Tlv { return api.Tlv{Tag: 4, Body: bytesOf(api.MaxDer-5+more, 3)} }

// fullOf is a list of elements of 2 bytes, and one of 3, of MaxDer bytes in all, and more.
func fullOf(more int) api.Tlv {
	n := api.MaxDer - 5 + more
	kids := slices.Repeat([]api.Tlv{{Tag: 5}}, n/2)
	if n%2 == 1 {
		kids[len(kids)-1] = api.Tlv{Tag: 2, Body: []byte{5}}
	}
	return listOf(kids...)
}

// boxed is an element in 15 lists, of MaxDer bytes in all, and more. Each head and length has 5 bytes.
func boxed(more int) api.Tlv {
	return listed(15, api.Tlv{Tag: 4, Body: bytesOf(api.MaxDer-16*5+more, 4)})
}

func TestLengthOfWhatIsWritten(t *testing.T) {
	for what, made := range map[string]func(int) api.Tlv{"one": greatest, "a list": fullOf, "in lists": boxed} {
		for _, more := range []int{-1, 0} {
			x := made(more)
			got, err := Write(x)
			if err != nil || len(got) != api.MaxDer+more {
				t.Fatalf("%s of MaxDer%+d bytes: %d, %v", what, more, len(got), err)
			}
			if n, err := Size(x); err != nil || n != api.MaxDer+more {
				t.Errorf("%s of MaxDer%+d bytes: Size = %d, %v", what, more, n, err)
			}
			if again, err := Parse(got); err != nil || !same(again, x) {
				t.Errorf("%s of MaxDer%+d bytes isn't read as it was: %v", what, more, err)
			}
		}
		for _, more := range []int{1, 2, 3, 100, 1 << 20} {
			checkUnwritten(t, what+", too long", made(more), api.ErrLong)
		}
	}
	// Many that are each short enough, and too long together.
	half := api.Tlv{Tag: 4, Body: make([]byte, api.MaxDer/2)}
	checkUnwritten(t, "two halves", listOf(half, half), api.ErrLong)
	checkUnwritten(t, "one that fits, in a list", listOf(greatest(0)), api.ErrLong)
	checkUnwritten(t, "a thousand of them", listOf(slices.Repeat([]api.Tlv{half}, 1000)...), api.ErrLong)
	checkUnwritten(t, "2^24 bytes", api.Tlv{Body: make([]byte, 1<<24)}, api.ErrLong)
	checkUnwritten(t, "2^24 - 1 bytes", api.Tlv{Body: make([]byte, 1<<24-1)}, api.ErrLong)
}

// P12.1: the same bound for what is read.
func TestLengthOfWhatIsRead(t *testing.T) {
	for what, b := range map[string][]byte{
		"noughts": make([]byte, api.MaxDer+1), "ff": bytes.Repeat([]byte{0xff}, api.MaxDer+1),
		"an element":                      wantWrite(greatest(1), nil),
		"an element, and a byte":          append(wantWrite(greatest(0), nil), 0),
		"lists, too deep":                 bytesFrom("30 83 10 00 00" + strings.Repeat("30", api.MaxDer-4)),
		"a list, with a tag 31 in it":     append(bytesFrom("30 83 0f ff fc 1f"), make([]byte, api.MaxDer-5)...),
		"of 2^21 bytes":                   make([]byte, 1<<21),
		"an element of 2 bytes, and 2^20": append([]byte{5, 0}, make([]byte, api.MaxDer)...),
	} {
		if got, err := Parse(b); err != api.ErrLong || !isNone(got) {
			t.Errorf("%s: %d bytes: %s, %v; want ErrLong itself", what, len(b), tell(got), err)
		}
	}
	b := wantWrite(greatest(0), nil)
	checkParse(t, b, greatest(0))
	checkRefused(t, b[:api.MaxDer-1], amiss{1, api.ErrShort})
	checkRefused(t, append(wantWrite(greatest(-1), nil), 0), amiss{api.MaxDer - 1, api.ErrMore})
	checkRefused(t, make([]byte, api.MaxDer), amiss{2, api.ErrMore})
	checkRefused(t, bytes.Repeat([]byte{0xff}, api.MaxDer), amiss{0, api.ErrForm})
	// The last of many Kids is at fault.
	full := wantFull()
	full[api.MaxDer-2] = 0x1f
	checkRefused(t, full, amiss{api.MaxDer - 2, api.ErrForm})
	full[api.MaxDer-2], full[api.MaxDer-1] = 5, 1
	checkRefused(t, full, amiss{api.MaxDer - 1, api.ErrShort})
}

// wantFull are the bytes of a list of MaxDer bytes, the first in it of 3 bytes, all others of 2.
func wantFull() []byte {
	return append(bytesFrom("30 83 0f ff fb 02 01 05"), bytes.Repeat([]byte{5, 0}, (api.MaxDer-8)/2)...)
}
