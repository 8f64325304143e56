package name

import (
	"bytes"
	"encoding/hex"
	"maps"
	"math"
	"math/rand"
	"slices"
	"strings"
	"testing"

	"escutcheon/api"
	"escutcheon/der"
)

// What the chapter says, told another way: whatever stands where a kind and a text belong is taken
// for one, and an element has the form if the name of that is told as this very element.

func wantOf(t api.Tlv) (api.Name, api.Code) {
	var n api.Name
	for _, set := range t.Kids {
		var p api.Part
		for _, pair := range set.Kids {
			for _, leaf := range pair.Kids {
				if leaf.Tag == 6 && len(leaf.Body) > 0 {
					p.Kind = int(leaf.Body[len(leaf.Body)-1])
				}
				if leaf.Tag == 12 {
					p.Text = string(leaf.Body)
				}
			}
		}
		if !strings.Contains("\x03\x06\x0a\x0b", string([]byte{byte(p.Kind)})) || p.Text == "" || len(p.Text) > 64 {
			return nil, api.ErrForm
		}
		if strings.ContainsFunc(p.Text, func(x rune) bool { return x < ' ' || x > '~' }) {
			return nil, api.ErrForm
		}
		n = append(n, p)
	}
	if !sameElement(t, elementOf(n)) {
		return nil, api.ErrForm
	}
	if len(n) > 8 {
		return nil, api.ErrLong
	}
	return n, 0
}

// Inputs.

func bytesFrom(told string) []byte {
	b, err := hex.DecodeString(strings.Join(strings.Fields(told), ""))
	if err != nil {
		panic(err)
	}
	return b
}

// copied is an element with memory of its own.
func copied(t api.Tlv) api.Tlv {
	t.Body = bytes.Clone(t.Body)
	t.Kids = slices.Clone(t.Kids)
	for i, kid := range t.Kids {
		t.Kids[i] = copied(kid)
	}
	return t
}

// places are the ways to all the elements of one, itself included.
func places(t api.Tlv) [][]int {
	l := [][]int{nil}
	for i, kid := range t.Kids {
		for _, way := range places(kid) {
			l = append(l, append([]int{i}, way...))
		}
	}
	return l
}

// changed is an element in which another one stands at a place.
func changed(t api.Tlv, way []int, change func(api.Tlv) api.Tlv) api.Tlv {
	t = copied(t)
	at := &t
	for _, i := range way {
		// An earlier change may have taken the place away.
		if i >= len(at.Kids) {
			return t
		}
		at = &at.Kids[i]
	}
	*at = change(*at)
	return t
}

// bytesOf are the bytes of elements, one behind the other.
func bytesOf(kids []api.Tlv) []byte {
	var all []byte
	for _, kid := range kids {
		b, err := der.Write(kid)
		if err != nil {
			panic(err)
		}
		all = append(all, b...)
	}
	return all
}

// changes are those that make another element of each one that they are put to.
func changes() map[string]func(api.Tlv) api.Tlv {
	return map[string]func(api.Tlv) api.Tlv{
		"class 1":     func(t api.Tlv) api.Tlv { t.Class = 1; return t },
		"class 2":     func(t api.Tlv) api.Tlv { t.Class = 2; return t },
		"class 3":     func(t api.Tlv) api.Tlv { t.Class = 3; return t },
		"tag below":   func(t api.Tlv) api.Tlv { t.Tag--; return t },
		"tag above":   func(t api.Tlv) api.Tlv { t.Tag++; return t },
		"list to set": func(t api.Tlv) api.Tlv { t.Tag = 33 - t.Tag; return t },
		"made or not": func(t api.Tlv) api.Tlv { t.Made = !t.Made; return t },
		"made or not, and empty": func(t api.Tlv) api.Tlv {
			return api.Tlv{Class: t.Class, Tag: t.Tag, Made: !t.Made}
		},
		"told as bytes, or as an element": func(t api.Tlv) api.Tlv {
			if !t.Made {
				return api.Tlv{Tag: t.Tag, Made: true, Kids: []api.Tlv{t}}
			}
			return api.Tlv{Tag: t.Tag, Body: bytesOf(t.Kids)}
		},
		"nothing":         func(api.Tlv) api.Tlv { return api.Tlv{} },
		"a null":          func(api.Tlv) api.Tlv { return api.Tlv{Tag: 5} },
		"wrapped":         func(t api.Tlv) api.Tlv { return api.Tlv{Tag: 16, Made: true, Kids: []api.Tlv{t}} },
		"wrapped in set":  func(t api.Tlv) api.Tlv { return api.Tlv{Tag: 17, Made: true, Kids: []api.Tlv{t}} },
		"a list without":  func(api.Tlv) api.Tlv { return api.Tlv{Tag: 16, Made: true} },
		"a set without":   func(api.Tlv) api.Tlv { return api.Tlv{Tag: 17, Made: true} },
		"printable":       func(t api.Tlv) api.Tlv { t.Tag = 19; return t },
		"another's class": func(t api.Tlv) api.Tlv { t.Class = 2; t.Tag = 0; return t },
	}
}

// Checks.

func checkOf(t *testing.T, x api.Tlv, want api.Name) {
	t.Helper()
	if got, err := Of(x); err != nil || !slices.Equal(got, want) {
		t.Errorf("Of(%v) = %#v, %v; want %#v", x, got, err, want)
	}
}

func checkNotRead(t *testing.T, x api.Tlv, want api.Code) {
	t.Helper()
	if got, err := Of(x); err != want || len(got) > 0 {
		t.Errorf("Of(%v) = %#v, %v; want error %d itself", x, got, err, want)
	}
}

func checkOfBoth(t *testing.T, x api.Tlv) api.Code {
	t.Helper()
	want, code := wantOf(x)
	if code != 0 {
		checkNotRead(t, x, code)
		return code
	}
	checkOf(t, x, want)
	return 0
}

// P16.2

func TestNamesWrittenOut(t *testing.T) {
	for _, c := range []struct {
		told string
		want api.Name
	}{
		{"30 00", nil},
		{"30 0c 31 0a 30 08 06 03 55 04 03 0c 01 61", api.Name{common("a")}}, // the chapter's
		{"30 0c 31 0a 30 08 06 03 55 04 06 0c 01 20", api.Name{country(" ")}},
		{"30 0d 31 0b 30 09 06 03 55 04 0a 0c 02 7e 7e", api.Name{org("~~")}},
		{"30 0c 31 0a 30 08 06 03 55 04 0b 0c 01 30", api.Name{unit("0")}},
		{
			"30 19 31 0b 30 09 06 03 55 04 06 0c 02 58 59 31 0a 30 08 06 03 55 04 0a 0c 01 6f",
			api.Name{country("XY"), org("o")},
		},
		{
			"30 18 31 0a 30 08 06 03 55 04 03 0c 01 61 31 0a 30 08 06 03 55 04 03 0c 01 61",
			api.Name{common("a"), common("a")},
		},
	} {
		x, err := der.Parse(bytesFrom(c.told))
		if err != nil {
			t.Fatal(c.told, err)
		}
		checkOf(t, x, c.want)
	}
}

func TestNoNamesWrittenOut(t *testing.T) {
	for what, told := range map[string]string{
		"a set around":                   "31 0c 31 0a 30 08 06 03 55 04 03 0c 01 61",
		"a set around nothing":           "31 00",
		"no set":                         "30 0a 30 08 06 03 55 04 03 0c 01 61",
		"a list for the set":             "30 0c 30 0a 30 08 06 03 55 04 03 0c 01 61",
		"a set for the list":             "30 0c 31 0a 31 08 06 03 55 04 03 0c 01 61",
		"no list":                        "30 0a 31 08 06 03 55 04 03 0c 01 61",
		"a set of none":                  "30 02 31 00",
		"a set of two":                   "30 16 31 14 30 08 06 03 55 04 03 0c 01 61 30 08 06 03 55 04 0a 0c 01 62",
		"a set of the same two":          "30 16 31 14 30 08 06 03 55 04 03 0c 01 61 30 08 06 03 55 04 03 0c 01 61",
		"a list of none":                 "30 04 31 02 30 00",
		"a list of an identifier":        "30 09 31 07 30 05 06 03 55 04 03",
		"a list of a text":               "30 07 31 05 30 03 0c 01 61",
		"a list of three":                "30 0f 31 0d 30 0b 06 03 55 04 03 0c 01 61 0c 01 62",
		"a list of three with a null":    "30 0e 31 0c 30 0a 06 03 55 04 03 0c 01 61 05 00",
		"two texts":                      "30 0a 31 08 30 06 0c 01 61 0c 01 61",
		"two identifiers":                "30 0e 31 0c 30 0a 06 03 55 04 03 06 03 55 04 03",
		"a text ahead":                   "30 0c 31 0a 30 08 0c 01 61 06 03 55 04 03",
		"no bytes in a text":             "30 0b 31 09 30 07 06 03 55 04 03 0c 00",
		"a printable text":               "30 0c 31 0a 30 08 06 03 55 04 03 13 01 61",
		"an IA5 text":                    "30 0c 31 0a 30 08 06 03 55 04 03 16 01 61",
		"bytes for a text":               "30 0c 31 0a 30 08 06 03 55 04 03 04 01 61",
		"a text made of a text":          "30 0e 31 0c 30 0a 06 03 55 04 03 2c 03 0c 01 61",
		"a text made of nothing":         "30 0b 31 09 30 07 06 03 55 04 03 2c 00",
		"a byte 1f":                      "30 0c 31 0a 30 08 06 03 55 04 03 0c 01 1f",
		"a byte 7f":                      "30 0c 31 0a 30 08 06 03 55 04 03 0c 01 7f",
		"UTF-8":                          "30 0d 31 0b 30 09 06 03 55 04 03 0c 02 c3 a9",
		"another kind":                   "30 0c 31 0a 30 08 06 03 55 04 04 0c 01 61",
		"kind 0":                         "30 0c 31 0a 30 08 06 03 55 04 00 0c 01 61",
		"a kind of two bytes":            "30 0d 31 0b 30 09 06 04 55 04 81 03 0c 01 61",
		"a kind with a byte 80 ahead":    "30 0d 31 0b 30 09 06 04 55 04 80 03 0c 01 61",
		"a kind that doesn't end":        "30 0c 31 0a 30 08 06 03 55 04 83 0c 01 61",
		"an identifier of no bytes":      "30 09 31 07 30 05 06 00 0c 01 61",
		"the kind alone":                 "30 0a 31 08 30 06 06 01 03 0c 01 61",
		"2.5.4":                          "30 0b 31 09 30 07 06 02 55 04 0c 01 61",
		"2.5.4.3.3":                      "30 0d 31 0b 30 09 06 04 55 04 03 03 0c 01 61",
		"2.5.4.3.0":                      "30 0d 31 0b 30 09 06 04 55 04 03 00 0c 01 61",
		"2.5.29.3":                       "30 0c 31 0a 30 08 06 03 55 1d 03 0c 01 61",
		"2.4.4.3":                        "30 0c 31 0a 30 08 06 03 54 04 03 0c 01 61",
		"1.5.4.3":                        "30 0c 31 0a 30 08 06 03 2d 04 03 0c 01 61",
		"0.5.4.3":                        "30 0c 31 0a 30 08 06 03 05 04 03 0c 01 61",
		"an identifier made of one":      "30 0e 31 0c 30 0a 26 05 06 03 55 04 03 0c 01 61",
		"a number for an identifier":     "30 0c 31 0a 30 08 02 03 55 04 03 0c 01 61",
		"another class around":           "70 0c 31 0a 30 08 06 03 55 04 03 0c 01 61",
		"another class of the set":       "30 0c b1 0a 30 08 06 03 55 04 03 0c 01 61",
		"another class of the list":      "30 0c 31 0a f0 08 06 03 55 04 03 0c 01 61",
		"another class of the id":        "30 0c 31 0a 30 08 46 03 55 04 03 0c 01 61",
		"another class of the text":      "30 0c 31 0a 30 08 06 03 55 04 03 8c 01 61",
		"a list that is told as bytes":   "10 0c 31 0a 30 08 06 03 55 04 03 0c 01 61",
		"a set that is told as bytes":    "30 0c 11 0a 30 08 06 03 55 04 03 0c 01 61",
		"a pair that is told as bytes":   "30 0c 31 0a 10 08 06 03 55 04 03 0c 01 61",
		"a list of no bytes":             "10 00",
		"a part, and a null behind":      "30 0e 31 0a 30 08 06 03 55 04 03 0c 01 61 05 00",
		"a part, and a null ahead":       "30 0e 05 00 31 0a 30 08 06 03 55 04 03 0c 01 61",
		"a name in a list":               "30 0e 30 0c 31 0a 30 08 06 03 55 04 03 0c 01 61",
		"a part alone":                   "31 0a 30 08 06 03 55 04 03 0c 01 61",
		"a pair alone":                   "30 08 06 03 55 04 03 0c 01 61",
		"a text alone":                   "0c 01 61",
		"a null":                         "05 00",
		"another kind, and a wrong byte": "30 0c 31 0a 30 08 06 03 55 04 05 0c 01 00",
	} {
		x, err := der.Parse(bytesFrom(told))
		if err != nil {
			t.Fatal(what, err)
		}
		if got, err := Of(x); err != api.ErrForm || len(got) > 0 {
			t.Errorf("%s: %v, %v; want ErrForm itself", what, got, err)
		}
	}
	checkNotRead(t, api.Tlv{}, api.ErrForm)
}

func TestReadsEveryName(t *testing.T) {
	for _, n := range names() {
		checkOf(t, elementOf(n), n)
	}
}

func TestEveryIdentifier(t *testing.T) {
	x := elementOf(api.Name{common("a")})
	with := func(id []byte) api.Tlv {
		return changed(x, []int{0, 0, 0}, func(t api.Tlv) api.Tlv { t.Body = id; return t })
	}
	right := 0
	for a := range 256 {
		checkOfBoth(t, with([]byte{byte(a)}))
		for b := range 256 {
			checkOfBoth(t, with([]byte{byte(a), byte(b)}))
			for _, c := range []byte{0, 2, 3, 4, 5, 6, 7, 9, 10, 11, 12, 0x80, 0x83, 0xff} {
				if checkOfBoth(t, with([]byte{byte(a), byte(b), c})) == 0 {
					right++
				}
			}
		}
		checkOfBoth(t, with([]byte{0x55, 4, byte(a)}))
		for _, kind := range kinds() {
			checkNotRead(t, with([]byte{0x55, 4, byte(kind), byte(a)}), api.ErrForm)
			checkNotRead(t, with([]byte{0x55, 4, byte(a), byte(kind)}), api.ErrForm)
			checkNotRead(t, with([]byte{0x55, byte(a), 4, byte(kind)}), api.ErrForm)
			checkNotRead(t, with([]byte{byte(a), 0x55, 4, byte(kind)}), api.ErrForm)
		}
	}
	if right != 4 {
		t.Errorf("%d identifiers were taken; want 4", right)
	}
}

func TestLongAndGreatIdentifiers(t *testing.T) {
	x := elementOf(api.Name{common("a")})
	for _, told := range []string{
		"", "55 04 " + strings.Repeat("03", 12), "55 04 " + strings.Repeat("03", 13), "55 04 " + strings.Repeat("03", 1000),
		"55 04 90 80 80 80 03", "55 04 8f ff ff ff 7f", "55 04 ff ff ff ff 03", "55 04 81 80 80 80 80 80 80 80 80 03",
		"55 04 82 80 80 80 80 80 80 80 80 03", "55 84 80 80 80 00 03", "81 55 04 03", "d5 04 03", "8f ff ff ff d5 04 03",
		"90 80 80 80 55 04 03", "55 03", "04 03", "03", "2a 86 48 ce 3d 02 01", "55 1d 0f", "55 04 03 80", "80 55 04 03", "55 80 04 03",
	} {
		id := bytesFrom(told)
		checkNotRead(t, changed(x, []int{0, 0, 0}, func(t api.Tlv) api.Tlv { t.Body = id; return t }), api.ErrForm)
	}
}

func TestEveryTextThatIsNone(t *testing.T) {
	x := elementOf(api.Name{common("a"), org("b")})
	for _, text := range noTexts() {
		for i := range 2 {
			checkNotRead(t, changed(x, []int{i, 0, 1}, func(t api.Tlv) api.Tlv { t.Body = []byte(text); return t }), api.ErrForm)
		}
	}
	for length := range 200 {
		n := api.Name{unit(strings.Repeat("q", length))}
		if length == 0 || length > 64 {
			checkNotRead(t, elementOf(n), api.ErrForm)
		} else {
			checkOf(t, elementOf(n), n)
		}
	}
}

// Every class, tag and making, those of no element too, at every place.
func TestOtherHeadsAtEveryPlace(t *testing.T) {
	far := []int{-1, -16, math.MinInt, math.MaxInt, 256, 1 << 32, 31, 32, 32 + 16, 256 + 16, 1<<32 + 16, 1<<32 + 6, -6}
	for _, n := range []api.Name{{}, {common("a")}, {org("o"), unit("u"), country("c")}} {
		x := elementOf(n)
		for _, way := range places(x) {
			right := 0
			for _, class := range append([]int{0, 1, 2, 3, 4}, far...) {
				for _, tag := range append([]int{0, 1, 2, 3, 4, 5, 6, 7, 8, 9, 10, 11, 12, 13, 14, 15, 16, 17, 18, 19, 20, 21, 22, 23, 24, 25, 26, 27, 28, 29, 30}, far...) {
					for _, made := range []bool{false, true} {
						other := changed(x, way, func(t api.Tlv) api.Tlv { t.Class, t.Tag, t.Made = class, tag, made; return t })
						if checkOfBoth(t, other) == 0 {
							right++
						}
					}
				}
			}
			if right != 1 {
				t.Errorf("%v: %d heads were taken at %v; want 1", n, right, way)
			}
		}
	}
}

func TestEveryChangeAtEveryPlace(t *testing.T) {
	for _, n := range []api.Name{{common("a")}, {org("o"), unit("u")}, parts(8)} {
		x := elementOf(n)
		for _, way := range places(x) {
			for what, change := range changes() {
				// A list without parts is a name.
				if way == nil && what == "a list without" {
					checkOf(t, changed(x, way, change), nil)
					continue
				}
				if other := changed(x, way, change); checkOfBoth(t, other) != api.ErrForm {
					t.Errorf("%v was read with %s at %v", n, what, way)
				}
			}
		}
	}
}

// More than one thing amiss is amiss in one way.
func TestTwoChangesAtAllPlaces(t *testing.T) {
	x := elementOf(api.Name{org("o"), unit("u")})
	for _, way := range places(x) {
		for _, change := range changes() {
			other := changed(x, way, change)
			if _, err := der.Write(other); err != nil {
				continue
			}
			for _, second := range places(x) {
				for _, again := range changes() {
					checkOfBoth(t, changed(other, second, again))
				}
			}
		}
	}
}

// One element fewer, one more, two exchanged, in every list.
func TestOtherCountsInEveryList(t *testing.T) {
	x := elementOf(api.Name{common("a"), org("o"), unit("u")})
	for _, way := range places(x) {
		for _, change := range []func(api.Tlv) api.Tlv{
			func(t api.Tlv) api.Tlv { t.Kids = nil; return t },
			func(t api.Tlv) api.Tlv { t.Kids = t.Kids[:max(len(t.Kids)-1, 0)]; return t },
			func(t api.Tlv) api.Tlv { t.Kids = t.Kids[min(len(t.Kids), 1):]; return t },
			func(t api.Tlv) api.Tlv { t.Kids = slices.Concat(t.Kids, t.Kids); return t },
			func(t api.Tlv) api.Tlv { slices.Reverse(t.Kids); return t },
			func(t api.Tlv) api.Tlv { t.Kids = append(t.Kids, api.Tlv{Tag: 5}); return t },
			func(t api.Tlv) api.Tlv { t.Kids = slices.Insert(t.Kids, 0, api.Tlv{Tag: 5}); return t },
			func(t api.Tlv) api.Tlv {
				if len(t.Kids) > 0 {
					t.Kids = append(t.Kids, copied(t.Kids[0]))
				}
				return t
			},
		} {
			checkOfBoth(t, changed(x, way, change))
		}
	}
	checkOf(t, changed(x, nil, func(t api.Tlv) api.Tlv { slices.Reverse(t.Kids); return t }), api.Name{unit("u"), org("o"), common("a")})
	checkNotRead(t, changed(x, []int{1, 0}, func(t api.Tlv) api.Tlv { slices.Reverse(t.Kids); return t }), api.ErrForm)
}

// der.Write tells an element whose other list is there, but has no elements.
func TestEmptyListsBesideAreTaken(t *testing.T) {
	n := api.Name{common("a"), org("o")}
	x := elementOf(n)
	for _, way := range places(x) {
		for _, change := range []func(api.Tlv) api.Tlv{
			func(t api.Tlv) api.Tlv { return emptied(t, nil, nil) },
			func(t api.Tlv) api.Tlv { return emptied(t, []byte{}, []api.Tlv{}) },
			func(t api.Tlv) api.Tlv { return emptied(t, []byte{1, 2, 3}[:0], []api.Tlv{{Tag: 5}}[:0]) },
		} {
			other := changed(x, way, change)
			if _, err := der.Write(other); err != nil {
				t.Fatal(way, err)
			}
			checkOf(t, other, n)
		}
	}
	checkOf(t, api.Tlv{Tag: 16, Made: true, Body: []byte{}, Kids: []api.Tlv{}}, nil)
}

func emptied(t api.Tlv, body []byte, kids []api.Tlv) api.Tlv {
	if t.Made {
		t.Body = body
	} else {
		t.Kids = kids
	}
	return t
}

// What der.Write refuses is no name here either: what was read is told as that element, always.
func TestWhatCantBeWrittenIsNoName(t *testing.T) {
	x := elementOf(api.Name{common("a"), org("o")})
	for _, way := range places(x) {
		other := changed(x, way, func(t api.Tlv) api.Tlv { return emptied(t, []byte{0}, []api.Tlv{{Tag: 5}}) })
		if _, err := der.Write(other); err != api.ErrArg {
			t.Fatal(way, err)
		}
		checkNotRead(t, other, api.ErrForm)
	}
}

func TestMoreThanMaxParts(t *testing.T) {
	checkOf(t, elementOf(parts(8)), parts(8))
	for _, n := range []int{9, 10, 16, 17, 255, 256, 257, 264, 5000} {
		checkNotRead(t, elementOf(parts(n)), api.ErrLong)
	}
}

// A part that is none is told ahead of how many there are, wherever it stands.
func TestMoreThanMaxPartsAndNone(t *testing.T) {
	for _, n := range []int{8, 9, 10, 40} {
		x := elementOf(parts(n))
		for place := range n {
			for what, change := range changes() {
				for _, way := range [][]int{{place}, {place, 0}, {place, 0, 0}, {place, 0, 1}} {
					if other := changed(x, way, change); checkOfBoth(t, other) != api.ErrForm {
						t.Errorf("%d parts, %s at %v", n, what, way)
					}
				}
			}
			for _, text := range []string{"", "\x1f", "a\x7f", strings.Repeat("x", 65)} {
				other := changed(x, []int{place, 0, 1}, func(t api.Tlv) api.Tlv { t.Body = []byte(text); return t })
				checkNotRead(t, other, api.ErrForm)
			}
			for _, id := range []string{"", "55 04", "55 04 04", "55 04 03 03", "54 04 03", "55 04 80 03"} {
				other := changed(x, []int{place, 0, 0}, func(t api.Tlv) api.Tlv { t.Body = bytesFrom(id); return t })
				checkNotRead(t, other, api.ErrForm)
			}
		}
		checkNotRead(t, changed(x, nil, func(t api.Tlv) api.Tlv { t.Tag = 17; return t }), api.ErrForm)
		checkNotRead(t, changed(x, nil, func(t api.Tlv) api.Tlv { t.Class = 1; return t }), api.ErrForm)
	}
}

func TestManyElements(t *testing.T) {
	r := rand.New(rand.NewSource(2))
	all := changes()
	// In one order, so that every run is the same.
	order := slices.Sorted(maps.Keys(all))
	for range 3000 {
		n := append(someName(r), someName(r)...)
		x := elementOf(n)
		if code := checkOfBoth(t, x); (code == api.ErrLong) != (len(n) > 8) || code == api.ErrForm {
			t.Error(n, code)
		}
		ways := places(x)
		checkOfBoth(t, changed(x, ways[r.Intn(len(ways))], all[order[r.Intn(len(order))]]))
	}
}

// P1: deep elements, great ones, and such as hold themselves.
func TestEndsOnAnyElement(t *testing.T) {
	deep := api.Tlv{Tag: 16, Made: true}
	for i := range 1 << 16 {
		deep = api.Tlv{Tag: 16 + i%2, Made: true, Kids: []api.Tlv{deep}}
	}
	loop := api.Tlv{Tag: 16, Made: true, Kids: make([]api.Tlv, 1)}
	loop.Kids[0] = loop
	set := api.Tlv{Tag: 17, Made: true, Kids: make([]api.Tlv, 1)}
	list := api.Tlv{Tag: 16, Made: true, Kids: []api.Tlv{set}}
	set.Kids[0] = list
	one := elementOf(api.Name{common("a")})
	long := changed(one, []int{0, 0, 0}, func(t api.Tlv) api.Tlv { t.Body = bytes.Repeat([]byte{0x83}, 1<<24); return t })
	many := api.Tlv{Tag: 16, Made: true, Kids: slices.Repeat(one.Kids, 1<<20)}
	for what, c := range map[string]struct {
		x    api.Tlv
		want api.Code
	}{
		"deep": {deep, api.ErrForm}, "a list in itself": {loop, api.ErrForm}, "a list in a set in itself": {list, api.ErrForm},
		"a long identifier": {long, api.ErrForm}, "many parts": {many, api.ErrLong},
	} {
		// Such an element can't be printed.
		if got, err := Of(c.x); err != c.want || len(got) > 0 {
			t.Errorf("%s: %d parts, %v; want error %d itself", what, len(got), err, c.want)
		}
	}
}
