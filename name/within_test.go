package name

import (
	"math/rand"
	"slices"
	"strings"
	"testing"

	"escutcheon/api"
)

// What the chapter says, told another way: a name as one text, in which no part can begin within another.

func told(n api.Name) string {
	var b strings.Builder
	for _, p := range n {
		b.WriteString(string([]byte{byte(p.Kind), byte(len(p.Text))}) + p.Text)
	}
	return b.String()
}

// few are all names of at most three parts, each one of these four: two texts of two kinds.
func few() []api.Name {
	some := []api.Part{common("a"), common("b"), org("a"), org("b")}
	l, last := []api.Name{{}}, []api.Name{{}}
	for range 3 {
		var next []api.Name
		for _, n := range last {
			for _, p := range some {
				next = append(next, append(slices.Clone(n), p))
			}
		}
		l, last = append(l, next...), next
	}
	return l
}

func checkWithin(t *testing.T, n, base api.Name, want bool) {
	t.Helper()
	if Within(n, base) != want {
		t.Errorf("Within(%v, %v) = %v", n, base, !want)
	}
}

func checkSame(t *testing.T, a, b api.Name, want bool) {
	t.Helper()
	if Same(a, b) != want || Same(b, a) != want {
		t.Errorf("Same(%v, %v) = %v, the other way %v", a, b, Same(a, b), Same(b, a))
	}
}

// P16.3

func TestWithinWrittenOut(t *testing.T) {
	a, b := common("a"), common("b")
	for _, c := range []struct {
		n, base api.Name
		want    bool
	}{
		{api.Name{a, b}, api.Name{a}, true},  // the chapter's
		{api.Name{a}, api.Name{a, b}, false}, // the chapter's
		{nil, nil, true},
		{api.Name{}, nil, true},
		{nil, api.Name{}, true},
		{api.Name{a}, nil, true},
		{api.Name{a, b}, api.Name{}, true},
		{nil, api.Name{a}, false},
		{api.Name{}, api.Name{a}, false},
		{api.Name{a}, api.Name{a}, true},
		{api.Name{a}, api.Name{b}, false},
		{api.Name{a, b}, api.Name{a, b}, true},
		{api.Name{a, b}, api.Name{b, a}, false},
		{api.Name{a, b}, api.Name{b}, false},
		{api.Name{b, a}, api.Name{a}, false},
		{api.Name{a, a}, api.Name{a}, true},
		{api.Name{a}, api.Name{a, a}, false},
		{api.Name{a, b, a}, api.Name{a, b}, true},
		{api.Name{a, b, a}, api.Name{a, a}, false},
		{api.Name{a}, api.Name{org("a")}, false},
		{api.Name{org("a"), b}, api.Name{a}, false},
		{api.Name{common("ab")}, api.Name{a}, false},
		{api.Name{common("ab")}, api.Name{a, b}, false},
		{api.Name{a, b}, api.Name{common("ab")}, false},
		{api.Name{a}, api.Name{common("A")}, false},
		{api.Name{a}, api.Name{common("a ")}, false},
		{api.Name{common(" a")}, api.Name{a}, false},
		{api.Name{a, common("bc")}, api.Name{a, b}, false},
		{parts(8), parts(7), true},
		{parts(8), parts(8), true},
		{parts(7), parts(8), false},
		{parts(8), parts(8)[1:], false},
	} {
		checkWithin(t, c.n, c.base, c.want)
		checkSame(t, c.n, c.base, c.want && len(c.n) == len(c.base))
	}
}

func TestEveryFewWithinEveryOther(t *testing.T) {
	within, same := 0, 0
	for _, a := range few() {
		for _, b := range few() {
			checkWithin(t, a, b, strings.HasPrefix(told(a), told(b)))
			checkSame(t, a, b, told(a) == told(b))
			if Within(a, b) {
				within++
			}
			if Same(a, b) {
				same++
			}
		}
	}
	// Each name is within as many as it has parts, and within itself.
	if within != 1+4*2+16*3+64*4 || same != 1+4+16+64 {
		t.Error(within, same)
	}
}

// One part is another in one thing, in every place.
func TestOtherPartsInEveryPlace(t *testing.T) {
	n := parts(8)
	for size := range 9 {
		base := slices.Clone(n[:size])
		checkWithin(t, n, base, true)
		checkSame(t, n[:size], base, true)
		for place := range base {
			for _, p := range []api.Part{
				{Kind: n[place].Kind + 1, Text: n[place].Text}, {Kind: n[place].Kind, Text: n[place].Text + "a"},
				{Kind: n[place].Kind, Text: n[place].Text[1:]}, {Kind: n[place].Kind, Text: strings.ToUpper(n[place].Text)}, {},
			} {
				base[place] = p
				checkWithin(t, n, base, false)
				checkWithin(t, base, n, false)
				checkWithin(t, base, n[:place], true)
				checkSame(t, n[:size], base, false)
			}
			base[place] = n[place]
		}
	}
}

func TestManyNamesWithinOthers(t *testing.T) {
	r := rand.New(rand.NewSource(3))
	for range 20000 {
		n, other := someName(r), someName(r)
		cut := n[:r.Intn(len(n)+1)]
		checkWithin(t, n, cut, true)
		checkWithin(t, cut, n, len(cut) == len(n))
		checkWithin(t, n, other, strings.HasPrefix(told(n), told(other)))
		checkSame(t, n, other, told(n) == told(other))
		checkSame(t, n, slices.Clone(n), true)
		checkWithin(t, append(slices.Clone(cut), other...), cut, true)
	}
}

// P1: what is no name is asked for its parts all the same.
func TestWithinWhatIsNoName(t *testing.T) {
	long := parts(1000)
	checkWithin(t, long, parts(9), true)
	checkWithin(t, long, parts(8), true)
	checkWithin(t, parts(9), long, false)
	checkSame(t, long, parts(1000), true)
	checkSame(t, long, parts(999), false)
	none := api.Name{{}, {Kind: -1, Text: "\xff"}}
	checkWithin(t, none, none[:1], true)
	checkWithin(t, none[:1], none, false)
	checkSame(t, none, slices.Clone(none), true)
	checkSame(t, none, api.Name{{}, {Kind: -1, Text: "\xfe"}}, false)
}

// P16.5

func TestWithinIsHandedOn(t *testing.T) {
	l := few()
	chains := 0
	for _, a := range l {
		for _, b := range l {
			if !Within(a, b) {
				continue
			}
			for _, c := range l {
				if Within(b, c) {
					chains++
					checkWithin(t, a, c, true)
				}
			}
			// Both within each other are the same.
			checkSame(t, a, b, Within(b, a))
		}
	}
	// A name of k parts is within k + 1 others, which are within 1 to k + 1.
	if chains != 1+4*3+16*6+64*10 {
		t.Error(chains)
	}
}
