package name

import (
	"bytes"
	"math/rand"
	"testing"

	"escutcheon/api"
	"escutcheon/der"
)

// P16.5

func checkThereAndBack(t *testing.T, n api.Name) {
	t.Helper()
	x, err := Element(n)
	if err != nil {
		t.Fatal(n, err)
	}
	checkOf(t, x, n)
	// By way of its bytes, too.
	b, err := der.Write(x)
	if err != nil {
		t.Fatal(n, err)
	}
	read, err := der.Parse(b)
	if err != nil {
		t.Fatal(n, err)
	}
	checkOf(t, read, n)
}

func TestNamesThereAndBack(t *testing.T) {
	for _, n := range names() {
		checkThereAndBack(t, n)
	}
	r := rand.New(rand.NewSource(4))
	for range 5000 {
		checkThereAndBack(t, someName(r))
	}
}

// Bytes of a name, one of them another: what is still read is told as those bytes.
func TestElementsThereAndBack(t *testing.T) {
	read := 0
	for _, n := range []api.Name{{}, {common("a")}, {org("o"), unit("u")}, {country("XY"), org("an org"), common("c")}} {
		right := wantBytes(n)
		for place := range right {
			for x := range 256 {
				b := bytes.Clone(right)
				b[place] = byte(x)
				element, err := der.Parse(b)
				if err != nil {
					continue
				}
				checkOfBoth(t, element)
				name, err := Of(element)
				if err != nil {
					continue
				}
				read++
				told, err := Element(name)
				if err != nil || !sameElement(told, element) {
					t.Errorf("%x was read as %v and told as %v, %v", b, name, told, err)
				}
			}
		}
	}
	if read < 1000 {
		t.Error(read)
	}
}

// Names that aren't the same have elements that aren't, nor is one's the beginning of another's.
func TestOtherNamesHaveOtherElements(t *testing.T) {
	l := few()
	var rows [][]byte
	for _, n := range l {
		x, err := Element(n)
		if err != nil {
			t.Fatal(n, err)
		}
		b, err := der.Write(x)
		if err != nil {
			t.Fatal(n, err)
		}
		rows = append(rows, b)
	}
	for i := range l {
		for k := range l {
			if bytes.HasPrefix(rows[i], rows[k]) != Same(l[i], l[k]) {
				t.Errorf("%v and %v", l[i], l[k])
			}
		}
	}
}
