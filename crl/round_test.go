package crl

import (
	"bytes"
	"math/rand"
	"slices"
	"testing"

	"escutcheon/api"
)

// P18.4

// sameCrl holds two lists against each other; lists without elements are alike.
func sameCrl(a, b api.Crl) bool {
	return slices.Equal(a.Issuer, b.Issuer) && a.This == b.This && a.Next == b.Next &&
		slices.EqualFunc(a.Gone, b.Gone, sameGone) && bytes.Equal(a.Body, b.Body) && a.Sig == b.Sig
}

// checkRound tells a list and reads it.
func checkRound(t *testing.T, c api.Crl, s api.Sig) {
	t.Helper()
	body, err := Body(c)
	if err != nil {
		t.Fatal(c, err)
	}
	b, err := Encode(body, s)
	if err != nil {
		t.Fatal(c, err)
	}
	got, err := Decode(b)
	c.Body, c.Sig = body, s
	if err != nil || !sameCrl(got, c) {
		t.Errorf("%+v was read as %+v, %v", c, got, err)
	}
	// What was read is told as that again.
	again, err := Body(got)
	if err != nil || !bytes.Equal(again, body) {
		t.Errorf("%x was told as %x, %v", body, again, err)
	}
	whole, err := Encode(got.Body, got.Sig)
	if err != nil || !bytes.Equal(whole, b) {
		t.Errorf("%x was told as %x, %v", b, whole, err)
	}
}

func TestThereAndBack(t *testing.T) {
	for _, one := range rightChanges() {
		for _, s := range []api.Sig{someSig(), lastSig()} {
			for _, c := range []api.Crl{bare(), full(), {}} {
				one.do(&c)
				checkRound(t, c, s)
			}
		}
	}
}

func TestManyThereAndBack(t *testing.T) {
	r := rand.New(rand.NewSource(2))
	all := rightChanges()
	for range 5000 {
		s := api.Sig{R: api.U384{r.Uint64(), r.Uint64()}, S: api.U384{1, r.Uint64(), r.Uint64(), r.Uint64(), r.Uint64(), r.Uint64() >> 1}}
		checkRound(t, someCrl(r, all), s)
	}
}

// What isn't in the body is not in the answer either: another body and signature than were handed in.
func TestBodyAndSigAreThoseTold(t *testing.T) {
	c := full()
	c.Body, c.Sig = []byte{1, 2, 3}, lastSig()
	checkRound(t, c, someSig())
}

// They stay in their order, whatever that is.
func TestGoneStaysInItsOrder(t *testing.T) {
	r := rand.New(rand.NewSource(8))
	for range 200 {
		c := full()
		c.Gone = gones(1 + r.Intn(64))
		r.Shuffle(len(c.Gone), func(i, k int) { c.Gone[i], c.Gone[k] = c.Gone[k], c.Gone[i] })
		checkRound(t, c, someSig())
	}
}

// Other lists have other bodies, and none is the beginning of another one.
func TestOtherListsHaveOtherBodies(t *testing.T) {
	var lists []api.Crl
	var bodies [][]byte
	for _, one := range rightChanges() {
		c := full()
		one.do(&c)
		c.Body, c.Sig = nil, api.Sig{}
		body, err := Body(c)
		if err != nil {
			t.Fatal(one.what, err)
		}
		lists, bodies = append(lists, c), append(bodies, body)
	}
	for i := range lists {
		for k := range lists {
			if bytes.HasPrefix(bodies[i], bodies[k]) != sameCrl(lists[i], lists[k]) {
				t.Errorf("%+v and %+v", lists[i], lists[k])
			}
		}
	}
}
