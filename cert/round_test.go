package cert

import (
	"bytes"
	"math/rand"
	"slices"
	"testing"

	"escutcheon/api"
)

// P17.5

// sameCert holds two certificates against each other; lists without elements are alike.
func sameCert(a, b api.Cert) bool {
	sameNames := func(a, b []api.Name) bool {
		return slices.EqualFunc(a, b, func(a, b api.Name) bool { return slices.Equal(a, b) })
	}
	return bytes.Equal(a.Serial, b.Serial) && slices.Equal(a.Issuer, b.Issuer) && slices.Equal(a.Subject, b.Subject) &&
		a.From == b.From && a.To == b.To && a.Key == b.Key && a.Ca == b.Ca && a.Path == b.Path && a.Usage == b.Usage &&
		slices.EqualFunc(a.Uses, b.Uses, func(a, b []uint64) bool { return slices.Equal(a, b) }) &&
		sameNames(a.Permit, b.Permit) && sameNames(a.Exclude, b.Exclude) &&
		a.Odd == b.Odd && bytes.Equal(a.Body, b.Body) && a.Sig == b.Sig
}

// checkRound tells a certificate and reads it.
func checkRound(t *testing.T, c api.Cert, s api.Sig) {
	t.Helper()
	body, err := Body(c)
	if err != nil {
		t.Fatal(c, err)
	}
	b, err := Encode(body, s)
	if err != nil {
		t.Fatal(c, err)
	}
	got, err := Decode(b)
	c.Body, c.Sig = body, s
	if err != nil || !sameCert(got, c) {
		t.Errorf("%+v was read as %+v, %v", c, got, err)
	}
	// What was read is told as that again.
	again, err := Body(got)
	if err != nil || !bytes.Equal(again, body) {
		t.Errorf("%x was told as %x, %v", body, again, err)
	}
}

func TestThereAndBack(t *testing.T) {
	for _, one := range rightChanges() {
		for _, s := range []api.Sig{someSig(), lastSig()} {
			for _, c := range []api.Cert{bare(), full()} {
				one.do(&c)
				checkRound(t, c, s)
			}
		}
	}
}

func TestManyThereAndBack(t *testing.T) {
	r := rand.New(rand.NewSource(2))
	all := rightChanges()
	for range 5000 {
		s := api.Sig{R: api.U384{r.Uint64(), r.Uint64()}, S: api.U384{1, r.Uint64(), r.Uint64(), r.Uint64(), r.Uint64(), r.Uint64() >> 1}}
		checkRound(t, someCert(r, all), s)
	}
}

// What isn't in the body is not in the answer either: another body and signature than were handed in.
func TestBodyAndSigAreThoseTold(t *testing.T) {
	c := full()
	c.Body, c.Sig = []byte{1, 2, 3}, lastSig()
	checkRound(t, c, someSig())
}

// Other certificates have other bodies, and none is the beginning of another one.
func TestOtherCertificatesHaveOtherBodies(t *testing.T) {
	var certs []api.Cert
	var bodies [][]byte
	for _, one := range rightChanges() {
		c := full()
		one.do(&c)
		c.Body, c.Sig = nil, api.Sig{}
		body, err := Body(c)
		if err != nil {
			t.Fatal(one.what, err)
		}
		certs, bodies = append(certs, c), append(bodies, body)
	}
	for i := range certs {
		for k := range certs {
			if bytes.HasPrefix(bodies[i], bodies[k]) != sameCert(certs[i], certs[k]) {
				t.Errorf("%+v and %+v", certs[i], certs[k])
			}
		}
	}
}
