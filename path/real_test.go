package path

import (
	"crypto/x509"
	"slices"
	"strconv"
	"testing"
	"time"

	"escutcheon/api"
	"escutcheon/cert"
	"escutcheon/crl"
)

// Certificates and lists that were told as bytes and read again; the library takes the same chains, as
// far as it asks for the same.

func realCert(c api.Cert, secret int) ([]byte, error) {
	body, err := cert.Body(c)
	if err != nil {
		return nil, err
	}
	return cert.Encode(body, signedBy(secret, body))
}

func realList(l api.Crl, secret int) ([]byte, error) {
	body, err := crl.Body(l)
	if err != nil {
		return nil, err
	}
	return crl.Encode(body, signedBy(secret, body))
}

// real is a world all of whose certificates and lists were told and read, and the certificates' bytes.
// They are signed by who stands above in a right chain.
func real(t *testing.T, w world) (world, [][]byte) {
	t.Helper()
	own := world{anchor: w.anchor, now: w.now}
	var told [][]byte
	for at, c := range w.certs {
		b, err := realCert(c, keyAt(len(w.certs)-at-1))
		if err != nil {
			t.Fatal(err)
		}
		read, err := cert.Decode(b)
		if err != nil {
			t.Fatal(err)
		}
		told, own.certs = append(told, b), append(own.certs, read)
	}
	for at, l := range w.lists {
		b, err := realList(l, keyAt(len(w.lists)-at-1))
		if err != nil {
			t.Fatal(err)
		}
		read, err := crl.Decode(b)
		if err != nil {
			t.Fatal(err)
		}
		own.lists = append(own.lists, read)
	}
	return own, told
}

// libraryTakes tells whether the library takes a chain from an anchor of that name and key.
func libraryTakes(t *testing.T, told [][]byte, now int64) bool {
	t.Helper()
	anchor := caAt(1)
	anchor.Issuer, anchor.Subject, anchor.Key, anchor.From, anchor.To = nameAt(0), nameAt(0), pointOf(keyAt(0)), 0, 1e9
	b, err := realCert(anchor, keyAt(0))
	if err != nil {
		t.Fatal(err)
	}
	roots, between := x509.NewCertPool(), x509.NewCertPool()
	roots.AddCert(parsed(t, b))
	for _, b := range told[1:] {
		between.AddCert(parsed(t, b))
	}
	_, err = parsed(t, told[0]).Verify(x509.VerifyOptions{
		Roots: roots, Intermediates: between, CurrentTime: time.Unix(now, 0), KeyUsages: []x509.ExtKeyUsage{x509.ExtKeyUsageAny},
	})
	return err == nil
}

func parsed(t *testing.T, b []byte) *x509.Certificate {
	t.Helper()
	x, err := x509.ParseCertificate(b)
	if err != nil {
		t.Fatal(err)
	}
	return x
}

func TestRealChains(t *testing.T) {
	var all []trial
	for n := 1; n <= 4; n++ {
		w, told := real(t, right(n))
		all = append(all, trial{strconv.Itoa(n), w, nil})
		if !libraryTakes(t, told, w.now) {
			t.Error("the library doesn't take the chain of", n)
		}
	}
	tryAll(t, all)
}

// Of the same changes the library takes the same chains.
func TestRealChainsAsTheLibrary(t *testing.T) {
	changes := []change{
		{"nothing", func(*world, int) {}},
		{"another issuer", func(w *world, at int) { w.certs[at].Issuer = nameAt(9)[:8] }},
		{"from one later on", func(w *world, at int) { w.certs[at].From = rightNow + 1 }},
		{"from now on", func(w *world, at int) { w.certs[at].From = rightNow }},
		{"to now", func(w *world, at int) { w.certs[at].To = rightNow }},
		{"to one ahead", func(w *world, at int) { w.certs[at].To = rightNow - 1 }},
	}
	above := []change{
		{"not Ca", func(w *world, at int) { w.certs[at].Ca = false }},
		{"not for certificates", func(w *world, at int) { w.certs[at].Usage = api.UseCrl | api.UseSign }},
		{"a Path of 0", func(w *world, at int) { w.certs[at].Path = 0 }},
		{"a Path of 1", func(w *world, at int) { w.certs[at].Path = 1 }},
		{"a Path of 2", func(w *world, at int) { w.certs[at].Path = 2 }},
		{"another key", func(w *world, at int) { w.certs[at].Key = pointOf(strangerKey) }},
	}
	taken, refused := 0, 0
	for n := 1; n <= 4; n++ {
		for at := range n {
			all := changes
			if at > 0 {
				all = slices.Concat(changes, above)
			}
			for _, one := range all {
				w, bytes := real(t, right(n).with(func(w *world) { one.do(w, at) }))
				want := wantCheck(w)
				tryQuickly(t, []trial{{one.what, w, want}})
				if got := libraryTakes(t, bytes, w.now); got != (want == nil) {
					t.Errorf("%s at %d of %d: the library %v, we %v", one.what, at, n, got, want)
				}
				if want == nil {
					taken++
				} else {
					refused++
				}
			}
		}
	}
	if taken < 20 || refused < 20 {
		t.Error(taken, refused)
	}
}

func TestRealPools(t *testing.T) {
	var all []search
	for i, order := range orders(3) {
		w, _ := real(t, right(3))
		own, chain := inPool(w, order)
		all = append(all, search{strconv.Itoa(i), own, chain})
	}
	searchQuickly(t, all)
	searchAll(t, all[3:])
}
