package crl

import (
	"bytes"
	stdecdsa "crypto/ecdsa"
	"crypto/elliptic"
	"crypto/x509"
	"crypto/x509/pkix"
	"encoding/asn1"
	"math/big"
	"testing"
	"time"

	"escutcheon/api"
	"escutcheon/ecdsa"
	"escutcheon/ladder"
	"escutcheon/sha"
)

// The library's own lists of revoked ones: it reads ours, and we read its.

// keyOn is a key of the library's, the same in every run.
func keyOn(t *testing.T, c elliptic.Curve) *stdecdsa.PrivateKey {
	t.Helper()
	secret := bytes.Repeat([]byte{0x5a}, c.Params().BitSize/8)
	key, err := stdecdsa.ParseRawPrivateKey(c, secret)
	if err != nil {
		t.Fatal(err)
	}
	return key
}

// signed is a list of that secret, told by Body and Encode.
func signed(t *testing.T, c api.Crl, secret api.U384) []byte {
	t.Helper()
	body, err := Body(c)
	if err != nil {
		t.Fatal(err)
	}
	s, err := ecdsa.Sign(secret, api.U384{9, 8, 7}, sha.Sum(body))
	if err != nil {
		t.Fatal(err)
	}
	b, err := Encode(body, s)
	if err != nil {
		t.Fatal(err)
	}
	return b
}

func TestTheLibraryReadsOurs(t *testing.T) {
	secret := api.U384{123456789, 5}
	p := ladder.Base(secret)
	holder := &x509.Certificate{
		Version: 3, BasicConstraintsValid: true, IsCA: true, KeyUsage: x509.KeyUsageCRLSign,
		PublicKeyAlgorithm: x509.ECDSA, PublicKey: &stdecdsa.PublicKey{Curve: elliptic.P384(), X: bigOf(p.X), Y: bigOf(p.Y)},
	}
	many := full()
	many.Gone = gones(64)
	for _, c := range []api.Crl{full(), bare(), many} {
		b := signed(t, c, secret)
		x, err := x509.ParseRevocationList(b)
		if err != nil {
			t.Fatal(err)
		}
		if err := x.CheckSignatureFrom(holder); err != nil {
			t.Error(err)
		}
		if x.SignatureAlgorithm != x509.ECDSAWithSHA384 || x.ThisUpdate.Unix() != c.This || x.NextUpdate.Unix() != c.Next || len(x.Extensions) > 0 {
			t.Error(x.SignatureAlgorithm, x.ThisUpdate, x.NextUpdate, x.Extensions)
		}
		if !bytes.Equal(x.RawIssuer, marshal(nameListOf(c.Issuer))) {
			t.Error(x.Issuer)
		}
		if len(x.RevokedCertificateEntries) != len(c.Gone) {
			t.Fatal(len(x.RevokedCertificateEntries))
		}
		for i, one := range x.RevokedCertificateEntries {
			if !bytes.Equal(one.SerialNumber.Bytes(), c.Gone[i].Serial) || one.RevocationTime.Unix() != c.Gone[i].At || len(one.Extensions) > 0 {
				t.Errorf("%+v was read as %+v", c.Gone[i], one)
			}
		}
		got, err := Decode(x.Raw)
		if err != nil || !bytes.Equal(got.Body, x.RawTBSRevocationList) {
			t.Error(got, err)
		}
	}
}

// entries are as the library takes them.
func entries(gone []api.Gone) []pkix.RevokedCertificate {
	var l []pkix.RevokedCertificate
	for _, g := range gone {
		l = append(l, pkix.RevokedCertificate{SerialNumber: new(big.Int).SetBytes(g.Serial), RevocationTime: time.Unix(g.At, 0)})
	}
	return l
}

// checkLibrarys asks of a list that the library's older call makes: unless that is told whose key it
// is, it lays no extensions into it.
func checkLibrarys(t *testing.T, key *stdecdsa.PrivateKey, holder *x509.Certificate, gone []pkix.RevokedCertificate) (api.Crl, bool) {
	t.Helper()
	b, err := holder.CreateCRL(nil, key, gone, time.Unix(1795046400, 0), time.Unix(4102444800, 0))
	if err != nil {
		t.Fatal(err)
	}
	ok := checkBoth(t, "the library's", b)
	c, _ := Decode(b)
	return c, ok
}

func TestWeReadTheLibrarys(t *testing.T) {
	key := keyOn(t, elliptic.P384())
	point := api.Point{X: numberOf(key.X), Y: numberOf(key.Y)}
	holder := &x509.Certificate{PublicKeyAlgorithm: x509.ECDSA, PublicKey: &key.PublicKey}
	// With this sign in it the library tells a text as ours are told.
	holder.Subject = pkix.Name{CommonName: "a_b"}
	for _, n := range []int{0, 1, 2, 63, 64, 65} {
		got, ok := checkLibrarys(t, key, holder, entries(gones(n)))
		// Where none is revoked that call tells an empty list, which ours never is.
		if ok != (n >= 1 && n <= 64) {
			t.Errorf("Gone of %d: %v", n, ok)
		}
		if !ok {
			continue
		}
		want := api.Crl{Issuer: api.Name{common("a_b")}, This: 1795046400, Next: 4102444800, Gone: gones(n), Body: got.Body, Sig: got.Sig}
		if !sameCrl(got, want) {
			t.Errorf("%+v; want %+v", got, want)
		}
		if err := ecdsa.Verify(point, sha.Sum(got.Body), got.Sig); err != nil {
			t.Error("the signature doesn't hold for what was read", err)
		}
		for _, g := range gones(n) {
			checkHas(t, got, g.Serial, true)
		}
	}
}

// Of another curve or way to tell names, and with what isn't told by ours.
func TestWeDontReadTheLibrarysOthers(t *testing.T) {
	p384, p256 := keyOn(t, elliptic.P384()), keyOn(t, elliptic.P256())
	one := entries(gones(1))
	for _, c := range []struct {
		what string
		key  *stdecdsa.PrivateKey
		text string
		id   []byte
		gone []pkix.RevokedCertificate
		want bool
	}{
		{"P-384", p384, "a_b", nil, one, true},
		{"P-256, and so another digest", p256, "a_b", nil, one, false},
		{"a printable text", p384, "a", nil, one, false},
		{"extensions", p384, "a_b", []byte{1}, one, false},
		{"why one is revoked", p384, "a_b", nil, []pkix.RevokedCertificate{{
			SerialNumber: big.NewInt(7), RevocationTime: time.Unix(5, 0),
			Extensions: []pkix.Extension{{Id: asn1.ObjectIdentifier{2, 5, 29, 21}, Value: []byte{10, 1, 1}}},
		}}, false},
		{"a serial number of 0", p384, "a_b", nil, []pkix.RevokedCertificate{{SerialNumber: big.NewInt(0), RevocationTime: time.Unix(5, 0)}}, false},
		{"one below 0", p384, "a_b", nil, []pkix.RevokedCertificate{{SerialNumber: big.NewInt(-7), RevocationTime: time.Unix(5, 0)}}, false},
		{"one of 21 bytes", p384, "a_b", nil, entries([]api.Gone{{Serial: bytes.Repeat([]byte{1}, 21)}}), false},
		{"one of 20 bytes", p384, "a_b", nil, entries([]api.Gone{{Serial: bytes.Repeat([]byte{0xff}, 20)}}), true},
	} {
		holder := &x509.Certificate{Subject: pkix.Name{CommonName: c.text}, SubjectKeyId: c.id}
		if _, got := checkLibrarys(t, c.key, holder, c.gone); got != c.want {
			t.Errorf("%s: %v", c.what, got)
		}
	}
	// The library's newer call always lays extensions into it.
	holder := &x509.Certificate{RawSubject: marshal(nameListOf(parts(2))), SubjectKeyId: []byte{1}, KeyUsage: x509.KeyUsageCRLSign}
	template := &x509.RevocationList{Number: big.NewInt(1), ThisUpdate: time.Unix(0, 0), NextUpdate: time.Unix(1, 0)}
	b, err := x509.CreateRevocationList(nil, template, holder, p384)
	if err != nil {
		t.Fatal(err)
	}
	if checkBoth(t, "the library's newer call", b) {
		t.Error("extensions were read")
	}
}
