package cert

import (
	"bytes"
	stdecdsa "crypto/ecdsa"
	"crypto/elliptic"
	"crypto/x509"
	"crypto/x509/pkix"
	"encoding/asn1"
	"math/big"
	"slices"
	"testing"
	"time"

	"escutcheon/api"
	"escutcheon/ecdsa"
	"escutcheon/ladder"
	"escutcheon/sha"
)

// The library's own certificates: it reads ours, and we read its.

// keyOn is a key of the library's, the same in every run.
func keyOn(t *testing.T, c elliptic.Curve) *stdecdsa.PrivateKey {
	t.Helper()
	secret := bytes.Repeat([]byte{0x5a}, c.Params().BitSize/8)
	key, err := stdecdsa.ParseRawPrivateKey(c, secret)
	if err != nil {
		t.Fatal(err)
	}
	return key
}

// signed is a certificate of that secret, told by Body and Encode.
func signed(t *testing.T, c api.Cert, secret api.U384) []byte {
	t.Helper()
	body, err := Body(c)
	if err != nil {
		t.Fatal(err)
	}
	s, err := ecdsa.Sign(secret, api.U384{9, 8, 7}, sha.Sum(body))
	if err != nil {
		t.Fatal(err)
	}
	b, err := Encode(body, s)
	if err != nil {
		t.Fatal(err)
	}
	return b
}

func TestTheLibraryReadsOurs(t *testing.T) {
	secret := api.U384{123456789, 5}
	c := full()
	c.Key = ladder.Base(secret)
	c.Usage = api.UseSign | api.UseCert | api.UseCrl | 256
	b := signed(t, c, secret)
	x, err := x509.ParseCertificate(b)
	if err != nil {
		t.Fatal(err)
	}
	if err := x.CheckSignature(x509.ECDSAWithSHA384, x.RawTBSCertificate, x.Signature); err != nil {
		t.Error(err)
	}
	if x.SignatureAlgorithm != x509.ECDSAWithSHA384 || x.Version != 3 || x.SerialNumber.Cmp(new(big.Int).SetBytes(c.Serial)) != 0 {
		t.Error(x.SignatureAlgorithm, x.Version, x.SerialNumber)
	}
	if x.NotBefore.Unix() != c.From || x.NotAfter.Unix() != c.To {
		t.Error(x.NotBefore, x.NotAfter)
	}
	key, ok := x.PublicKey.(*stdecdsa.PublicKey)
	if !ok || key.Curve != elliptic.P384() || key.X.Cmp(bigOf(c.Key.X)) != 0 || key.Y.Cmp(bigOf(c.Key.Y)) != 0 {
		t.Error(x.PublicKey)
	}
	if !x.BasicConstraintsValid || !x.IsCA || x.MaxPathLen != 2 {
		t.Error(x.IsCA, x.MaxPathLen)
	}
	if want := x509.KeyUsageDigitalSignature | x509.KeyUsageCertSign | x509.KeyUsageCRLSign | x509.KeyUsageDecipherOnly; x.KeyUsage != want {
		t.Error(x.KeyUsage)
	}
	if x.Subject.CommonName != "a" || !slices.Equal(x.Subject.Organization, []string{"an org"}) || !slices.Equal(x.Subject.OrganizationalUnit, []string{"a unit"}) || !slices.Equal(x.Issuer.Country, []string{"XY"}) {
		t.Error(x.Subject, x.Issuer)
	}
	if !slices.Equal(x.ExtKeyUsage, []x509.ExtKeyUsage{x509.ExtKeyUsageAny}) || len(x.UnknownExtKeyUsage) != 1 || x.UnknownExtKeyUsage[0].String() != "1.3.6.1.4.1.4711.1" {
		t.Error(x.ExtKeyUsage, x.UnknownExtKeyUsage)
	}
	var musts []string
	for _, e := range x.Extensions {
		musts = append(musts, e.Id.String())
		if e.Critical != (e.Id.String() != "2.5.29.37") {
			t.Error(e.Id, e.Critical)
		}
	}
	if !slices.Equal(musts, []string{"2.5.29.19", "2.5.29.15", "2.5.29.37", "2.5.29.30"}) {
		t.Error(musts)
	}
}

// Made by the library, with names whose texts are told as ours are.
func TestWeReadTheLibrarys(t *testing.T) {
	key := keyOn(t, elliptic.P384())
	issuer, subject := parts(3), parts(5)
	parent := &x509.Certificate{RawSubject: marshal(nameListOf(issuer))}
	other := pkix.Extension{Id: asn1.ObjectIdentifier{1, 2, 3, 4}, Value: []byte{0x1f, 0xff}}
	for _, must := range []bool{false, true} {
		other.Critical = must
		for _, path := range []int{-1, 0, 3} {
			from, to := time.Unix(1795046400, 0), time.Unix(4102444800, 0)
			template := &x509.Certificate{
				SerialNumber: new(big.Int).Lsh(big.NewInt(0xcafe), 100), RawSubject: marshal(nameListOf(subject)), NotBefore: from, NotAfter: to,
				KeyUsage: x509.KeyUsageCertSign | x509.KeyUsageDecipherOnly, ExtKeyUsage: []x509.ExtKeyUsage{x509.ExtKeyUsageCodeSigning},
				BasicConstraintsValid: true, IsCA: true, MaxPathLen: path, MaxPathLenZero: path == 0,
				ExtraExtensions: []pkix.Extension{other}, SignatureAlgorithm: x509.ECDSAWithSHA384,
			}
			b, err := x509.CreateCertificate(nil, template, parent, &key.PublicKey, key)
			if err != nil {
				t.Fatal(err)
			}
			x, err := x509.ParseCertificate(b)
			if err != nil {
				t.Fatal(err)
			}
			var sig sigList
			if _, err := asn1.Unmarshal(x.Signature, &sig); err != nil {
				t.Fatal(err)
			}
			checkDecode(t, "the library's", b, api.Cert{
				Serial: template.SerialNumber.Bytes(), Issuer: issuer, Subject: subject, From: 1795046400, To: 4102444800,
				Key: api.Point{X: numberOf(key.X), Y: numberOf(key.Y)}, Ca: true, Path: path, Usage: 32 | 256, Uses: [][]uint64{{1, 3, 6, 1, 5, 5, 7, 3, 3}}, Odd: must,
				Body: x.RawTBSCertificate, Sig: api.Sig{R: numberOf(sig.R), S: numberOf(sig.S)},
			})
			got, err := Decode(b)
			if err != nil || ecdsa.Verify(got.Key, sha.Sum(got.Body), got.Sig) != nil {
				t.Error("the signature doesn't hold for what was read")
			}
		}
	}
}

// Of another curve, digest or way to tell names.
func TestWeDontReadTheLibrarysOthers(t *testing.T) {
	p384, p256 := keyOn(t, elliptic.P384()), keyOn(t, elliptic.P256())
	raw := marshal(nameListOf(parts(2)))
	check := func(what string, want bool, signer, holder *stdecdsa.PrivateKey, change func(*x509.Certificate)) {
		t.Helper()
		x := &x509.Certificate{
			SerialNumber: big.NewInt(7), RawSubject: raw, NotBefore: time.Unix(0, 0), NotAfter: time.Unix(1, 0), KeyUsage: x509.KeyUsageDigitalSignature,
			SignatureAlgorithm: x509.ECDSAWithSHA384,
		}
		change(x)
		b, err := x509.CreateCertificate(nil, x, &x509.Certificate{RawSubject: raw}, &holder.PublicKey, signer)
		if err != nil {
			t.Fatal(what, err)
		}
		if got := checkBoth(t, what, b); got != want {
			t.Errorf("%s: %v", what, got)
		}
	}
	check("P-384", true, p384, p384, func(*x509.Certificate) {})
	check("signed by P-256", true, p256, p384, func(*x509.Certificate) {})
	check("a key of P-256", false, p384, p256, func(*x509.Certificate) {})
	check("SHA-256", false, p384, p384, func(x *x509.Certificate) { x.SignatureAlgorithm = x509.ECDSAWithSHA256 })
	check("SHA-512", false, p384, p384, func(x *x509.Certificate) { x.SignatureAlgorithm = x509.ECDSAWithSHA512 })
	check("no extensions", false, p384, p384, func(x *x509.Certificate) { x.KeyUsage = 0 })
	check("a printable text", false, p384, p384, func(x *x509.Certificate) { x.RawSubject, x.Subject = nil, pkix.Name{CommonName: "a"} })
	check("an email address", false, p384, p384, func(x *x509.Certificate) { x.PermittedEmailAddresses = []string{"a@example.org"} })
	check("a host", false, p384, p384, func(x *x509.Certificate) { x.ExcludedDNSDomains = []string{"example.org"} })
	check("nine uses", false, p384, p384, func(x *x509.Certificate) { x.ExtKeyUsage = make([]x509.ExtKeyUsage, 9) })
	check("eight uses", true, p384, p384, func(x *x509.Certificate) { x.ExtKeyUsage = make([]x509.ExtKeyUsage, 8) })
	check("a host's other name", true, p384, p384, func(x *x509.Certificate) { x.DNSNames = []string{"example.org"} })
}

func TestOursAreTheLibrarysBytes(t *testing.T) {
	secret := api.U384{77}
	c := bare()
	c.Key = ladder.Base(secret)
	x, err := x509.ParseCertificate(signed(t, c, secret))
	if err != nil {
		t.Fatal(err)
	}
	got, err := Decode(x.Raw)
	if err != nil || !bytes.Equal(got.Body, x.RawTBSCertificate) || x.IsCA || x.MaxPathLen != -1 || x.KeyUsage != 0 {
		t.Error(got, err)
	}
}
