package manifest

import (
	"bytes"
	"crypto"
	stdecdsa "crypto/ecdsa"
	"crypto/elliptic"
	"crypto/sha512"
	"math/rand"
	"testing"

	"escutcheon/api"
	"escutcheon/ecdsa"
	"escutcheon/ladder"
)

// P20.4

// checkRound tells a manifest and reads it, then with a signature.
func checkRound(t *testing.T, m api.Manifest, s api.Sig) {
	t.Helper()
	b, err := Encode(m)
	if err != nil {
		t.Fatal(m, err)
	}
	got, err := Decode(b)
	if err != nil || !sameManifest(got, m) {
		t.Errorf("%+v was read as %+v, %v", m, got, err)
	}
	// What was read is told as that again.
	if again, err := Encode(got); err != nil || !bytes.Equal(again, b) {
		t.Errorf("%x was told as %x, %v", b, again, err)
	}
	checkSignedRound(t, b, s)
}

func checkSignedRound(t *testing.T, body []byte, s api.Sig) {
	t.Helper()
	b, err := Sign(body, s)
	if err != nil {
		t.Fatal(short(body), err)
	}
	got, gotSig, err := Signed(b)
	if err != nil || !bytes.Equal(got, body) || gotSig != s {
		t.Errorf("%s and %v were read as %s, %v, %v", short(body), s, short(got), gotSig, err)
	}
	if again, err := Sign(got, gotSig); err != nil || !bytes.Equal(again, b) {
		t.Errorf("%s was told as %s, %v", short(b), short(again), err)
	}
}

func TestThereAndBack(t *testing.T) {
	for _, one := range rightChanges() {
		for _, s := range []api.Sig{someSig(), lastSig()} {
			for _, m := range []api.Manifest{zero(), full()} {
				one.do(&m)
				checkRound(t, m, s)
			}
		}
	}
}

func TestManyThereAndBack(t *testing.T) {
	r := rand.New(rand.NewSource(2))
	for range 10000 {
		s := api.Sig{R: api.U384{r.Uint64(), r.Uint64()}, S: api.U384{1, r.Uint64(), r.Uint64(), r.Uint64(), r.Uint64(), r.Uint64() >> 1}}
		checkRound(t, someManifest(r), s)
	}
}

func TestAnyElementThereAndBack(t *testing.T) {
	for _, body := range anyElements() {
		for _, s := range []api.Sig{someSig(), lastSig()} {
			checkSignedRound(t, body, s)
		}
	}
	for _, s := range rightSigs() {
		checkSignedRound(t, []byte{5, 0}, s)
	}
}

// One signed manifest may be signed again.
func TestSignedAgainAndAgain(t *testing.T) {
	inner := wantBytes(full())
	b := inner
	for range 10 {
		signed, err := Sign(b, someSig())
		if err != nil {
			t.Fatal(err)
		}
		checkSigned(t, "signed again", signed, b, someSig())
		b = signed
	}
	for range 10 {
		b, _, _ = Signed(b)
	}
	if !bytes.Equal(b, inner) {
		t.Errorf("%x", b)
	}
}

// Other manifests have other bytes, and none is the beginning of another one.
func TestOtherManifestsHaveOtherBytes(t *testing.T) {
	var all []api.Manifest
	var told [][]byte
	for _, one := range rightChanges() {
		m := full()
		one.do(&m)
		b, err := Encode(m)
		if err != nil {
			t.Fatal(one.what, err)
		}
		all, told = append(all, m), append(told, b)
	}
	for i := range all {
		for k := range all {
			if bytes.HasPrefix(told[i], told[k]) != sameManifest(all[i], all[k]) {
				t.Errorf("%+v and %+v", all[i], all[k])
			}
		}
	}
}

// One that a key of ours signed, and one that a key of the library's did: what Signed tells is what
// the signature holds for.
func TestSignatureHoldsForWhatWasRead(t *testing.T) {
	secret := api.U384{123456789, 5}
	body, err := Encode(full())
	if err != nil {
		t.Fatal(err)
	}
	digest := sha512.Sum384(body)
	ours, err := ecdsa.Sign(secret, api.U384{9, 8, 7}, digest[:])
	if err != nil {
		t.Fatal(err)
	}
	checkHolds(t, body, ours, ladder.Base(secret))

	key, err := stdecdsa.ParseRawPrivateKey(elliptic.P384(), bytes.Repeat([]byte{0x5a}, 48))
	if err != nil {
		t.Fatal(err)
	}
	told, err := key.Sign(nil, digest[:], crypto.SHA384)
	if err != nil {
		t.Fatal(err)
	}
	theirs, err := ecdsa.Decode(told)
	if err != nil {
		t.Fatal(err)
	}
	checkHolds(t, body, theirs, api.Point{X: numberOf(key.X), Y: numberOf(key.Y)})
}

func checkHolds(t *testing.T, body []byte, s api.Sig, p api.Point) {
	t.Helper()
	b, err := Sign(body, s)
	if err != nil {
		t.Fatal(err)
	}
	read, readSig, err := Signed(b)
	if err != nil {
		t.Fatal(err)
	}
	digest := sha512.Sum384(read)
	key := stdecdsa.PublicKey{Curve: elliptic.P384(), X: bigOf(p.X), Y: bigOf(p.Y)}
	if !stdecdsa.VerifyASN1(&key, digest[:], sigBytes(readSig.R, readSig.S)) {
		t.Error("the signature doesn't hold for what was read")
	}
}
