package manifest

import (
	"escutcheon/api"
	"escutcheon/der"
	"escutcheon/ecdsa"
	"escutcheon/prim"
)

// How many elements there are in the lists of a manifest, and of a signed one.
const (
	manifestParts = 7
	signedParts   = 2
)

func manifestOf(t api.Tlv) (api.Manifest, error) {
	if !isList(t) || len(t.Kids) != manifestParts {
		return api.Manifest{}, api.ErrForm
	}
	var m api.Manifest
	for i, n := range []*int{&m.Version, &m.Class, &m.Load, &m.Length} {
		var err error
		*n, err = smallOf(t.Kids[i])
		if err != nil {
			return api.Manifest{}, err
		}
	}
	nonce, wrapped, digest := t.Kids[4], t.Kids[5], t.Kids[6]
	if !areBytes(nonce, nonceSize) || !areBytes(wrapped, wrappedSize) || !areBytes(digest, digestSize) {
		return api.Manifest{}, api.ErrForm
	}
	// An element that was parsed has memory of its own, each one.
	m.Nonce, m.Wrapped, m.Digest = nonce.Body, wrapped.Body, digest.Body
	return m, nil
}

func smallOf(t api.Tlv) (int, error) {
	if !isPlain(t, api.TagInt) {
		return 0, api.ErrForm
	}
	return prim.Small(t.Body)
}

func areBytes(t api.Tlv, size int) bool { return isPlain(t, api.TagBytes) && len(t.Body) == size }

// signedOf are the bytes of what was signed, and the signature.
func signedOf(t api.Tlv) ([]byte, api.Sig, error) {
	if !isList(t) || len(t.Kids) != signedParts {
		return nil, api.Sig{}, api.ErrForm
	}
	s, err := sigOf(t.Kids[1])
	if err != nil {
		return nil, api.Sig{}, err
	}
	body, err := der.Write(t.Kids[0])
	if err != nil {
		return nil, api.Sig{}, err
	}
	return body, s, nil
}

// sigOf is the signature that an element's bits tell, all of which count.
func sigOf(t api.Tlv) (api.Sig, error) {
	if !isPlain(t, api.TagBits) {
		return api.Sig{}, api.ErrForm
	}
	b, unused, err := prim.Bits(t.Body)
	if err != nil {
		return api.Sig{}, err
	}
	if unused != allCount {
		return api.Sig{}, api.ErrForm
	}
	return ecdsa.Decode(b)
}

func isList(t api.Tlv) bool { return t.Class == 0 && t.Tag == api.TagList && t.Made }

func isPlain(t api.Tlv, tag int) bool { return t.Class == 0 && t.Tag == tag && !t.Made }
