package cert

import (
	"escutcheon/api"
	"escutcheon/der"
	"escutcheon/prim"
)

// missing is Path, and Usage, of a certificate that has none.
const missing = -1

// An extension is told with its truth, or without it.
const (
	fewestParts = 2
	mostParts   = 3
)

// extension is one that was read: its identifier's body, whether it must be understood, its bytes.
type extension struct {
	id   string
	must bool
	told []byte
}

// extensionsElement is the list of a certificate's extensions.
func extensionsElement(c api.Cert) (api.Tlv, error) {
	if c.Odd {
		return api.Tlv{}, api.ErrArg
	}
	all := list()
	var amiss error
	lay := func(id string, must bool, content func(api.Cert) (api.Tlv, error)) {
		t, err := content(c)
		if err != nil {
			amiss = err
			return
		}
		b, err := der.Write(t)
		if err != nil {
			amiss = err
			return
		}
		all.Kids = append(all.Kids, extensionElement(id, must, b))
	}
	lay(caId, true, caElement)
	if c.Usage != missing {
		lay(usageId, true, usageElement)
	}
	if len(c.Uses) > 0 {
		lay(usesId, false, usesElement)
	}
	if len(c.Permit) > 0 || len(c.Exclude) > 0 {
		lay(namesId, true, namesElement)
	}
	if amiss != nil {
		return api.Tlv{}, amiss
	}
	return all, nil
}

func extensionElement(id string, must bool, b []byte) api.Tlv {
	if must {
		return list(identifier(id), truth(), plain(api.TagBytes, b))
	}
	return list(identifier(id), plain(api.TagBytes, b))
}

// withExtensions is a certificate with what its extensions tell.
func withExtensions(c api.Cert, t api.Tlv) (api.Cert, error) {
	if !isMarked(t, extensionsMark) || len(t.Kids) != 1 {
		return api.Cert{}, api.ErrForm
	}
	all := t.Kids[0]
	if !isList(all) || len(all.Kids) == 0 {
		return api.Cert{}, api.ErrForm
	}
	c.Path, c.Usage = missing, missing
	there := map[string]struct{}{}
	for _, kid := range all.Kids {
		e, err := extensionOf(kid)
		if err != nil {
			return api.Cert{}, err
		}
		if _, twice := there[e.id]; twice {
			return api.Cert{}, api.ErrForm
		}
		there[e.id] = struct{}{}
		c, err = withExtension(c, e)
		if err != nil {
			return api.Cert{}, err
		}
	}
	return c, nil
}

func extensionOf(t api.Tlv) (extension, error) {
	if !isList(t) || len(t.Kids) < fewestParts || len(t.Kids) > mostParts {
		return extension{}, api.ErrForm
	}
	id, last := t.Kids[0], t.Kids[len(t.Kids)-1]
	if !isPlain(id, api.TagOid) || !isPlain(last, api.TagBytes) {
		return extension{}, api.ErrForm
	}
	if _, err := prim.Oid(id.Body); err != nil {
		return extension{}, err
	}
	must := len(t.Kids) == mostParts
	if must && !isTruth(t.Kids[1]) {
		return extension{}, api.ErrForm
	}
	return extension{id: string(id.Body), must: must, told: last.Body}, nil
}

// withExtension is a certificate with what one more extension tells.
func withExtension(c api.Cert, e extension) (api.Cert, error) {
	if !isKnown(e.id) {
		c.Odd = c.Odd || e.must
		return c, nil
	}
	t, err := der.Parse(e.told)
	if err != nil {
		return api.Cert{}, err
	}
	switch e.id {
	case caId:
		c.Ca, c.Path, err = caOf(t)
	case usageId:
		c.Usage, err = usageOf(t)
	case usesId:
		c.Uses, err = usesOf(t)
	case namesId:
		c.Permit, c.Exclude, err = namesOf(t)
	}
	if err != nil {
		return api.Cert{}, err
	}
	return c, nil
}

func isKnown(id string) bool {
	switch id {
	case caId, usageId, usesId, namesId:
		return true
	}
	return false
}
