package path

import (
	"slices"

	"escutcheon/api"
	"escutcheon/crl"
	"escutcheon/name"
)

// judge is what one call was given, and what it has found of its signatures. A chain is told to it as
// the places of its certificates.
type judge struct {
	certs  []api.Cert
	anchor api.Anchor
	now    int64
	lists  []api.Crl

	certSigs, listSigs answers
}

// issuer is who stands above a certificate.
type issuer struct {
	place     int
	name      api.Name
	key       api.Point
	mayRevoke bool
}

// anchorPlace is the anchor's, behind those of all certificates.
const anchorPlace = api.MaxPool

// above is who stands above a chain's certificate.
func (j *judge) above(chain []int, at int) issuer {
	if at == len(chain)-1 {
		return issuer{place: anchorPlace, name: j.anchor.Name, key: j.anchor.Key, mayRevoke: true}
	}
	place := chain[at+1]
	c := j.certs[place]
	return issuer{place: place, name: c.Subject, key: c.Key, mayRevoke: hasUse(c, api.UseCrl)}
}

// find finds the first chain that check takes.
func (j *judge) find() ([]int, error) {
	var from func(chain []int) []int
	from = func(chain []int) []int {
		if len(chain) > 0 && j.check(chain) == nil {
			return chain
		}
		for next := range j.certs {
			if slices.Contains(chain, next) {
				continue
			}
			if found := from(append(slices.Clone(chain), next)); found != nil {
				return found
			}
		}
		return nil
	}
	found := from(nil)
	if found == nil {
		return nil, api.ErrChain
	}
	return found, nil
}

// checkAll checks the chain of all certificates, as they stand.
func (j *judge) checkAll() error {
	var chain []int
	for place := range j.certs {
		chain = append(chain, place)
	}
	return j.check(chain)
}

func (j *judge) check(chain []int) error {
	for at := range slices.Backward(chain) {
		if err := j.checkAt(chain, at); err != nil {
			return &api.Spot{At: at, Err: err}
		}
	}
	return nil
}

func (j *judge) checkAt(chain []int, at int) error {
	place := chain[at]
	c, by := j.certs[place], j.above(chain, at)
	switch {
	case !name.Same(c.Issuer, by.name):
		return api.ErrChain
	case !j.certSigs.hold(place, by, c.Body, c.Sig):
		return api.ErrSign
	case j.now < c.From || j.now > c.To:
		return api.ErrTime
	case !j.isCleared(c, by):
		return api.ErrRevoked
	case c.Odd || !j.mayBeCalledSo(chain, at) || !mayStandAt(c, at):
		return api.ErrPolicy
	}
	return nil
}

// isCleared tells whether a list speaks for a certificate, and none that does revokes it.
func (j *judge) isCleared(c api.Cert, by issuer) bool {
	spoken := false
	for place, l := range j.lists {
		if !j.speaks(place, by) {
			continue
		}
		if crl.Has(l, c.Serial) {
			return false
		}
		spoken = true
	}
	return spoken
}

// speaks tells whether a list speaks for those that an issuer stands above.
func (j *judge) speaks(place int, by issuer) bool {
	l := j.lists[place]
	if !by.mayRevoke || j.now < l.This || j.now > l.Next || !name.Same(l.Issuer, by.name) {
		return false
	}
	return j.listSigs.hold(place, by, l.Body, l.Sig)
}

// mayBeCalledSo tells whether all certificates above one allow its Subject.
func (j *judge) mayBeCalledSo(chain []int, at int) bool {
	subject := j.certs[chain[at]].Subject
	isAround := func(base api.Name) bool { return name.Within(subject, base) }
	for _, place := range chain[at+1:] {
		c := j.certs[place]
		if len(c.Permit) > 0 && !slices.ContainsFunc(c.Permit, isAround) {
			return false
		}
		if slices.ContainsFunc(c.Exclude, isAround) {
			return false
		}
	}
	return true
}
