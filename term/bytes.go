package term

import "lethe/api"

// Encode writes a term; Decode reads one; Size is how many bytes it has.
func Encode(t api.Term) (string, api.Errno) {
	if e := Right(t); e != api.OK {
		return "", e
	}
	return string(appendTerm(nil, t)), api.OK
}

func Size(t api.Term) (int, api.Errno) {
	s, e := Encode(t)
	return len(s), e
}

func appendTerm(b []byte, t api.Term) []byte {
	b = append(b, byte(t.Kind))
	switch t.Kind {
	case api.Atom:
		b = appendNum(b, uint64(len(t.Bytes)))
	case api.Row:
		b = appendNum(b, uint64(len(t.List)))
	default:
		b = appendNum(b, t.Num)
	}
	b = append(b, t.Bytes...)
	for _, part := range t.List {
		b = appendTerm(b, part)
	}
	return b
}

func Decode(s string) (api.Term, api.Errno) {
	r := reader{rest: s}
	t, e := r.term(0)
	if e == api.OK && r.rest != "" {
		e = api.ErrRest
	}
	if e != api.OK {
		return api.Term{}, e
	}
	return t, api.OK
}

// reader is the bytes that are still to be read, and how many terms have begun ahead of them.
type reader struct {
	rest  string
	begun int
}

// term reads one that stands in so many others.
func (r *reader) term(about int) (api.Term, api.Errno) {
	if r.begun == api.MaxParts {
		return api.Term{}, api.ErrMany
	}
	r.begun++
	if about == api.MaxDeep {
		return api.Term{}, api.ErrDeep
	}
	kind, n, e := r.head()
	if e != api.OK {
		return api.Term{}, e
	}
	t := api.Term{Kind: kind}
	switch kind {
	case api.Atom:
		t.Bytes, e = r.atom(n)
	case api.Row:
		t.List, e = r.terms(n, about+1)
	case api.Box:
		t.Num = n
		t.List, e = r.terms(1, about+1)
	default:
		t.Num = n
	}
	return t, e
}

// head reads a term's kind, and the number behind it.
func (r *reader) head() (int, uint64, api.Errno) {
	if r.rest == "" {
		return 0, 0, api.ErrShort
	}
	kind := int(r.rest[0])
	if kind < api.Num || kind > api.Row {
		return 0, 0, api.ErrForm
	}
	n, size, e := GetNum(r.rest[1:])
	if e != api.OK {
		return 0, 0, e
	}
	r.rest = r.rest[1+size:]
	return kind, n, api.OK
}

func (r *reader) atom(n uint64) (string, api.Errno) {
	if n > api.MaxAtom {
		return "", api.ErrTerm
	}
	if uint64(len(r.rest)) < n {
		return "", api.ErrShort
	}
	s := r.rest[:n]
	r.rest = r.rest[n:]
	return s, api.OK
}

func (r *reader) terms(n uint64, about int) ([]api.Term, api.Errno) {
	// The list grows as terms are read: bytes may tell of far more than stand behind them.
	var l []api.Term
	for range n {
		t, e := r.term(about)
		if e != api.OK {
			return nil, e
		}
		l = append(l, t)
	}
	return l, api.OK
}
