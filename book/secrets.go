package book

import (
	"lethe/api"
	"lethe/entry"
)

// secrets stand under their names.
type secrets map[string]api.Entry

// play plays a call, if it may be.
func (s secrets) play(q api.Quota, o api.Op) api.Errno {
	if err := right(q, o); err != api.OK {
		return err
	}
	if o.Kind == api.OpDelete {
		return s.take(o.Name)
	}
	return s.renew(q, o)
}

// right judges what a call tells by itself, whatever secrets there are.
func right(q api.Quota, o api.Op) api.Errno {
	switch {
	case o.Kind != api.OpPut && o.Kind != api.OpOver && o.Kind != api.OpDelete:
		return api.ErrOp
	case o.Name == "":
		return api.ErrName
	case len(o.Name) > q.Name:
		return api.ErrTooBig
	case o.Kind != api.OpDelete && (len(o.Value) > q.Value || len(o.Note) > q.Note):
		return api.ErrTooBig
	}
	return api.OK
}

// take takes a secret out.
func (s secrets) take(name string) api.Errno {
	if _, is := s[name]; !is {
		return api.ErrNone
	}
	delete(s, name)
	return api.OK
}

// renew puts a version to a secret, or over it.
func (s secrets) renew(q api.Quota, o api.Op) api.Errno {
	e, is := s[o.Name]
	if !is && len(s) == q.Secrets {
		return api.ErrFull
	}
	put := entry.Put
	if o.Kind == api.OpOver {
		put = entry.Over
	}
	e.Name = o.Name
	e, _, err := put(q, e, o.Value, o.Note)
	if err != api.OK {
		return err
	}
	s[o.Name] = e
	return api.OK
}
