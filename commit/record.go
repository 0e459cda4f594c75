package commit

import (
	"lethe/api"
	"lethe/node"
	"lethe/term"
)

const (
	maxNumber = 1<<31 - 1
	parts     = 7 // terms of a record's row
)

// Bytes writes a record; Parse reads one.
func Bytes(r api.Record) (string, api.Errno) {
	if !mayBe(r) {
		return "", api.ErrRecord
	}
	return term.Encode(termOf(r))
}

func Parse(s string) (api.Record, api.Errno) {
	t, err := term.Decode(s)
	if err != api.OK || len(t.List) != parts {
		return api.Record{}, api.ErrRecord
	}
	r := recordOf(t.List)
	// Of terms of other kinds, or of too great a number, a record is made too, but not one that has these bytes.
	own, err := Bytes(r)
	if err != api.OK || own != s {
		return api.Record{}, api.ErrRecord
	}
	return r, api.OK
}

func mayBe(r api.Record) bool {
	return within(r.Number, maxNumber) && node.RefRight(r.Root) && within(r.Open, api.MaxSeg) && within(r.Used, api.MaxOff)
}

func within(n, greatest int) bool { return 0 <= n && n <= greatest }

// termOf is the row of a record that may be; recordOf the record of a row's terms, of whatever kinds they are.
func termOf(r api.Record) api.Term {
	number := func(n int) api.Term { return term.Num(uint64(n)) }
	return term.Of(
		number(r.Number), term.Key(r.Root.Key),
		number(r.Root.Seg), number(r.Root.Off), number(r.Root.Len), number(r.Open), number(r.Used),
	)
}

func recordOf(l []api.Term) api.Record {
	number := func(at int) int { return int(l[at].Num) }
	root := api.Ref{Key: l[1].Num, Seg: number(2), Off: number(3), Len: number(4)}
	return api.Record{Number: number(0), Root: root, Open: number(5), Used: number(6)}
}
