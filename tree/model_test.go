package tree

import (
	"cmp"
	"slices"
	"testing"

	"lethe/api"
)

// twig is a tree by the chapter's words, with its kids in it. None is ever changed.
type twig struct {
	entries []api.Entry
	kids    []*twig
	ref     api.Ref
}

func (x *twig) size() int { return len(x.entries) + len(x.kids) }

func (x *twig) low() string {
	if len(x.kids) > 0 {
		return x.kids[0].low()
	}
	if len(x.entries) > 0 {
		return x.entries[0].Name
	}
	return ""
}

func (x *twig) node() api.Node {
	n := api.Node{Leaf: len(x.kids) == 0, Entries: x.entries}
	for _, k := range x.kids {
		n.Kids = append(n.Kids, api.Kid{Low: k.low(), Ref: k.ref})
	}
	return n
}

func (x *twig) levels() int {
	if len(x.kids) == 0 {
		return 1
	}
	return 1 + x.kids[0].levels()
}

func (x *twig) all(deep int) []api.Seen {
	l := []api.Seen{{Deep: deep, Ref: x.ref, Node: x.node()}}
	for _, k := range x.kids {
		l = append(l, k.all(deep+1)...)
	}
	return l
}

func (x *twig) secrets() []api.Entry {
	l := slices.Clone(x.entries)
	for _, k := range x.kids {
		l = append(l, k.secrets()...)
	}
	return l
}

func (x *twig) get(name string) (api.Entry, bool) {
	for _, e := range x.secrets() {
		if e.Name == name {
			return e, true
		}
	}
	return api.Entry{}, false
}

func (x *twig) belongs(name string) int {
	at := 0
	for i, k := range x.kids {
		if k.low() <= name {
			at = i
		}
	}
	return at
}

// part is a twig of some of another's parts.
func (x *twig) part(from, to int) *twig {
	if len(x.kids) > 0 {
		return &twig{kids: x.kids[from:to]}
	}
	return &twig{entries: x.entries[from:to]}
}

// model tells which pages a call lays down; it notes how often each case of it came up.
type model struct {
	pages int
	laid  []api.Node
	cases map[string]int
}

func (m *model) lay(l ...*twig) {
	for _, x := range l {
		x.ref = ref(m.pages + len(m.laid))
		m.laid = append(m.laid, x.node())
	}
}

func (m *model) note(what string, x *twig) {
	if len(x.kids) > 0 {
		what += ", inner"
	}
	m.cases[what]++
}

func (m *model) putRoot(x *twig, e api.Entry) *twig {
	came := m.put(x, e)
	m.lay(came...)
	if len(came) == 1 {
		return came[0]
	}
	root := &twig{kids: came}
	m.lay(root)
	m.note("a new root", root)
	return root
}

func (m *model) put(x *twig, e api.Entry) []*twig {
	y := &twig{}
	if len(x.kids) == 0 {
		y.entries = append(y.entries, e)
		for _, other := range x.entries {
			if other.Name != e.Name {
				y.entries = append(y.entries, other)
			}
		}
		slices.SortFunc(y.entries, func(a, b api.Entry) int { return cmp.Compare(a.Name, b.Name) })
	} else {
		at := x.belongs(e.Name)
		came := m.put(x.kids[at], e)
		m.lay(came...)
		y.kids = slices.Concat(x.kids[:at], came, x.kids[at+1:])
	}
	if y.size() < 5 {
		return []*twig{y}
	}
	m.note("split", y)
	return []*twig{y.part(0, 3), y.part(3, 5)}
}

func (m *model) dropRoot(x *twig, name string) *twig {
	y := m.drop(x, name)
	if len(y.kids) == 1 {
		m.note("a root goes", y)
		return y.kids[0]
	}
	m.lay(y)
	return y
}

func (m *model) drop(x *twig, name string) *twig {
	if len(x.kids) == 0 {
		return &twig{entries: slices.DeleteFunc(slices.Clone(x.entries), func(e api.Entry) bool { return e.Name == name })}
	}
	at := x.belongs(name)
	child := m.drop(x.kids[at], name)
	if child.size() >= 2 {
		m.lay(child)
		return &twig{kids: slices.Concat(x.kids[:at], []*twig{child}, x.kids[at+1:])}
	}
	first, pair := at, []*twig{child}
	if at+1 < len(x.kids) {
		pair = append(pair, x.kids[at+1])
		m.note("the right one", child)
	} else {
		first, pair = at-1, append([]*twig{x.kids[at-1]}, child)
		m.note("the left one", child)
	}
	both := &twig{entries: slices.Concat(pair[0].entries, pair[1].entries), kids: slices.Concat(pair[0].kids, pair[1].kids)}
	came := []*twig{both}
	switch both.size() {
	case 3:
		m.note("three", both)
	case 4:
		m.note("four", both)
		came = []*twig{both.part(0, 2), both.part(2, 4)}
	case 5:
		m.note("five", both)
		came = []*twig{both.part(0, 3), both.part(3, 5)}
	}
	m.lay(came...)
	return &twig{kids: slices.Concat(x.kids[:first], came, x.kids[first+2:])}
}

func (m *model) move(x *twig, segs []int) *twig {
	y := &twig{entries: x.entries}
	anew := slices.Contains(segs, x.ref.Seg)
	for _, k := range x.kids {
		moved := m.move(k, segs)
		anew = anew || moved != k
		y.kids = append(y.kids, moved)
	}
	if !anew {
		return x
	}
	m.lay(y)
	return y
}

// kept are a heap's pages that are kept, and handed out, as they are: what is changed in them shows.
type kept struct {
	pages []api.Node
}

func (k *kept) Read(r api.Ref) (api.Node, api.Errno) {
	if r.Key == 0 || r.Key > uint64(len(k.pages)) || r != ref(int(r.Key)-1) {
		return api.Node{}, api.ErrPage
	}
	return k.pages[r.Key-1], api.OK
}

func (k *kept) Write(n api.Node) (api.Ref, api.Errno) {
	k.pages = append(k.pages, n)
	return ref(len(k.pages) - 1), api.OK
}

func (k *kept) Len() int { return len(k.pages) }

// store is pages whose number is told.
type store interface {
	Pages
	Len() int
}

// walker plays calls on a tree and on its model, and holds them against each other.
type walker struct {
	store
	t     *testing.T
	cases map[string]int
	root  api.Ref
	x     *twig
	past  []*twig
	// names are those that are asked for: those that may be there, and others.
	names []string
}

func walk(t *testing.T, p store, names []string) *walker {
	w := &walker{store: p, t: t, cases: map[string]int{}, x: &twig{}, names: names}
	m := w.model()
	m.lay(w.x)
	r, err := Empty(p)
	if err != api.OK {
		t.Fatalf("Empty: %d", err)
	}
	w.came(m, r, w.x)
	return w
}

func (w *walker) model() *model { return &model{pages: w.Len(), cases: w.cases} }

// came looks whether a call laid down what its model did, in its order, and answered its root.
func (w *walker) came(m *model, root api.Ref, x *twig) {
	w.t.Helper()
	if root != x.ref || w.Len() != m.pages+len(m.laid) {
		w.t.Fatalf("the root %v, %d pages; want %v, %d", root, w.Len(), x.ref, m.pages+len(m.laid))
	}
	for i, want := range m.laid {
		if n, err := w.Read(ref(m.pages + i)); err != api.OK || !same(n, want) {
			w.t.Fatalf("page %d: %v, %d, want %v", m.pages+i, n, err, want)
		}
	}
	w.root, w.x, w.past = root, x, append(w.past, x)
	mayBe(w.t, w, root)
}

// put, drop and move play one call.
func (w *walker) put(e api.Entry) {
	w.t.Helper()
	m, levels := w.model(), w.x.levels()
	x := m.putRoot(w.x, e)
	r, err := Put(w, w.root, e)
	if err != api.OK {
		w.t.Fatalf("Put %v: %d", e, err)
	}
	w.came(m, r, x)
	if len(m.laid) > 2*levels+1 {
		w.t.Fatalf("Put laid %d pages down, of %d levels", len(m.laid), levels)
	}
	if len(m.laid) == 2*levels+1 {
		w.cases["as many pages as a Put may"]++
	}
}

func (w *walker) drop(name string) {
	w.t.Helper()
	m, levels := w.model(), w.x.levels()
	_, want := w.x.get(name)
	x := w.x
	if want {
		x = m.dropRoot(w.x, name)
	}
	r, there, err := Delete(w, w.root, name)
	if err != api.OK || there != want {
		w.t.Fatalf("Delete %q: %v, %d, want %v", name, there, err, want)
	}
	w.came(m, r, x)
	if len(m.laid) > 2*levels {
		w.t.Fatalf("Delete laid %d pages down, of %d levels", len(m.laid), levels)
	}
}

func (w *walker) move(segs ...int) {
	w.t.Helper()
	m := w.model()
	x := m.move(w.x, segs)
	r, n, err := Move(w, w.root, segs...)
	if err != api.OK || n != len(m.laid) {
		w.t.Fatalf("Move %v: %d, %d, want %d", segs, n, err, len(m.laid))
	}
	before := w.x.secrets()
	w.came(m, r, x)
	if !slices.EqualFunc(before, x.secrets(), sameEntry) {
		w.t.Fatalf("Move %v changed the secrets", segs)
	}
	for _, s := range x.all(1) {
		if slices.Contains(segs, s.Ref.Seg) && s.Ref.Key <= uint64(m.pages) {
			w.t.Fatalf("%v lies in one of %v yet", s.Ref, segs)
		}
	}
}

// look asks for all names, and for all pages; what it was answered it writes over.
func (w *walker) look() {
	w.t.Helper()
	for _, name := range w.names {
		want, is := w.x.get(name)
		e, there, err := Get(w, w.root, name)
		if err != api.OK || there != is || !sameEntry(e, want) {
			w.t.Fatalf("Get %q: %v, %v, %d, want %v", name, e, there, err, want)
		}
		clear(e.Versions[:cap(e.Versions)])
	}
	w.leads(w.x)
}

// leads looks whether a root leads to what it led to when it was new.
func (w *walker) leads(x *twig) {
	w.t.Helper()
	seen, err := All(w, x.ref)
	if err != api.OK || !slices.EqualFunc(seen, x.all(1), sameSeen) {
		w.t.Fatalf("All of %v: %v, %d, want %v", x.ref, seen, err, x.all(1))
	}
	for _, s := range seen {
		spoil(s.Node)
	}
}

// end looks whether all roots of before lead to what they led to.
func (w *walker) end() {
	w.t.Helper()
	for _, x := range w.past {
		w.leads(x)
	}
}
