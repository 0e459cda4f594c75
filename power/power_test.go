package power

import (
	"math"
	"testing"

	"lethe/api"
)

// The chapter's examples, one row behind the other.
func TestExamples(t *testing.T) {
	p := New()
	tells(t, p, told{true, -1, 0})
	spends(t, p, 1, api.OK)

	p.Cut(2)
	tells(t, p, told{true, 2, 1})
	spends(t, p, 1, api.OK)
	tells(t, p, told{true, 1, 2})
	spends(t, p, 1, api.OK)
	tells(t, p, told{false, 0, 3})
	spends(t, p, 1, api.ErrPower)
	tells(t, p, told{false, 0, 3})

	p.Cut(5)
	tells(t, p, told{false, 0, 3})
	p.Restore()
	tells(t, p, told{true, -1, 3})
	spends(t, p, 1, api.OK)

	p.Cut(0)
	tells(t, p, told{false, 0, 4})
	p.Restore()
	p.Cut(3)
	p.Cut(-1)
	tells(t, p, told{true, -1, 4})
}

// 'Errors': the number of the one that there is.
func TestErrPower(t *testing.T) {
	p := New()
	p.Cut(0)
	if e := p.Spend(); e != 110 {
		t.Errorf("Spend of a power that is off: %d", e)
	}
}

// P11.1: on, without a cut, nothing done; and it stays on, however much is written.
func TestNew(t *testing.T) {
	p := New()
	tells(t, p, told{true, -1, 0})
	for i := range 100000 {
		spends(t, p, 1, api.OK)
		tells(t, p, told{true, -1, i + 1})
	}
}

// P11.1, R6: a power hangs on no other one.
func TestPowersStandByThemselves(t *testing.T) {
	a, b := New(), New()
	a.Spend()
	a.Cut(4)
	tells(t, b, told{true, -1, 0})
	b.Cut(0)
	tells(t, a, told{true, 4, 1})
	a.Restore()
	tells(t, b, told{false, 0, 0})
	tells(t, New(), told{true, -1, 0})
}

// P11.2, P11.4: a cut takes the place of what was ahead, whatever that was, and whatever number it has.
func TestCutOfAPowerThatIsOn(t *testing.T) {
	for name, past := range pasts() {
		for _, x := range []struct{ n, left int }{
			{math.MinInt, -1}, {-1 << 32, -1}, {-api.MaxCut, -1}, {-2, -1}, {-1, -1},
			{0, 0},
			{1, 1}, {2, 2}, {1000, 1000}, {api.MaxCut - 1, api.MaxCut - 1}, {api.MaxCut, api.MaxCut},
			{api.MaxCut + 1, api.MaxCut}, {1 << 31, api.MaxCut}, {1 << 32, api.MaxCut}, {1<<32 + 1, api.MaxCut}, {math.MaxInt, api.MaxCut},
		} {
			t.Run(name, func(t *testing.T) {
				p := past()
				writes := p.Writes()
				p.Cut(x.n)
				tells(t, p, told{x.left != 0, x.left, writes})
			})
		}
	}
}

// P11.2: of a power that is off Cut does nothing, of any number, however it went off; Restore alone has it be on.
func TestCutOfAPowerThatIsOff(t *testing.T) {
	for name, off := range map[string]func(p *Power){
		"at once":     func(p *Power) { p.Cut(0) },
		"by a write":  func(p *Power) { p.Cut(1); p.Spend() },
		"a cut ahead": func(p *Power) { p.Cut(7); p.Cut(0) },
	} {
		t.Run(name, func(t *testing.T) {
			p := New()
			off(p)
			writes := p.Writes()
			for _, n := range []int{-1, 0, 1, 5, api.MaxCut, api.MaxCut + 1, math.MinInt, math.MaxInt} {
				p.Cut(n)
				tells(t, p, told{false, 0, writes})
				spends(t, p, 3, api.ErrPower)
			}
			p.Restore()
			tells(t, p, told{true, -1, writes})
			spends(t, p, 100, api.OK)
		})
	}
}

// P11.2: Restore takes away a cut that is ahead, and leaves what was counted.
func TestRestoreOfAPowerThatIsOn(t *testing.T) {
	for name, past := range pasts() {
		t.Run(name, func(t *testing.T) {
			p := past()
			writes := p.Writes()
			p.Restore()
			tells(t, p, told{true, -1, writes})
			p.Restore()
			spends(t, p, 100, api.OK)
			tells(t, p, told{true, -1, writes + 100})
		})
	}
}

// P11.3, P11.5: just n raw writes are done behind Cut(n), the one that meets the cut among them, and none till Restore.
func TestJustSoManyWrites(t *testing.T) {
	for name, past := range pasts() {
		for n := range 100 {
			p := past()
			writes := p.Writes()
			p.Cut(n)
			for i := range n {
				tells(t, p, told{true, n - i, writes + i})
				spends(t, p, 1, api.OK)
			}
			spends(t, p, 2*n+5, api.ErrPower)
			tells(t, p, told{false, 0, writes + n})
			p.Restore()
			spends(t, p, 2*n+5, api.OK)
			if t.Failed() {
				t.Fatalf("%s, Cut(%d)", name, n)
			}
		}
	}
}

// P11.5: also of the farthest cut that may be, to which all that are farther come.
func TestTheFarthestCut(t *testing.T) {
	p := New()
	p.Cut(math.MaxInt)
	n := 0
	for n <= 1<<30 && p.Spend() == api.OK {
		n++
	}
	if n != 1<<30 {
		t.Errorf("%d raw writes were done", n)
	}
	tells(t, p, told{false, 0, 1 << 30})
	spends(t, p, 10, api.ErrPower)
}

// 'Ways': what is told to one device's power all others know that embed it.
func TestDevicesThatEmbedIt(t *testing.T) {
	type log struct{ *Power }
	type cell struct{ *Power }
	p := New()
	l, c := log{p}, cell{p}
	l.Cut(2)
	if c.Left() != 2 || c.Spend() != api.OK || l.Spend() != api.OK || c.Spend() != api.ErrPower || l.On() || c.On() || l.Writes() != 2 || c.Writes() != 2 {
		t.Errorf("log %+v, cell %+v", all(l.Power), all(c.Power))
	}
	c.Restore()
	tells(t, l.Power, told{true, -1, 2})
}
