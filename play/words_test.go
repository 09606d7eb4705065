package play_test

import (
	"slices"
	"testing"

	"skep/api"
	"skep/disk"
	"skep/hive"
	"skep/play"
	"skep/world"
)

// words is the chapter's words done plainly, over parts of its own; the radio is a list.
type words struct {
	c     api.Conf
	world *world.World
	under []api.Tele
	disk  *disk.Disk
	hive  *hive.Hive
	last  api.State
	told  []api.Tele
}

// newWords is P22.1.
func newWords(c api.Conf) (*words, api.Errno) {
	w, e := world.New(c)
	if e != api.OK {
		return nil, e
	}
	m := &words{c: c, world: w, disk: disk.New()}
	m.hive, _, _ = hive.New(c, m.disk, 0)
	return m, api.OK
}

// send puts what there is room for under way.
func (m *words) send(l []api.Tele) {
	for _, x := range l {
		if len(m.under) < 1024 {
			m.under = append(m.under, x)
		}
	}
}

// take is the telegram at a place, which is under way no more, unless it stays.
func (m *words) take(i int, stays bool) (api.Tele, bool) {
	n := len(m.under)
	if n == 0 {
		return api.Tele{}, false
	}
	if i %= n; i < 0 {
		i += n
	}
	x := m.under[i]
	if !stays {
		m.under = slices.Concat(m.under[:i], m.under[i+1:])
	}
	return x, true
}

// do is P22.2.
func (m *words) do(o api.Op) api.Errno {
	if o.Kind == api.OpHear {
		if o.B < 0 || o.B > 1 {
			return api.ErrArg
		}
		x, ok := m.take(o.A, o.B == 1)
		if !ok {
			return api.ErrNone
		}
		if x.Kind == api.TeGo || x.Kind == api.TeStop {
			m.send(m.world.Hear(x))
		} else if m.hive != nil {
			m.hive.Hear(x)
		}
		return api.OK
	}
	if o.Kind == api.OpLose {
		if _, ok := m.take(o.A, false); !ok {
			return api.ErrNone
		}
		return api.OK
	}
	if o.Kind == api.OpDelay {
		return m.world.Delay(o.A, o.B)
	}
	if o.Kind == api.OpCrash {
		m.last = m.state()
		m.disk = m.disk.Crash(o.A, o.B)
		h, l, e := hive.New(m.c, m.disk, m.world.Now())
		m.hive = h
		m.told = append(m.told, l...)
		m.send(l)
		return e
	}
	if o.Kind == api.OpTick {
		m.send(m.world.Tick())
	}
	if m.hive == nil {
		return api.ErrDead
	}
	l, e := m.hive.Do(o)
	m.told = append(m.told, l...)
	m.send(l)
	return e
}

// state is the hive's, or the last that there was.
func (m *words) state() api.State {
	if m.hive == nil {
		return m.last
	}
	return m.hive.State()
}

// pair is a run and the words, that must stay alike.
type pair struct {
	t *testing.T
	c api.Conf
	r *play.Run
	m *words
}

// newPair is a run and the words at their beginning.
func newPair(t *testing.T, c api.Conf) *pair {
	t.Helper()
	m, e := newWords(c)
	if e != api.OK {
		t.Fatalf("the words refuse %+v: error %d", c, e)
	}
	p := &pair{t, c, made(t, c), m}
	p.same()
	return p
}

// same fails unless run and words are alike in all that can be told.
func (p *pair) same() {
	p.t.Helper()
	same(p.t, p.r.State(), p.m.state())
	if l := under(p.r.Radio()); !slices.Equal(l, p.m.under) || p.r.Radio().Len() != len(p.m.under) {
		p.t.Fatalf("under way are\n%+v\nwant\n%+v", l, p.m.under)
	}
	if l := p.r.Told(); !slices.Equal(l, p.m.told) {
		p.t.Fatalf("told are\n%+v\nwant\n%+v", l, p.m.told)
	}
	// A full disk is too long to be read behind each operation.
	if a, b := p.r.Disk(), p.m.disk; b.Size(0) < 1<<20 {
		alike(p.t, a, b)
	} else if a.Size(0) != b.Size(0) || a.Pending(0) != b.Pending(0) || a.Size(1) != b.Size(1) || a.Pending(1) != b.Pending(1) {
		p.t.Fatalf("%d and %d bytes, %d and %d pending", a.Size(0), b.Size(0), a.Pending(0), b.Pending(0))
	}
	p.sameWorld()
}

// sameWorld fails unless the same is there, and was seen.
func (p *pair) sameWorld() {
	p.t.Helper()
	got, want := p.r.World(), p.m.world
	if got.Now() != want.Now() || !slices.Equal(got.Sights(), want.Sights()) || !slices.Equal(got.Bins(), want.Bins()) {
		p.t.Fatalf("at %d\n%+v\nwant at %d\n%+v", got.Now(), got.Sights(), want.Now(), want.Sights())
	}
	for i := range p.c.Robots {
		a, b, _ := got.Robot(i)
		m, ok := got.Under(i)
		if x, y, _ := want.Robot(i); a != x || b != y {
			p.t.Fatalf("robot %d: %v, %d; want %v, %d", i, a, b, x, y)
		}
		if n, y := want.Under(i); m != n || ok != y {
			p.t.Fatalf("robot %d: %v, %v; want %v, %v", i, m, ok, n, y)
		}
	}
	for y := range p.c.H {
		for x := range p.c.W {
			if !slices.Equal(got.At(at(x, y)), want.At(at(x, y))) {
				p.t.Fatalf("at %d, %d: %v, want %v", x, y, got.At(at(x, y)), want.At(at(x, y)))
			}
		}
	}
}

// do is what both answer.
func (p *pair) do(o api.Op) api.Errno {
	p.t.Helper()
	got, want := p.r.Do(o), p.m.do(o)
	if got != want {
		p.t.Fatalf("%+v: error %d, want error %d", o, got, want)
	}
	p.same()
	return got
}

// all fails unless all operations are taken.
func (p *pair) all(l ...api.Op) {
	p.t.Helper()
	for i, o := range l {
		if e := p.do(o); e != api.OK {
			p.t.Fatalf("operation %d, %+v: error %d", i, o, e)
		}
	}
}
