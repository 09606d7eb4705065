package hive_test

import (
	"slices"
	"testing"

	"skep/api"
	"skep/book"
	"skep/codec"
	"skep/disk"
	"skep/grid"
	"skep/hive"
	"skep/plan"
	"skep/state"
	"skep/store"
)

// waiting is what was sent to a robot and was not answered yet, and when it was sent last.
type waiting struct {
	tele api.Tele
	at   int
	open bool
}

// words is the chapter's words done plainly, over a disk of its own.
type words struct {
	c     api.Conf
	store *store.Store
	s     api.State
	waits []waiting
	now   int
	dead  bool
}

// newWords is P21.1.
func newWords(c api.Conf, d *disk.Disk, now int) (*words, []api.Tele, api.Errno) {
	if !grid.May(c) {
		return nil, nil, api.ErrConf
	}
	if now < 0 || now > 1<<40 {
		return nil, nil, api.ErrArg
	}
	st, snap, entries, f := store.Open(d)
	if f != api.OK {
		return nil, nil, f
	}
	w := &words{c: c, store: st, now: now, waits: make([]waiting, len(c.Robots))}
	w.s, _ = state.First(c)
	if len(snap) >= 1 {
		if w.s, f = codec.GetState(snap); f != api.OK || !state.Check(c, w.s) {
			return nil, nil, api.ErrBytes
		}
	}
	if w.s.Seq != st.From() {
		return nil, nil, api.ErrBytes
	}
	for _, b := range entries {
		e, f := codec.GetEvent(b)
		if f != api.OK {
			return nil, nil, api.ErrBytes
		}
		if w.s, f = state.Apply(c, w.s, e); f != api.OK {
			return nil, nil, api.ErrBytes
		}
	}
	if st.Last() == 0 {
		return w, nil, api.OK
	}
	if w.event(evStop()) != api.OK {
		return nil, nil, api.ErrFull
	}
	st.Sync()
	return w, w.sendStops(), api.OK
}

// event has an event happen, or tells why it does not.
func (w *words) event(e api.Event) api.Errno {
	if w.dead {
		return api.ErrDead
	}
	next, f := state.Apply(w.c, w.s, e)
	if f != api.OK {
		return f
	}
	if w.store.Append(next.Seq, codec.PutEvent(e)) != api.OK {
		w.dead = true
		return api.ErrDead
	}
	w.s = next
	return api.OK
}

// send sends to a robot.
func (w *words) send(t api.Tele) api.Tele {
	w.waits[t.Robot] = waiting{t, w.now, true}
	return t
}

// sendStops tells each robot to stop.
func (w *words) sendStops() []api.Tele {
	var out []api.Tele
	for i := range w.c.Robots {
		out = append(out, w.send(teStop(i, w.s.Epoch)))
	}
	return out
}

// do is P21.2.
func (w *words) do(o api.Op) ([]api.Tele, api.Errno) {
	if w.dead {
		return nil, api.ErrDead
	}
	seq := w.s.Seq
	l, e := w.kind(o)
	if w.dead {
		l, e = nil, api.ErrDead
	}
	if w.dead || w.s.Seq > seq {
		w.store.Sync()
	}
	return l, e
}

// kind is what is done of each kind.
func (w *words) kind(o api.Op) ([]api.Tele, api.Errno) {
	switch o.Kind {
	case api.OpTick:
		return w.tick(), api.OK
	case api.OpOrder:
		port, e := book.Admit(w.c, w.s, o.A, o.B)
		if e == api.OK {
			e = w.event(evOrder(o.A, port))
		}
		return nil, e
	case api.OpDrain:
		_, e := book.Drain(w.c, w.s, o.A)
		if e == api.OK {
			e = w.event(evDrain(o.A))
		}
		return nil, e
	case api.OpStop:
		if e := w.event(evStop()); e != api.OK {
			return nil, e
		}
		clear(w.waits)
		return w.sendStops(), api.OK
	case api.OpResume:
		return nil, w.event(evResume())
	case api.OpCheck:
		return nil, w.store.Check(codec.PutState(w.s))
	}
	return nil, api.ErrOp
}

// tick is OpTick.
func (w *words) tick() []api.Tele {
	if w.now < 1<<40 {
		w.now++
	}
	var out []api.Tele
	if !w.s.Held {
		out = w.work()
	}
	for i, x := range w.waits {
		if x.open && w.now-x.at >= w.c.Resend {
			w.waits[i].at = w.now
			out = append(out, x.tele)
		}
	}
	return out
}

// work is P21.3.
func (w *words) work() []api.Tele {
	for id, _, ok := book.Next(w.c, w.s); ok; id, _, ok = book.Next(w.c, w.s) {
		if w.event(evBegin(id)) != api.OK {
			break
		}
	}
	for i := range w.c.Robots {
		if len(w.s.Robots[i].Moves) == 0 && !w.dead {
			w.plan(i)
		}
	}
	var out []api.Tele
	for i := range w.c.Robots {
		r := w.s.Robots[i]
		if len(r.Moves) > 0 && !r.Out && r.Moves[0].At <= w.now && state.Turn(w.c, w.s, i) && w.event(evGo(i)) == api.OK {
			out = append(out, w.send(teGo(i, w.s.Epoch, w.s.Robots[i].Num, r.Moves[0])))
		}
	}
	return out
}

// plan is the chapter's 'To plan'.
func (w *words) plan(i int) {
	r := w.s.Robots[i]
	if r.Job != 0 {
		at := slices.IndexFunc(w.s.Jobs, func(j api.Job) bool { return j.ID == r.Job })
		j := w.s.Jobs[at]
		if r.Load != 0 {
			w.round(i, 0, plan.Stop{At: j.To, Kind: api.Drop})
		} else {
			w.round(i, 0, plan.Stop{At: j.From, Kind: api.Lift}, plan.Stop{At: j.To, Kind: api.Drop})
		}
		return
	}
	for _, j := range slices.Collect(book.Ready(w.s)) {
		if w.round(i, j.ID, plan.Stop{At: j.From, Kind: api.Lift}, plan.Stop{At: j.To, Kind: api.Drop}) {
			return
		}
	}
	if r.At != w.c.Robots[i] {
		w.round(i, 0)
	}
}

// round tells whether there is a round with these stops, which is the robot's then.
func (w *words) round(i, job int, stops ...plan.Stop) bool {
	t, _ := state.Table(w.c, w.s)
	moves, e := plan.Round(w.c, t, i, w.s.Robots[i].At, w.now, stops, w.c.Robots[i])
	if e == api.OK && len(moves) > 0 {
		w.event(evPlan(i, job, moves))
	}
	return e == api.OK
}

// hear is P21.4.
func (w *words) hear(t api.Tele) bool {
	if w.dead || t.Epoch != w.s.Epoch || t.Robot < 0 || t.Robot >= len(w.c.Robots) {
		return false
	}
	switch r := w.s.Robots[t.Robot]; t.Kind {
	case api.TeAck:
		if w.s.Held || !r.Out || t.Num != r.Num {
			return false
		}
		w.waits[t.Robot].open = false
		w.event(evDone(t.Robot))
		return !w.dead
	case api.TeHalt:
		if !w.s.Held || w.event(evHalt(t.Robot, t.Load, t.Pose)) != api.OK {
			return false
		}
		w.waits[t.Robot].open = false
		return true
	}
	return false
}

// pair is a hive and the words, each over a disk of its own, that must stay alike.
type pair struct {
	t *testing.T
	c api.Conf
	h *hive.Hive
	w *words
	d [2]*disk.Disk
}

// newPair is a hive and the words over disks that have the same; what both answer.
func newPair(t *testing.T, c api.Conf, d *disk.Disk, now int) (*pair, []api.Tele, api.Errno) {
	t.Helper()
	p := &pair{t: t, c: c, d: [2]*disk.Disk{d, d.Crash(0, 0)}}
	h, l, e := hive.New(c, p.d[0], now)
	w, want, f := newWords(c, p.d[1], now)
	if e != f || !slices.Equal(l, want) || (h == nil) != (w == nil) {
		t.Fatalf("New: error %d, %+v; want error %d, %+v", e, l, f, want)
	}
	p.h, p.w = h, w
	if h != nil {
		p.same()
	}
	return p, l, e
}

// same fails unless both know the same, and have written the same.
func (p *pair) same() {
	p.t.Helper()
	same(p.t, p.h.State(), p.w.s)
	if p.h.Now() != p.w.now || p.h.Dead() != p.w.dead {
		p.t.Fatalf("now %d, dead %v; want %d, %v", p.h.Now(), p.h.Dead(), p.w.now, p.w.dead)
	}
	alike(p.t, p.d[0], p.d[1])
}

// do is what both answer.
func (p *pair) do(o api.Op) ([]api.Tele, api.Errno) {
	p.t.Helper()
	l, e := p.h.Do(o)
	want, f := p.w.do(o)
	if e != f || !slices.Equal(l, want) {
		p.t.Fatalf("%+v: error %d, %+v; want error %d, %+v", o, e, l, f, want)
	}
	p.same()
	return l, e
}

// hear is what both answer.
func (p *pair) hear(x api.Tele) bool {
	p.t.Helper()
	got, want := p.h.Hear(x), p.w.hear(x)
	if got != want {
		p.t.Fatalf("%+v: %v, want %v; in\n%+v", x, got, want, p.w.s)
	}
	p.same()
	return got
}
