package hive_test

import (
	"testing"

	"skep/api"
	"skep/codec"
	"skep/disk"
	"skep/hive"
)

// recordOf is how many bytes an event has in the journal, the nth of all.
func recordOf(e api.Event, nth int) int {
	return 8 + len(numbered(codec.PutEvent(e), nth))
}

// leaves takes a pair's disks' room but for so much; what is put there is no record, so that these disks can't be opened any more.
func (p *pair) leaves(room int) {
	p.t.Helper()
	for _, d := range p.d {
		if d.Append(0, make([]byte, api.MaxLog-room-d.Size(0))) != api.OK {
			p.t.Fatal(d.Size(0))
		}
		d.Sync(0)
	}
}

// paired is a pair over a new disk to which operations were done.
func paired(t *testing.T, c api.Conf, l ...api.Op) *pair {
	t.Helper()
	p, _, e := newPair(t, c, disk.New(), 0)
	if e != api.OK {
		t.Fatal(e)
	}
	for _, o := range l {
		if _, e := p.do(o); e != api.OK {
			t.Fatalf("%+v: error %d", o, e)
		}
	}
	return p
}

// isDead fails unless a hive is dead: it answers none and ErrDead, false, and nothing is turned any more.
func isDead(t *testing.T, h *hive.Hive, d *disk.Disk) {
	t.Helper()
	if !h.Dead() {
		t.Fatal("not dead")
	}
	s, now, size, pending := h.State(), h.Now(), d.Size(0), d.Pending(0)
	for kind := -1; kind < 13; kind++ {
		if l, e := h.Do(api.Op{Kind: kind, A: 5, B: 1}); e != api.ErrDead || len(l) != 0 {
			t.Fatalf("kind %d: error %d, %+v", kind, e, l)
		}
	}
	for i, r := range s.Robots {
		if h.Hear(teAck(i, s.Epoch, r.Num)) || h.Hear(teHalt(i, s.Epoch, r.At, r.Load)) {
			t.Fatal("it hears")
		}
	}
	same(t, h.State(), s)
	if !h.Dead() || h.Now() != now || d.Size(0) != size || d.Pending(0) != pending || d.Size(1) != 0 {
		t.Fatalf("now %d, size %d, %d pending", h.Now(), d.Size(0), d.Pending(0))
	}
}

// P21.2: each operation whose event there is no room for: none and ErrDead, and the hive is dead; with just enough room it is not.
func TestDeadByOperations(t *testing.T) {
	c := yard()
	stand := turned(firstOf(t, c), func(s *api.State) {
		s.Stacks[0].Bins, s.Ports[1].Bin = []int{7, 8}, 9
	})
	halted := turned(stand, func(s *api.State) {
		s.Held = true
		s.Robots[0].Stands, s.Robots[1].Stands = true, true
	})
	for _, x := range []struct {
		s api.State
		o api.Op
		e api.Event
	}{{stand, opOrder(5, -1), evOrder(5, 0)}, {stand, opDrain(1), evDrain(1)}, {stand, opStop(), evStop()}, {halted, opResume(), evResume()}} {
		for short := range 2 {
			p, _, e := newPair(t, c, written(t, codec.PutState(x.s), 0), 0)
			if e != api.OK {
				t.Fatal(e)
			}
			p.leaves(recordOf(x.e, 1) - short)
			was := p.h.State()
			l, e := p.do(x.o)
			if short == 0 {
				if e != api.OK || p.h.Dead() || p.d[0].Pending(0) != 0 {
					t.Fatalf("%+v: error %d", x.o, e)
				}
				continue
			}
			if e != api.ErrDead || len(l) != 0 {
				t.Fatalf("%+v: error %d, %+v", x.o, e, l)
			}
			same(t, p.h.State(), was)
			isDead(t, p.h, p.d[0])
		}
	}
}

// P21.2: what needs no room for an event does not make a hive dead: errors, ticks without work, a checkpoint, which makes room.
func TestNotDeadWithoutEvents(t *testing.T) {
	p := paired(t, yard(), opOrder(9, 0))
	p.leaves(0)
	p.do(opOrder(9, 0))
	p.do(opDrain(0))
	p.do(opResume())
	p.do(api.Op{Kind: 99})
	p.hear(teAck(0, 0, 1))
	if p.h.Dead() {
		t.Fatal("dead")
	}
	if _, e := p.do(opCheck()); e != api.OK {
		t.Fatal(e)
	}
	if l, e := p.do(opTick()); e != api.OK || len(l) != 1 {
		t.Fatalf("error %d, %+v", e, l)
	}
	p = paired(t, unmanned(), opStop())
	p.leaves(0)
	for range 30 {
		p.do(opTick())
	}
	if p.h.Dead() {
		t.Fatal("dead")
	}
}

// P21.2, P21.3: a tick in which the hive comes to be dead amid its work: it tells nothing, though go-aheads were given ahead of that; what was appended is certain, and nothing comes behind it, though there might be room.
func TestDeadAmidWork(t *testing.T) {
	c := yard()
	whole := paired(t, c, opOrder(9, 0), opOrder(5, 1))
	was := whole.h.State()
	if l, _ := whole.do(opTick()); len(l) != 2 {
		t.Fatalf("%+v", l)
	}
	_, l := events(t, c, whole.d[0])
	l = l[was.Seq:]
	if len(l) != 6 {
		t.Fatalf("%+v", l)
	}
	room := 0
	s := was
	for i, e := range l {
		need := recordOf(e, s.Seq+1)
		for _, left := range []int{0, need - 1} {
			p := paired(t, c, opOrder(9, 0), opOrder(5, 1))
			p.leaves(room + left)
			size := p.d[0].Size(0)
			told, e := p.do(opTick())
			if e != api.ErrDead || len(told) != 0 || p.h.Now() != 1 {
				t.Fatalf("event %d: error %d, %+v, now %d", i, e, told, p.h.Now())
			}
			same(t, p.h.State(), s)
			if p.d[0].Size(0) != size+room || p.d[0].Pending(0) != 0 {
				t.Fatalf("event %d: %d bytes, %d pending", i, p.d[0].Size(0)-size, p.d[0].Pending(0))
			}
			isDead(t, p.h, p.d[0])
		}
		room += need
		s = behindAll(t, c, s, e)
	}
	p := paired(t, c, opOrder(9, 0), opOrder(5, 1))
	p.leaves(room)
	if told, e := p.do(opTick()); e != api.OK || len(told) != 2 {
		t.Fatalf("error %d, %+v", e, told)
	}
}

// P21.4: a telegram whose event there is no room for: false, and the hive is dead.
func TestDeadByTelegrams(t *testing.T) {
	c := yard()
	for short := range 2 {
		p := paired(t, c, opOrder(9, 0), opTick())
		p.leaves(recordOf(evDone(0), p.h.State().Seq+1) - short)
		was := p.h.State()
		if p.hear(teAck(0, 0, 1)) == (short == 1) || p.h.Dead() != (short == 1) {
			t.Fatal(short, p.h.Dead())
		}
		if short == 1 {
			same(t, p.h.State(), was)
			isDead(t, p.h, p.d[0])
		}
		p = paired(t, c, opStop())
		p.leaves(recordOf(evHalt(1, 0, c.Robots[1]), 2) - short)
		if p.hear(teHalt(1, 1, c.Robots[1], 0)) == (short == 1) || p.h.Dead() != (short == 1) {
			t.Fatal(short, p.h.Dead())
		}
		if short == 1 {
			isDead(t, p.h, p.d[0])
		}
	}
}

// P21.2: in a call in which a hive comes to be dead what was heard ahead of it is made certain too.
func TestDeadBehindTelegrams(t *testing.T) {
	p := paired(t, yard(), opOrder(9, 0), opTick())
	p.leaves(recordOf(evDone(0), p.h.State().Seq+1))
	if !p.hear(teAck(0, 0, 1)) || p.d[0].Pending(0) == 0 {
		t.Fatal(p.d[0].Pending(0))
	}
	if _, e := p.do(opStop()); e != api.ErrDead || p.d[0].Pending(0) != 0 {
		t.Fatal(e, p.d[0].Pending(0))
	}
	isDead(t, p.h, p.d[0])
}

// P21.5: behind a dead hive its state is what the disk has: New tells it once there is room, and ErrFull as long as there is none.
func TestBehindDeath(t *testing.T) {
	c := yard()
	d := written(t, nil, 0, journal(evOrder(9, 0), evStop(), evHalt(0, 0, c.Robots[0]), evHalt(1, 0, c.Robots[1]), evResume())...)
	// Room for what New, both robots and the resume write, for a plan, and no more.
	stop, halts := recordOf(evStop(), 6), recordOf(evHalt(0, 0, c.Robots[0]), 7)+recordOf(evHalt(1, 0, c.Robots[1]), 8)
	fill(t, d, stop+halts+recordOf(evResume(), 9)+recordOf(evBegin(1), 10)+3)
	h := stopped(t, c, d, 0, 2)
	hears(t, h, teHalt(0, 2, c.Robots[0], 0), teHalt(1, 2, c.Robots[1], 0))
	all(t, h, opResume())
	if l, e := h.Do(opTick()); e != api.ErrDead || len(l) != 0 {
		t.Fatalf("error %d, %+v", e, l)
	}
	s := h.State()
	if s.Seq != 10 || len(s.Jobs) != 1 {
		t.Fatalf("%+v", s)
	}
	first, l := events(t, c, d.Crash(0, 0))
	same(t, behindAll(t, c, first, l...), s)
	fails(t, c, d.Crash(0, 0), 0, api.ErrFull)
}
