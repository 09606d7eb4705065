package hive_test

import (
	"slices"
	"testing"

	"skep/api"
	"skep/codec"
	"skep/disk"
	"skep/hive"
	"skep/store"
)

// fails fails unless New answers just this error, and whether the disk is as it was.
func fails(t *testing.T, c api.Conf, d *disk.Disk, now int, want api.Errno) {
	t.Helper()
	was := d.Crash(0, 0)
	h, l, e := hive.New(c, d, now)
	if h != nil || len(l) != 0 || e != want {
		t.Fatalf("New: %v, %+v, error %d, want error %d", h, l, e, want)
	}
	if was.Size(0)+was.Size(1) > 0 {
		alike(t, d, was)
	}
}

// untouched fails unless nothing was done to a disk.
func untouched(t *testing.T, d *disk.Disk) {
	t.Helper()
	if d.Size(0)+d.Size(1)+d.Pending(0)+d.Pending(1) != 0 {
		t.Fatalf("the disk has %d, %d bytes", d.Size(0), d.Size(1))
	}
}

// P21.1: ErrConf, ahead of all others; the disk is not touched.
func TestNewRefusesConfs(t *testing.T) {
	for _, turn := range []func(c *api.Conf){
		func(c *api.Conf) { *c = api.Conf{} },
		func(c *api.Conf) { c.W = 17 },
		func(c *api.Conf) { c.Resend = 0 },
		func(c *api.Conf) { c.Budget = api.MaxBudget + 1 },
		func(c *api.Conf) { c.Robots = append(c.Robots, flat(1, 2)) },
		func(c *api.Conf) { c.Ports = append(c.Ports, at(9, 9)) },
		func(c *api.Conf) { c.Stacks = append(c.Stacks, pile(2, 0, 7)) },
	} {
		c := yard()
		turn(&c)
		for _, now := range []int{0, 5, -1, api.MaxTicks + 1} {
			d := disk.New()
			fails(t, c, d, now, api.ErrConf)
			untouched(t, d)
			fails(t, c, written(t, []byte{1, 2, 3}, 0), now, api.ErrConf)
		}
	}
}

// P21.1: ErrArg, ahead of ErrBytes; the ticks at both ends may be; the disk is not touched.
func TestNewRefusesTicks(t *testing.T) {
	for _, now := range append(ends(), -1, -2, api.MaxTicks+1, api.Forever) {
		if now >= 0 && now <= api.MaxTicks {
			continue
		}
		d := disk.New()
		fails(t, yard(), d, now, api.ErrArg)
		untouched(t, d)
		fails(t, yard(), written(t, []byte{1, 2, 3}, 0), now, api.ErrArg)
	}
	for _, now := range []int{0, 1, 77, api.MaxTicks - 1, api.MaxTicks} {
		made(t, yard(), disk.New(), now)
	}
}

// P21.1: the store's own ErrBytes: a number that is missing, a record without a number.
func TestNewRefusesStores(t *testing.T) {
	stop := codec.PutEvent(evStop())
	for i, records := range [][][]byte{
		{numbered(nil, 1, 0), numbered(stop, 2)},
		{numbered(nil, 1, 0), numbered(stop, 1), numbered(stop, 3)},
		{numbered(nil, 1, 0), {128}},
		{numbered(nil, 1, 0), numbered(stop, 1), {255, 255}},
	} {
		d := disk.New()
		puts(t, d, 0, records...)
		if _, _, _, e := store.Open(d.Crash(0, 0)); e != api.ErrBytes {
			t.Fatal(i, e)
		}
		fails(t, yard(), d, 0, api.ErrBytes)
	}
	// One that is there twice is passed over, as the store has it.
	d := disk.New()
	puts(t, d, 0, numbered(nil, 1, 0), numbered(stop, 1), numbered([]byte{9}, 1), numbered(stop, 2))
	h := stopped(t, yard(), d, 0, 3)
	same(t, h.State(), behindAll(t, yard(), firstOf(t, yard()), evStop(), evStop(), evStop()))
}

// P21.1: a snapshot that is no state's bytes, or the bytes of a state that Check does not allow.
func TestNewRefusesSnapshots(t *testing.T) {
	c := yard()
	fine := codec.PutState(firstOf(t, c))
	snaps := [][]byte{{0}, {1}, {1, 2, 3}, fine[:len(fine)-1], append(slices.Clone(fine), 0), codec.PutState(api.State{}), codec.PutState(firstOf(t, small()))}
	for _, turn := range []func(s *api.State){
		func(s *api.State) { s.Stacks[1].Bins = []int{7, 8} },
		func(s *api.State) { s.Stacks[1].Bins = []int{7, 8, 9, 6} },
		func(s *api.State) { s.Robots = s.Robots[:1] },
		func(s *api.State) { s.Robots[1].At = flat(0, 2) },
		func(s *api.State) { s.Robots[0].Out = true },
		func(s *api.State) { s.Robots[0].Stands = true },
		func(s *api.State) { s.NextOrder = 2 },
		func(s *api.State) { s.Epoch = most + 1 },
		func(s *api.State) { s.Epoch = -1 },
		func(s *api.State) { s.Seq = -1 },
	} {
		snaps = append(snaps, codec.PutState(turned(firstOf(t, c), turn)))
	}
	for _, snap := range snaps {
		fails(t, c, written(t, snap, 0), 0, api.ErrBytes)
		fails(t, c, written(t, snap, 0, journal(evStop())...), 0, api.ErrBytes)
		fails(t, c, written(t, snap, 1), 0, api.ErrBytes)
	}
	made(t, c, written(t, fine, 0), 0)
}

// P21.1: the store's From must be the snapshot's Seq, without a snapshot 0.
func TestNewRefusesOtherPlaces(t *testing.T) {
	c := yard()
	s := behindAll(t, c, firstOf(t, c), evOrder(9, 0), evOrder(5, 1), evBegin(1))
	for from := range 7 {
		for _, entries := range [][][]byte{nil, journal(evStop())} {
			if d := written(t, codec.PutState(s), from, entries...); from == 3 {
				stopped(t, c, d, 0, len(entries)+1)
			} else {
				fails(t, c, d, 0, api.ErrBytes)
			}
			if from != 0 {
				fails(t, c, written(t, nil, from, entries...), 0, api.ErrBytes)
				fails(t, c, written(t, codec.PutState(firstOf(t, c)), from, entries...), 0, api.ErrBytes)
			}
		}
	}
	fails(t, c, written(t, codec.PutState(s), 1<<60), 0, api.ErrBytes)
}

// P21.1: each entry must be an event's bytes, and one that Apply takes: the first, one in the middle, the last.
func TestNewRefusesEntries(t *testing.T) {
	c := yard()
	fine := journal(evOrder(9, 0), evOrder(5, 1), evBegin(1), evStop(), evHalt(0, 0, c.Robots[0]))
	stopped(t, c, written(t, nil, 0, fine...), 0, 2)
	wrong := append(journal(evGo(0), evBegin(7), evOrder(9, -1), evOrder(99, 0), api.Event{}, evDone(1), evResume(), evHalt(1, 0, flat(0, 0))), nil, []byte{9}, []byte{0})
	wrong = append(wrong, codec.PutEvent(evStop())[:3], append(codec.PutEvent(evStop()), 0), codec.PutState(firstOf(t, c)))
	for _, b := range wrong {
		for i := range len(fine) + 1 {
			fails(t, c, written(t, nil, 0, slices.Insert(slices.Clone(fine), i, b)...), 0, api.ErrBytes)
		}
	}
	// Behind a snapshot too, and one that could be taken elsewhere only.
	s := behindAll(t, c, firstOf(t, c), evOrder(9, 0))
	stopped(t, c, written(t, codec.PutState(s), 1, fine[1:]...), 0, 2)
	fails(t, c, written(t, codec.PutState(s), 1, fine...), 0, api.ErrBytes)
	fails(t, c, written(t, codec.PutState(s), 1, fine[4:]...), 0, api.ErrBytes)
}

// P21.1: a disk that never was at work: the first state, not held, no telegrams; nothing but the store's head is on it, and that is certain.
func TestNewDisk(t *testing.T) {
	for _, c := range []api.Conf{yard(), small(), halves(), unmanned(), bare(1, 1)} {
		for _, d := range []*disk.Disk{disk.New(), written(t, nil, 0)} {
			h := made(t, c, d, 7)
			same(t, h.State(), firstOf(t, c))
			alike(t, d, written(t, nil, 0))
			// Asked over and over it is the same: nothing was at work yet.
			made(t, c, d, 0)
			alike(t, d, written(t, nil, 0))
			// Nothing waits for an answer.
			for range 50 {
				does(t, h, opTick())
			}
		}
	}
}

// P21.1: a snapshot ahead of the first event (Last 0) is told as it is, whatever it says: no stop, no telegrams.
func TestNewBehindEarlySnapshots(t *testing.T) {
	c := yard()
	h, _ := within(t, c, firstOf(t, c), 3)
	does(t, h, opOrder(9, 0))
	// So it is behind a checkpoint of a hive that did nothing.
	d := disk.New()
	does(t, made(t, c, d, 0), opCheck())
	same(t, made(t, c, d.Crash(0, 0), 0).State(), firstOf(t, c))
	// Of one in an epoch, held, with orders and jobs.
	s := behindAll(t, c, firstOf(t, c), evOrder(9, 0), evOrder(5, 1), evBegin(1), evBegin(2), evStop(), evHalt(0, 0, c.Robots[0]))
	s.Seq = 0
	h, d = within(t, c, s, 3)
	if !h.State().Held || h.State().Epoch != 1 {
		t.Fatalf("%+v", h.State())
	}
	hears(t, h, teHalt(1, 1, c.Robots[1], 0))
	does(t, h, opResume())
	stopped(t, c, d, 0, 2)
}

// P21.1: a disk that was at work: its state with a stop on top, in a new epoch, certain; each robot is told, and told again behind Resend.
func TestNewBehindWork(t *testing.T) {
	for _, c := range []api.Conf{yard(), halves()} {
		l := []api.Event{evOrder(c.Stacks[0].Bins[0], 0), evStop(), evHalt(0, 0, c.Robots[0]), evHalt(1, 0, c.Robots[1]), evResume(), evBegin(1), evStop()}
		s, epoch := firstOf(t, c), 0
		for n := range l {
			s = behindAll(t, c, s, l[n])
			want := behindAll(t, c, s, evStop())
			epoch = want.Epoch
			snaps := []*disk.Disk{written(t, nil, 0, journal(l[:n+1]...)...), written(t, codec.PutState(s), n+1)}
			if n > 0 {
				half := behindAll(t, c, firstOf(t, c), l[:n]...)
				snaps = append(snaps, written(t, codec.PutState(half), n, journal(l[n])...))
			}
			for _, d := range snaps {
				h := stopped(t, c, d, 11, epoch)
				same(t, h.State(), want)
				if _, got := events(t, c, d); len(got) == 0 || !slices.EqualFunc(got[len(got)-1:], []api.Event{evStop()}, func(a, b api.Event) bool { return a.Kind == b.Kind }) {
					t.Fatalf("the journal: %+v", got)
				}
				// Sent at now: due Resend ticks later.
				for range c.Resend - 1 {
					does(t, h, opTick())
				}
				does(t, h, opTick(), stops(c, epoch)...)
				// And again: each time it is made anew an epoch begins.
				stopped(t, c, d, 2, epoch+1)
			}
		}
	}
	h := stopped(t, unmanned(), written(t, nil, 0, journal(evOrder(4, 0))...), 0, 1)
	does(t, h, opResume())
}

// P21.1: a robot that was out for a move keeps that one, whoever was not has none any more.
func TestNewBehindGoAheads(t *testing.T) {
	c := yard()
	d := disk.New()
	h := made(t, c, d, 0)
	does(t, h, opOrder(9, 0))
	does(t, h, opOrder(5, 1))
	l, _ := h.Do(opTick())
	if len(l) != 2 {
		t.Fatalf("%+v", l)
	}
	hears(t, h, teAck(1, 0, 1))
	was := h.State()
	x := stopped(t, c, allOf(d), 0, 1)
	s := x.State()
	same(t, s, behindAll(t, c, was, evStop()))
	if !s.Robots[0].Out || !slices.Equal(s.Robots[0].Moves, was.Robots[0].Moves[:1]) || s.Robots[1].Out || len(s.Robots[1].Moves) != 0 || s.Robots[1].At != was.Robots[1].At {
		t.Fatalf("%+v", s.Robots)
	}
	// What was not certain is lost: robot 1 is out again.
	x = stopped(t, c, d.Crash(0, 0), 0, 1)
	if s := x.State(); !s.Robots[1].Out || s.Seq != was.Seq {
		t.Fatalf("%+v", s.Robots)
	}
}

// P21.1: ErrFull, where the stop can't be: Seq or Epoch at its end.
func TestNewAtTheEndOfNumbers(t *testing.T) {
	c := yard()
	for _, x := range []struct{ seq, epoch, entries int }{{most, 0, 0}, {most, most, 0}, {1, most, 0}, {most - 1, 0, 1}, {4, most - 1, 1}} {
		s := firstOf(t, c)
		s.Seq, s.Epoch = x.seq, x.epoch
		l := []api.Event{evStop()}[:x.entries]
		fails(t, c, written(t, codec.PutState(s), x.seq, journal(l...)...), 0, api.ErrFull)
	}
	s := firstOf(t, c)
	s.Seq, s.Epoch = most-1, most-1
	h := stopped(t, c, written(t, codec.PutState(s), most-1), 0, most)
	if h.State().Seq != most {
		t.Fatal(h.State().Seq)
	}
	// An entry that would lead beyond is none that Apply takes.
	s.Seq = most
	fails(t, c, written(t, codec.PutState(s), most, journal(evStop())...), 0, api.ErrBytes)
}

// P21.1: ErrFull, where the disk has no room for the stop; with just that much room it is taken.
func TestNewOnFullDisk(t *testing.T) {
	c := yard()
	need := 8 + len(numbered(codec.PutEvent(evStop()), 2))
	d := written(t, nil, 0, journal(evOrder(9, 0))...)
	fill(t, d, need)
	h := stopped(t, c, d, 0, 1)
	same(t, h.State(), behindAll(t, c, firstOf(t, c), evOrder(9, 0), evStop()))
	fails(t, c, d, 0, api.ErrFull)
	d = written(t, nil, 0, journal(evOrder(9, 0))...)
	fill(t, d, need-1)
	fails(t, c, d, 0, api.ErrFull)
	// A full disk that was not at work is taken as it is.
	d = written(t, nil, 0)
	fill(t, d, 0)
	same(t, made(t, c, d, 0).State(), firstOf(t, c))
}
