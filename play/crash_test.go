package play_test

import (
	"math"
	"slices"
	"testing"

	"skep/api"
	"skep/codec"
	"skep/disk"
	"skep/hive"
	"skep/play"
	"skep/wal"
)

// P22.2: OpCrash ahead of the first event: the state is the first, not held, and nothing is told.
func TestCrashAheadOfAll(t *testing.T) {
	c := yard()
	for _, n := range append(ends(), 0, 1, 20) {
		r := made(t, c)
		does(t, r, opTick(), opTick(), opCrash(n, n))
		same(t, r.State(), firstOf(t, c))
		flies(t, r)
		if len(r.Told()) != 0 || r.World().Now() != 2 {
			t.Errorf("told is %+v, at %d", r.Told(), r.World().Now())
		}
	}
}

// P22.2: OpCrash behind an event: the hive is stopped in the next epoch; its stops go behind what is under way; the world goes on as it was.
func TestCrash(t *testing.T) {
	c := yard()
	r, first := begun(t, c, 9)
	does(t, r, opHear(0, 1), opTick())
	was, before := wholeOf(c, r), r.Disk()
	does(t, r, opCrash(0, 0))
	flies(t, r, append([]api.Tele{first}, stops(c, 1)...)...)
	if s := r.State(); !s.Held || s.Epoch != 1 || s.Seq != was.State.Seq+1 || len(s.Orders) != 1 {
		t.Errorf("%+v", s)
	}
	same(t, r.Told(), append([]api.Tele{first}, stops(c, 1)...))
	now := wholeOf(c, r)
	same(t, now.Sights, was.Sights)
	if now.Now != was.Now || !slices.Equal(now.Robots, was.Robots) {
		t.Errorf("%+v, was %+v", now, was)
	}
	if l := r.Disk().Read(0); before.Size(0) >= len(l) || r.Disk().Pending(0) != 0 {
		t.Errorf("%d bytes ahead, %d behind", before.Size(0), len(l))
	}
	does(t, r, opCrash(0, 0))
	if s := r.State(); s.Epoch != 2 || s.Seq != was.State.Seq+2 {
		t.Errorf("%+v", s)
	}
}

// P22.2: the new hive is at the world's time: what it plans begins no earlier.
func TestCrashTime(t *testing.T) {
	for _, n := range []int{0, 1, 77} {
		r := made(t, small())
		does(t, r, opOrder(7, 0))
		for range n {
			does(t, r, opTick())
		}
		does(t, r, opCrash(math.MaxInt, math.MaxInt))
		for r.Radio().Len() > 0 {
			does(t, r, opHear(0, 0))
		}
		for i := 0; r.State().Held && i < 500; i++ {
			if r.Do(opResume()) != api.OK {
				does(t, r, opTick())
			}
			for r.Radio().Len() > 0 {
				does(t, r, opHear(0, 0))
			}
		}
		told := len(r.Told())
		for len(r.Told()) == told {
			does(t, r, opTick())
		}
		if l := r.Told()[told:]; len(l) != 1 || l[0].Move.At != r.World().Now() || l[0].Epoch != 1 {
			t.Errorf("at %d: %+v", r.World().Now(), l)
		}
	}
}

// P22.2: OpCrash at each place of both files: what was heard since the last writing that was certain is there as far as its records are whole.
func TestCrashPlaces(t *testing.T) {
	c := yard()
	for _, checked := range []bool{false, true} {
		// Of the records of two events that were heard, each place; and of the file that does not count.
		script := []api.Op{opStop(), opHear(0, 0), opHear(0, 0), opHear(0, 0), opHear(0, 0)}
		if checked {
			script = slices.Insert(script, 1, opCheck())
		}
		file := 0
		r, _, _ := play.Play(c, script)
		if checked {
			file = 1
		}
		all := r.Disk().Pending(file)
		if all == 0 || r.Disk().Pending(1-file) != 0 || r.State().Seq != 3 {
			t.Fatalf("%d, %d pending", r.Disk().Pending(0), r.Disk().Pending(1))
		}
		seqs := map[int]int{}
		for _, n := range append([]int{math.MinInt, -1, all + 1, math.MaxInt}, rising(all+1)...) {
			for _, other := range []int{math.MinInt, 0, 3, math.MaxInt} {
				p := newPair(t, c)
				p.all(script...)
				o := opCrash(n, other)
				if file == 1 {
					o = opCrash(other, n)
				}
				p.all(o)
				s := p.r.State()
				seqs[s.Seq]++
				if whole := min(max(n, 0), all) * 2 / all; s.Seq != 2+whole || s.Robots[0].Stands || s.Epoch != 2 {
					t.Fatalf("at %d of %d: %+v", n, all, s)
				}
			}
		}
		if len(seqs) != 3 {
			t.Errorf("left were %v", seqs)
		}
	}
}

// rising is the numbers from 0 on.
func rising(n int) []int {
	var out []int
	for i := range n {
		out = append(out, i)
	}
	return out
}

// silent fails unless the hive is dead: all that is for it is ErrDead, its state stays the last, it tells nothing; radio and world go on.
func silent(t *testing.T, c api.Conf, r *play.Run) {
	t.Helper()
	for _, o := range []api.Op{opOrder(9, 0), opOrder(99, 0), opDrain(0), opStop(), opResume(), opCheck(), {}, {Kind: 11}, {Kind: -1}} {
		refuses(t, c, r, o, api.ErrDead)
	}
	s, told, now, under := r.State(), r.Told(), r.World().Now(), under(r.Radio())
	if e := r.Do(opTick()); e != api.ErrDead || r.World().Now() != now+1 {
		t.Fatalf("error %d, at %d, was %d", e, r.World().Now(), now)
	}
	for i, x := range s.Robots {
		r.Radio().Send(teAck(i, s.Epoch, x.Num), teHalt(i, s.Epoch, x.At, x.Load))
	}
	n := r.Radio().Len()
	for range 2 * len(s.Robots) {
		does(t, r, opHear(-1, 0))
	}
	if r.Radio().Len() != n-2*len(s.Robots) || n < len(under) {
		t.Fatalf("%d under way, were %d", r.Radio().Len(), n)
	}
	same(t, r.State(), s)
	same(t, r.Told(), told)
}

// full takes all room of a run's disk, by what is no record.
func full(r *play.Run) {
	r.Disk().Append(0, make([]byte, api.MaxLog-r.Disk().Size(0)))
}

// P22.2: a hive that dies of a full disk: its state stays the last that it had; radio and robots go on; a crash that makes room makes a new one.
func TestDeadHive(t *testing.T) {
	c := small()
	r, first := begun(t, c, 7)
	full(r)
	was := r.State()
	if e := r.Do(opStop()); e != api.ErrDead {
		t.Fatalf("error %d", e)
	}
	same(t, r.State(), was)
	flies(t, r, first)
	silent(t, c, r)
	does(t, r, opHear(0, 0), opDelay(0, 2))
	for range first.Move.End - first.Move.At + 2 {
		if e := r.Do(opTick()); e != api.ErrDead {
			t.Fatalf("error %d", e)
		}
	}
	flies(t, r, teAck(0, 0, 1))
	if l := seen(r, 0); len(l) != 2 || l[1].Kind != api.SeEnd {
		t.Fatalf("%+v", l)
	}
	does(t, r, opHear(0, 1), opLose(0))
	same(t, r.State(), was)
	silent(t, c, r)
	// What is no record is cut off by the new one.
	does(t, r, opCrash(math.MaxInt, 0))
	if s := r.State(); s.Seq != was.Seq+1 || !s.Held {
		t.Fatalf("%+v", s)
	}
	flies(t, r, teStop(0, 1))
	does(t, r, opHear(0, 0), opHear(0, 0), opResume(), opTick())
	if s := r.State(); s.Robots[0].At != first.Move.To || s.Held {
		t.Fatalf("%+v", s.Robots)
	}
}

// P22.2: a hive that dies as it hears: the telegram is gone, the answer is OK.
func TestDeadByHearing(t *testing.T) {
	c := small()
	r := made(t, c)
	does(t, r, opStop(), opHear(0, 0))
	full(r)
	was := r.State()
	does(t, r, opHear(0, 0))
	flies(t, r)
	same(t, r.State(), was)
	silent(t, c, r)
}

// P22.2: a crash where there is no room for the stop: New's ErrFull, and the hive is dead, its state the last that it had; with room it is made anew.
func TestCrashOnFullDisk(t *testing.T) {
	c := small()
	r, first := begun(t, c, 7)
	does(t, r, opHear(0, 1))
	was, size := r.State(), r.Disk().Size(0)
	fill(t, r.Disk())
	for i := range 3 {
		before := r.Disk()
		if e := r.Do(opCrash(0, 0)); e != api.ErrFull || r.Disk() == before {
			t.Fatalf("error %d", e)
		}
		flies(t, r, first)
		same(t, r.State(), was)
		same(t, r.Told(), []api.Tele{first})
		if i == 0 {
			does(t, r, opHear(0, 1))
		}
	}
	r.Disk().Cut(0, size)
	// As the hive is dead nobody sees that there is room: it must be made anew.
	silent(t, c, r)
	l := under(r.Radio())
	does(t, r, opCrash(math.MaxInt, 0))
	flies(t, r, append(l, teStop(0, 1))...)
	if s := r.State(); s.Seq != was.Seq+1 || s.Epoch != 1 || !s.Held {
		t.Fatalf("%+v", s)
	}
	does(t, r, opTick())
}

// P22.2: a dead hive does not hear, also not what the last one would have heard, whose disk had room.
func TestDeadDoesNotHear(t *testing.T) {
	r, first := begun(t, small(), 7)
	does(t, r, opHear(0, 0))
	for range first.Move.End - first.Move.At {
		does(t, r, opTick())
	}
	flies(t, r, teAck(0, 0, 1))
	l, _, _ := wal.Open(r.Disk(), 0)
	l.Append(codec.PutNumber(nil, 99))
	was := r.State()
	if e := r.Do(opCrash(math.MaxInt, 0)); e != api.ErrBytes {
		t.Fatalf("error %d", e)
	}
	does(t, r, opHear(0, 1), opHear(0, 0))
	flies(t, r)
	same(t, r.State(), was)
}

// fill takes all room of a disk's file 0, by records that the store passes over, and makes them certain.
func fill(t *testing.T, d *disk.Disk) {
	t.Helper()
	l, _, e := wal.Open(d, 0)
	for e == api.OK && d.Size(0) < api.MaxLog-8 {
		left := api.MaxLog - d.Size(0)
		n := min(left-8, api.MaxRecord)
		// No record is shorter than 9 bytes.
		if rest := left - 8 - n; rest > 0 && rest < 9 {
			n -= 9
		}
		e = l.Append(make([]byte, n))
	}
	if e != api.OK {
		t.Fatal(e)
	}
	l.Sync()
}

// P22.2: a crash over bytes that are not a hive's: New's ErrBytes, and the hive is dead; a state that it came to by what was not certain is still the last that it had.
func TestCrashOnWrongBytes(t *testing.T) {
	c := small()
	r := made(t, c)
	does(t, r, opStop(), opHear(0, 0), opHear(0, 0))
	was := r.State()
	if was.Seq != 2 || !was.Robots[0].Stands {
		t.Fatalf("%+v", was)
	}
	d := r.Disk()
	l, _, _ := wal.Open(d, 0)
	l.Append(codec.PutNumber(nil, 9))
	if e := r.Do(opCrash(0, 0)); e != api.OK || r.State().Robots[0].Stands {
		t.Fatalf("error %d", e)
	}
	// What is pending now is the record alone.
	does(t, r, opHear(-1, 0), opHear(0, 0))
	was = r.State()
	if !was.Robots[0].Stands {
		t.Fatalf("%+v", was)
	}
	l, _, _ = wal.Open(r.Disk(), 0)
	l.Append(codec.PutNumber(nil, 99))
	if e := r.Do(opCrash(math.MaxInt, math.MaxInt)); e != api.ErrBytes {
		t.Fatalf("error %d", e)
	}
	same(t, r.State(), was)
	silent(t, c, r)
	if e := r.Do(opCrash(0, 0)); e != api.ErrBytes {
		t.Fatalf("error %d", e)
	}
	same(t, r.State(), was)
}

// P22.2: it is the world that says what time it is, also where its ticks were not the run's.
func TestCrashAsksTheWorld(t *testing.T) {
	r := made(t, small())
	does(t, r, opOrder(7, 0))
	for range 30 {
		r.World().Tick()
	}
	does(t, r, opCrash(0, 0), opHear(0, 0), opHear(0, 0), opResume(), opTick())
	if l := under(r.Radio()); len(l) != 1 || l[0].Move.At != 31 || r.World().Now() != 31 {
		t.Errorf("at %d: %+v", r.World().Now(), l)
	}
}

// P22.2: over scripts on disks that are full at times, by records or by what is none, each call answers what the words say.
func TestDeadScripts(t *testing.T) {
	var luck chance = 8
	count := map[api.Errno]int{}
	for n := range 8 {
		c := drawConf(&luck)
		p := newPair(t, c)
		for i := range 200 {
			switch {
			case i == 60 && n%4 == 0:
				fill(t, p.r.Disk())
				fill(t, p.m.disk)
			case i == 60:
				full(p.r)
				p.m.disk.Append(0, make([]byte, api.MaxLog-p.m.disk.Size(0)))
			case i == 130:
				size := 20 + luck.below(60)
				p.r.Disk().Cut(0, size)
				p.m.disk.Cut(0, size)
			case i%30 == 15 && luck.below(2) == 0, i == 61, i == 131:
				count[p.do(drawCrash(&luck, p.r))]++
			}
			count[p.do(drawOp(&luck, c, p.r))]++
		}
	}
	for e, least := range map[api.Errno]int{api.OK: 600, api.ErrDead: 100, api.ErrFull: 4} {
		if count[e] < least {
			t.Errorf("error %d: %d times, of %v", e, count[e], count)
		}
	}
	t.Log(count)
}

// P22.2: what OpCrash answers is what hive's New answers over what the disk's Crash tells.
func TestCrashIsNew(t *testing.T) {
	var luck chance = 9
	for range 60 {
		c := drawConf(&luck)
		r := made(t, c)
		for range 80 {
			o := drawOp(&luck, c, r)
			if o.Kind != api.OpCrash && luck.below(12) == 0 {
				o = drawCrash(&luck, r)
			}
			if o.Kind != api.OpCrash {
				r.Do(o)
				continue
			}
			d, told := r.Disk().Crash(o.A, o.B), len(r.Told())
			h, l, want := hive.New(c, d, r.World().Now())
			if e := r.Do(o); e != want {
				t.Fatalf("%+v: error %d, want %d", o, e, want)
			}
			same(t, r.State(), h.State())
			same(t, r.Told()[told:], l)
			alike(t, r.Disk(), d)
		}
	}
}
