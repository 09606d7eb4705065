package play_test

import (
	"math"
	"slices"
	"testing"

	"skep/api"
	"skep/disk"
	"skep/hive"
	"skep/play"
)

// begun is a run of a config with one order, whose first go-ahead is under way, and that go-ahead.
func begun(t *testing.T, c api.Conf, bin int) (*play.Run, api.Tele) {
	t.Helper()
	r := made(t, c)
	does(t, r, opOrder(bin, 0), opTick())
	l := under(r.Radio())
	if len(l) != 1 || l[0].Kind != api.TeGo || l[0].Robot != 0 {
		t.Fatalf("under way are %+v", l)
	}
	return r, l[0]
}

// P22.2: OpTick: a tick of the world and one of the hive; what both tell is under way.
func TestTick(t *testing.T) {
	r, first := begun(t, small(), 7)
	if r.World().Now() != 1 || first.Move.At != 1 {
		t.Errorf("at %d: %+v", r.World().Now(), first)
	}
	does(t, r, opHear(0, 0))
	flies(t, r)
	n := first.Move.End - first.Move.At
	for range n - 1 {
		does(t, r, opTick())
		flies(t, r)
	}
	does(t, r, opTick())
	flies(t, r, teAck(0, 0, 1))
	if r.World().Now() != 1+n {
		t.Errorf("at %d", r.World().Now())
	}
	if l := seen(r, 0); len(l) != 2 || l[0].Kind != api.SeStart || l[1].Kind != api.SeEnd || l[1].Move != first.Move {
		t.Errorf("%+v", l)
	}
}

// P22.2: OpTick: the world's telegrams go into the radio ahead of the hive's.
func TestWorldAheadOfHive(t *testing.T) {
	_, first := begun(t, small(), 7)
	// With that the hive sends once more at the tick at which the robot tells that it is done.
	c := small()
	c.Resend = first.Move.End - first.Move.At
	r, _ := begun(t, c, 7)
	does(t, r, opHear(0, 0))
	for range c.Resend {
		flies(t, r)
		does(t, r, opTick())
	}
	flies(t, r, teAck(0, 0, 1), first)
	if !slices.Equal(r.Told(), []api.Tele{first, first}) {
		t.Errorf("told is %+v", r.Told())
	}
	// And if there is room for one alone, that is the robot's.
	r, _ = begun(t, c, 7)
	does(t, r, opHear(0, 0))
	for range c.Resend - 1 {
		does(t, r, opTick())
	}
	r.Radio().Send(slices.Repeat([]api.Tele{teAck(0, 9, 9)}, 1023)...)
	does(t, r, opTick())
	if l := under(r.Radio()); len(l) != 1024 || l[1023] != teAck(0, 0, 1) || len(r.Told()) != 2 {
		t.Errorf("%d under way, told is %+v", len(l), r.Told())
	}
}

// P22.2: OpTick: the hive works behind the world's tick, with what it has heard till then, and not with what the world tells in it.
func TestTickHearsNothing(t *testing.T) {
	r, first := begun(t, small(), 7)
	does(t, r, opHear(0, 0))
	for range first.Move.End - first.Move.At + 3 {
		does(t, r, opTick())
	}
	flies(t, r, teAck(0, 0, 1))
	if !r.State().Robots[0].Out || len(r.Told()) != 1 {
		t.Errorf("%+v, told is %+v", r.State().Robots[0], r.Told())
	}
	does(t, r, opHear(0, 0))
	if r.State().Robots[0].Out {
		t.Error("not heard")
	}
	does(t, r, opTick())
	if l := r.Told(); len(l) != 2 || l[1].Num != 2 {
		t.Errorf("told is %+v", l)
	}
}

// P22.2: OpHear: ErrArg, if B is neither 0 nor 1, whether something is under way or not; nothing is turned.
func TestHearRefuses(t *testing.T) {
	empty, _ := play.New(small())
	full, _ := begun(t, small(), 7)
	for _, b := range append(ends(), -1, -2, 2, 3, 10) {
		for _, a := range []int{0, 1, -1, math.MaxInt, math.MinInt} {
			refuses(t, small(), empty, opHear(a, b), api.ErrArg)
			refuses(t, small(), full, opHear(a, b), api.ErrArg)
		}
	}
}

// P22.2: OpHear and OpLose with nothing under way: ErrNone. (The chapter's example.)
func TestNothingUnderWay(t *testing.T) {
	fresh := made(t, small())
	worked, _ := begun(t, small(), 7)
	does(t, worked, opHear(0, 0))
	for _, r := range []*play.Run{fresh, worked} {
		for _, a := range append(ends(), 0, 1, -1, 7) {
			refuses(t, small(), r, opHear(a, 0), api.ErrNone)
			refuses(t, small(), r, opHear(a, 1), api.ErrNone)
			refuses(t, small(), r, opLose(a), api.ErrNone)
		}
	}
}

// P22.2: OpHear of a go-ahead: the robot begins its move; it is under way no more.
func TestHearGo(t *testing.T) {
	r, first := begun(t, small(), 7)
	was := r.State()
	does(t, r, opHear(0, 0))
	flies(t, r)
	if m, ok := r.World().Under(0); !ok || m != first.Move {
		t.Errorf("%+v, %v", m, ok)
	}
	if l := seen(r, 0); len(l) != 1 || l[0] != (api.Sight{Kind: api.SeStart, Pose: flat(0, 1), Move: first.Move}) {
		t.Errorf("%+v", l)
	}
	same(t, r.State(), was)
}

// P22.2: OpHear of a go-ahead twice: it stays under way with B 1, and the second time it does nothing but be answered.
func TestHearGoTwice(t *testing.T) {
	r, first := begun(t, small(), 7)
	does(t, r, opHear(0, 1))
	flies(t, r, first)
	does(t, r, opHear(0, 1))
	flies(t, r, first)
	for range first.Move.End - first.Move.At {
		does(t, r, opTick())
	}
	flies(t, r, first, teAck(0, 0, 1))
	// It was done: the robot tells so once more.
	does(t, r, opHear(0, 0))
	flies(t, r, teAck(0, 0, 1), teAck(0, 0, 1))
	if l := seen(r, 0); len(l) != 2 {
		t.Errorf("%+v", l)
	}
	seq := r.State().Seq
	does(t, r, opHear(0, 0), opHear(0, 0))
	if s := r.State(); s.Seq != seq+1 || s.Robots[0].Out || s.Robots[0].At != first.Move.To {
		t.Errorf("%+v", s)
	}
}

// P22.2: OpHear of a stop: the robot's answer goes behind what is under way.
func TestHearStop(t *testing.T) {
	c := yard()
	r := made(t, c)
	does(t, r, opStop())
	flies(t, r, teStop(0, 1), teStop(1, 1))
	does(t, r, opHear(0, 0))
	flies(t, r, teStop(1, 1), teHalt(0, 1, c.Robots[0], 0))
	does(t, r, opHear(0, 1))
	flies(t, r, teStop(1, 1), teHalt(0, 1, c.Robots[0], 0), teHalt(1, 1, c.Robots[1], 0))
	if l := seen(r, 0); len(l) != 2 || l[0].Kind != api.SeHalt || l[1].Robot != 1 {
		t.Errorf("%+v", l)
	}
}

// P22.2: OpHear of what robots tell: the hive hears it, and the world does not.
func TestHearByHive(t *testing.T) {
	c := yard()
	r := made(t, c)
	does(t, r, opStop(), opHear(0, 0), opHear(0, 0))
	sights := len(r.World().Sights())
	does(t, r, opHear(1, 0))
	flies(t, r, teHalt(0, 1, c.Robots[0], 0))
	if s := r.State(); s.Robots[0].Stands || !s.Robots[1].Stands {
		t.Errorf("%+v", s.Robots)
	}
	does(t, r, opHear(0, 0))
	flies(t, r)
	if s := r.State(); !s.Robots[0].Stands || len(r.World().Sights()) != sights {
		t.Errorf("%+v", s.Robots)
	}
	does(t, r, opResume())
	if r.State().Held {
		t.Error("held")
	}
}

// P22.2: OpHear of what was heard already, or is of another epoch, or of none of the kinds: OK, and nothing but that it is under way no more.
func TestHearForNothing(t *testing.T) {
	c := yard()
	r := made(t, c)
	does(t, r, opStop())
	for r.Radio().Len() > 0 {
		does(t, r, opHear(0, 0))
	}
	does(t, r, opResume())
	for _, x := range []api.Tele{
		teAck(0, 1, 1), teAck(0, 0, 0), teAck(5, 1, 0), teHalt(0, 1, c.Robots[0], 0), teHalt(-1, 1, c.Robots[0], 0), {}, {Kind: 5}, {Kind: -1, Robot: 1, Epoch: 1},
		teGo(2, 1, 1, api.Move{Kind: api.Lift, From: c.Robots[0], To: c.Robots[0], End: 6}), teGo(-1, 1, 1, api.Move{}), teStop(2, 9), teStop(math.MinInt, 9),
	} {
		was := wholeOf(c, r)
		r.Radio().Send(x)
		does(t, r, opHear(0, 1))
		flies(t, r, x)
		does(t, r, opHear(0, 0))
		stays(t, c, r, was)
	}
}

// P22.2: which telegram comes is A modulo how many there are, also of an A below 0.
func TestHearWhich(t *testing.T) {
	c := row(5)
	for _, a := range append(ends(), 0, 1, 4, 5, 6, 9, 10, -1, -4, -5, -6, 123456) {
		i := (a%5 + 5) % 5
		r := made(t, c)
		does(t, r, opStop())
		r.Do(opHear(a, 0))
		want := slices.Delete(stops(c, 1), i, i+1)
		flies(t, r, append(want, teHalt(i, 1, c.Robots[i], 0))...)
		r = made(t, c)
		does(t, r, opStop())
		r.Do(opHear(a, 1))
		flies(t, r, append(stops(c, 1), teHalt(i, 1, c.Robots[i], 0))...)
		r = made(t, c)
		does(t, r, opStop())
		does(t, r, opLose(a))
		flies(t, r, want...)
	}
}

// P22.2: OpLose: the telegram is gone, and nobody has heard it, whatever B says.
func TestLose(t *testing.T) {
	c := yard()
	for _, b := range append(ends(), 0, 1, 2) {
		r := made(t, c)
		does(t, r, opStop(), api.Op{Kind: api.OpLose, A: 1, B: b})
		flies(t, r, teStop(0, 1))
		was := wholeOf(c, r)
		was.Under = nil
		does(t, r, opLose(-1))
		stays(t, c, r, was)
		if len(r.World().Sights()) != 0 {
			t.Error("it was heard")
		}
	}
}

// P22.2: OpDelay: the world's: ErrArg of robots that there are not, and of ticks below 1; else a move ends later.
func TestDelay(t *testing.T) {
	c := yard()
	r := made(t, c)
	for _, n := range append(ends(), 0, -1) {
		if n < 1 {
			refuses(t, c, r, opDelay(0, n), api.ErrArg)
		}
	}
	for _, i := range append(ends(), -1, 2, 3) {
		refuses(t, c, r, opDelay(i, 1), api.ErrArg)
	}
	for _, n := range []int{1, 2, 30} {
		r, first := begun(t, small(), 7)
		does(t, r, opHear(0, 0))
		was := wholeOf(small(), r)
		does(t, r, opDelay(0, n))
		stays(t, small(), r, was)
		for range first.Move.End - first.Move.At + n {
			if len(r.World().Sights()) != 1 {
				t.Fatalf("delayed by %d it ends at %d", n, r.World().Now())
			}
			does(t, r, opTick())
		}
		if l := r.World().Sights(); len(l) != 2 || l[1].Kind != api.SeEnd || l[1].Tick != first.Move.End+n {
			t.Errorf("delayed by %d: %+v", n, l)
		}
	}
}

// P22.2: all other operations are the hive's own: its answers, what it tells, what it writes; those of no kind too.
func TestOthers(t *testing.T) {
	var luck chance = 5
	for range 60 {
		c := drawConf(&luck)
		r, d := made(t, c), disk.New()
		h, _, e := hive.New(c, d, 0)
		if e != api.OK {
			t.Fatal(e)
		}
		var told []api.Tele
		for range 40 {
			o := drawAsk(&luck, c, h.State())
			l, e := h.Do(o)
			if f := r.Do(o); f != e {
				t.Fatalf("%+v: error %d, want %d", o, f, e)
			}
			told = append(told, l...)
			flies(t, r, told...)
			same(t, r.Told(), told)
			same(t, r.State(), h.State())
			alike(t, r.Disk(), d)
		}
	}
}

// P22.2: each of the others, one by one: what is refused, and what is taken.
func TestOthersWrittenOut(t *testing.T) {
	c := yard()
	r := made(t, c)
	for _, x := range []struct {
		o api.Op
		e api.Errno
	}{
		{opOrder(99, 0), api.ErrBin}, {opOrder(7, 2), api.ErrPort}, {opOrder(7, -2), api.ErrPort}, {opOrder(7, 1), api.OK}, {opOrder(7, 0), api.ErrDouble},
		{opOrder(8, 1), api.OK}, {opOrder(9, 1), api.ErrFull}, {opDrain(0), api.ErrNone}, {opDrain(2), api.ErrPort}, {opDrain(-1), api.ErrPort}, {opResume(), api.ErrState},
		{opCheck(), api.OK}, {opStop(), api.OK}, {opOrder(5, 0), api.ErrHeld}, {opDrain(0), api.ErrHeld}, {opResume(), api.ErrState}, {opStop(), api.OK},
		{api.Op{}, api.ErrOp}, {api.Op{Kind: -1}, api.ErrOp}, {api.Op{Kind: 11}, api.ErrOp}, {api.Op{Kind: math.MaxInt, A: 1, B: 1}, api.ErrOp}, {api.Op{Kind: math.MinInt}, api.ErrOp},
	} {
		if x.e != api.OK {
			refuses(t, c, r, x.o, x.e)
			continue
		}
		was := r.World().Now()
		does(t, r, x.o)
		if r.World().Now() != was {
			t.Errorf("%+v: a tick", x.o)
		}
	}
	flies(t, r, append(stops(c, 1), stops(c, 2)...)...)
	if s := r.State(); len(s.Orders) != 2 || s.Epoch != 2 || !s.Held {
		t.Errorf("%+v", s)
	}
}

// P22.2: a radio that is full: what a robot answers, what the world tells, what the hive tells, and New's stops behind a crash are lost; all goes on else.
func TestFullRadio(t *testing.T) {
	c := row(3)
	p := newPair(t, c)
	for range 342 {
		p.all(opStop())
	}
	if l := p.m.under; len(l) != 1024 || l[1023] != teStop(0, 342) {
		t.Fatalf("%d under way, the last is %+v", len(l), l[len(l)-1])
	}
	// Kept, it leaves no room for its answer; else it leaves room for just that.
	p.all(opHear(0, 1))
	if l := p.m.under; l[1023] != teStop(0, 342) {
		t.Fatalf("the last is %+v", l[1023])
	}
	p.all(opHear(1, 0))
	if l := p.m.under; l[1023] != teHalt(1, 1, c.Robots[1], 0) {
		t.Fatalf("the last is %+v", l[1023])
	}
	p.all(opCrash(0, 0))
	if l := p.m.under; l[1023] != teHalt(1, 1, c.Robots[1], 0) || len(p.r.Told()) != 343*3 || p.r.State().Epoch != 343 {
		t.Fatalf("the last is %+v, told are %d", l[1023], len(p.r.Told()))
	}
	p.all(opLose(5), opLose(5), opStop(), opTick())
	if l := p.m.under; l[1022] != teStop(0, 344) || l[1023] != teStop(1, 344) {
		t.Fatalf("the last are %+v", l[1022:])
	}
}

// P22.2: with a full radio a robot's telling that it is done is lost, and told again when the go-ahead comes again.
func TestFullRadioAtTick(t *testing.T) {
	r, first := begun(t, small(), 7)
	does(t, r, opHear(0, 1))
	r.Radio().Send(slices.Repeat([]api.Tele{{}}, 1023)...)
	for range first.Move.End - first.Move.At {
		does(t, r, opTick())
	}
	if l := seen(r, 0); len(l) != 2 || slices.Contains(under(r.Radio()), teAck(0, 0, 1)) {
		t.Fatalf("%+v", l)
	}
	does(t, r, opHear(0, 0))
	if l := under(r.Radio()); l[1023] != teAck(0, 0, 1) {
		t.Fatalf("the last is %+v", l[1023])
	}
}

// A run that there is not: ErrArg of each operation, and nothing of all else.
func TestNilRun(t *testing.T) {
	r, e := play.New(api.Conf{})
	if r != nil || e != api.ErrConf {
		t.Fatal(r, e)
	}
	for kind := -1; kind < 13; kind++ {
		for _, o := range []api.Op{{Kind: kind}, {Kind: kind, A: 1, B: 1}, {Kind: kind, A: -1, B: 2}} {
			if e := r.Do(o); e != api.ErrArg {
				t.Errorf("%+v: error %d", o, e)
			}
		}
	}
	same(t, r.State(), api.State{})
	if r.World() != nil || r.Radio() != nil || r.Disk() != nil || len(r.Told()) != 0 {
		t.Error("a run that there is not has parts")
	}
}

// R1: no numbers of an operation make it panic, or last.
func TestAnyOperation(t *testing.T) {
	var luck chance = 6
	some := append(ends(), -2, -1, 0, 1, 2, 3)
	for kind := -2; kind < 14; kind++ {
		c := drawConf(&luck)
		p := newPair(t, c)
		for i := range 30 {
			p.do(drawOp(&luck, c, p.r))
			p.do(api.Op{Kind: kind, A: some[luck.below(len(some))], B: some[luck.below(len(some))]})
			p.do(api.Op{Kind: some[luck.below(len(some))], A: some[i%len(some)], B: some[luck.below(len(some))]})
		}
	}
}
