package hive_test

import (
	"fmt"
	"slices"
	"testing"

	"skep/api"
	"skep/disk"
	"skep/hive"
	"skep/state"
	"skep/store"
	"skep/world"
)

// show is a pair, what is really there, and the telegrams under way; with all states that were passed, by Seq, and up to which Seq they are certain.
type show struct {
	*pair
	luck    *chance
	world   *world.World
	under   []api.Tele
	passed  []api.State
	certain int
	count   map[string]int
}

// newShow is one at its beginning.
func newShow(t *testing.T, luck *chance, c api.Conf, count map[string]int) *show {
	t.Helper()
	p, l, e := newPair(t, c, disk.New(), 0)
	w, f := world.New(c)
	if e != api.OK || f != api.OK || len(l) != 0 {
		t.Fatal(e, f, l)
	}
	return &show{pair: p, luck: luck, world: w, passed: []api.State{firstOf(t, c)}, count: count}
}

// follow goes on to what the journal says: the state is the fold of all its events.
func (y *show) follow() {
	y.t.Helper()
	s := y.h.State()
	if s.Seq < len(y.passed)-1 {
		y.t.Fatalf("Seq %d, and was %d", s.Seq, len(y.passed)-1)
	}
	if s.Seq == len(y.passed)-1 {
		same(y.t, s, y.passed[s.Seq])
		return
	}
	from, l := events(y.t, y.c, y.d[0])
	same(y.t, from, y.passed[from.Seq])
	y.passed = append(y.passed, s)
	for n := len(y.passed) - 1; n <= s.Seq; n++ {
		y.passed = append(y.passed[:n], behindAll(y.t, y.c, y.passed[n-1], l[n-1-from.Seq]))
	}
	same(y.t, s, y.passed[s.Seq])
	if from.Seq+len(l) != s.Seq {
		y.t.Fatalf("the journal has %d events behind %d, Seq is %d", len(l), from.Seq, s.Seq)
	}
}

// op is an operation; what is told must be as P21.5 says.
func (y *show) op(o api.Op) {
	y.t.Helper()
	before, seq := allOf(y.d[0]), len(y.passed)-1
	l, e := y.do(o)
	y.follow()
	if len(y.passed)-1 > seq || o.Kind == api.OpCheck && e == api.OK {
		y.amid(before)
		y.certain = len(y.passed) - 1
	}
	for _, x := range l {
		y.mayTell(x)
	}
	y.count[fmt.Sprint("op ", max(0, min(o.Kind, api.OpCheck+1)), " ", e)]++
	y.send(l...)
}

// mayTell fails unless a telegram may be told now: no go-ahead while held, none whose event is not certain.
func (y *show) mayTell(x api.Tele) {
	y.t.Helper()
	s := y.h.State()
	if x.Kind == api.TeStop {
		if !s.Held || x.Epoch != s.Epoch {
			y.t.Fatalf("a stop: %+v; in\n%+v", x, s)
		}
		return
	}
	if x.Kind != api.TeGo || s.Held || x.Epoch != s.Epoch {
		y.t.Fatalf("no go-ahead: %+v; in\n%+v", x, s)
	}
	for _, p := range slices.Backward(y.passed[:y.certain+1]) {
		if r := p.Robots[x.Robot]; p.Epoch == x.Epoch && r.Out && r.Num == x.Num && r.Moves[0] == x.Move {
			y.count["go"]++
			return
		}
	}
	y.t.Fatalf("a go-ahead that is not certain: %+v", x)
}

// send puts telegrams under way.
func (y *show) send(l ...api.Tele) {
	y.under = append(y.under, l...)
}

// hears has a telegram come: to a robot, or to the hive.
func (y *show) hears(i int, keep bool) {
	y.t.Helper()
	x := y.under[i]
	if !keep {
		y.under = slices.Delete(y.under, i, i+1)
	}
	if x.Kind == api.TeGo || x.Kind == api.TeStop {
		y.send(y.world.Hear(x)...)
		return
	}
	y.tells(x)
}

// tells has a telegram come to the hive.
func (y *show) tells(x api.Tele) {
	y.t.Helper()
	if y.hear(x) {
		y.count[fmt.Sprint("heard ", x.Kind)]++
	}
	y.follow()
}

// left fails unless a hive over a disk that a crash left is one that was passed, with all that was certain, stopped in a new epoch. It answers its Seq ahead of that.
func (y *show) left(d *disk.Disk) int {
	y.t.Helper()
	h, l, e := hive.New(y.c, d, y.luck.below(100))
	if e != api.OK {
		y.t.Fatalf("New behind a crash: error %d", e)
	}
	s := h.State()
	if s.Seq == 0 && y.certain == 0 {
		same(y.t, s, y.passed[0])
		if len(l) != 0 || s.Held {
			y.t.Fatalf("New ahead of the first event: %+v, held %v", l, s.Held)
		}
		return 0
	}
	was := s.Seq - 1
	if was < y.certain || was >= len(y.passed) {
		y.t.Fatalf("New behind a crash: Seq %d, certain were %d, passed %d", was, y.certain, len(y.passed)-1)
	}
	same(y.t, s, behindAll(y.t, y.c, y.passed[was], evStop()))
	if !s.Held || s.Epoch != y.passed[was].Epoch+1 || !slices.Equal(l, stops(y.c, s.Epoch)) || d.Pending(0)+d.Pending(1) > 0 {
		y.t.Fatalf("New behind a crash: %+v, %+v", l, s)
	}
	return was
}

// crashes crashes at each place of what is pending.
func (y *show) crashes() {
	y.t.Helper()
	for a := range y.d[0].Pending(0) + 1 {
		for b := range y.d[0].Pending(1) + 1 {
			y.left(y.d[0].Crash(a, b))
			y.count["crashes"]++
		}
	}
}

// amid crashes amid the operation that was done last, at places in what it wrote; ahead of it was that disk.
func (y *show) amid(before *disk.Disk) {
	y.t.Helper()
	if y.luck.below(6) > 0 {
		return
	}
	now := allOf(y.d[0])
	for file := range 2 {
		b := now.Read(file)
		if len(b) <= before.Size(file) {
			continue
		}
		more := b[before.Size(file):]
		for range 4 {
			x := allOf(before)
			x.Append(file, more[:y.luck.below(len(more)+1)])
			y.left(allOf(x))
			y.count["amid"]++
		}
	}
}

// crash crashes the disk, and goes on with what is left.
func (y *show) crash() {
	y.t.Helper()
	a, b := y.luck.below(y.d[0].Pending(0)+2), y.luck.below(y.d[0].Pending(1)+2)
	d := y.d[0].Crash(a, b)
	before := d.Crash(0, 0)
	// What was torn is cut off ahead of what New writes.
	if _, _, _, e := store.Open(before); e != api.OK {
		y.t.Fatal(e)
	}
	was := y.left(d.Crash(0, 0))
	p, l, e := newPair(y.t, y.c, d, y.world.Now())
	if e != api.OK {
		y.t.Fatal(e)
	}
	y.pair, y.passed = p, y.passed[:was+1]
	if s := p.h.State(); s.Seq > was {
		y.passed = append(y.passed, s)
		y.amid(before)
	}
	y.certain = len(y.passed) - 1
	for _, x := range l {
		y.mayTell(x)
	}
	y.send(l...)
	y.count["crash"]++
}

// tick is a tick of the world and the hive.
func (y *show) tick() {
	y.t.Helper()
	y.send(y.world.Tick()...)
	y.op(opTick())
}

// lie tells whether a telegram that no robot has told would be taken: what is known would not be what is there any more.
func (y *show) lie(x api.Tele) bool {
	s := y.h.State()
	if x.Epoch != s.Epoch || x.Robot < 0 || x.Robot >= len(s.Robots) {
		return false
	}
	_, e := state.Apply(y.c, s, evHalt(x.Robot, x.Load, x.Pose))
	r := s.Robots[x.Robot]
	return x.Kind == api.TeHalt && e == api.OK || x.Kind == api.TeAck && !s.Held && r.Out && x.Num == r.Num
}

// step is one thing that happens.
func (y *show) step() {
	y.t.Helper()
	switch n := y.luck.below(100); {
	case n < 44:
		y.tick()
	case n < 74 && len(y.under) > 0:
		y.hears(y.luck.below(min(len(y.under), 1+y.luck.below(4))), y.luck.below(12) == 0)
	case n < 92:
		y.op(drawOp(y.luck, y.c, y.h.State()))
	case n < 95:
		if x := drawNoise(y.luck, y.h.State()); !y.lie(x) {
			y.tells(x)
		}
	case n < 96 && len(y.c.Robots) > 0:
		y.world.Delay(y.luck.below(len(y.c.Robots)), 1+y.luck.below(9))
	case n < 97 && len(y.under) > 0:
		i := y.luck.below(len(y.under))
		y.under = slices.Delete(y.under, i, i+1)
	case n == 97 && y.luck.below(3) == 0:
		y.crash()
	case n == 98:
		y.crashes()
	}
}

// calm goes on till all is delivered and all robots are home, nothing lost: each port's bin is drained. It fails, if that takes too long.
func (y *show) calm() {
	y.t.Helper()
	for range 6000 {
		for len(y.under) > 0 {
			y.hears(0, false)
		}
		s := y.h.State()
		for i, p := range s.Ports {
			if p.Bin != 0 && p.Active == 0 && !s.Held {
				y.op(opDrain(i))
			}
		}
		if s.Held && !slices.ContainsFunc(s.Robots, func(r api.Robot) bool { return !r.Stands }) {
			y.op(opResume())
		}
		if y.rests() {
			return
		}
		y.tick()
	}
	y.t.Fatalf("it does not come to rest:\n%+v\n%+v", y.c, y.h.State())
}

// rests tells whether nothing is left to do.
func (y *show) rests() bool {
	s := y.h.State()
	if s.Held || len(s.Jobs) > 0 || slices.ContainsFunc(s.Orders, func(o api.Order) bool { return o.State != api.Delivered }) {
		return false
	}
	for _, p := range s.Ports {
		if p.Bin != 0 {
			return false
		}
	}
	for i, r := range s.Robots {
		if len(r.Moves) > 0 || r.At != y.c.Robots[i] {
			return false
		}
	}
	return true
}

// agrees fails unless at rest what is known is what is there, each order's bin was delivered once, at its port, and nothing was seen that cannot be.
func (y *show) agrees() {
	y.t.Helper()
	s := y.h.State()
	for i, r := range s.Robots {
		if p, load, _ := y.world.Robot(i); p != r.At || load != r.Load {
			y.t.Fatalf("robot %d: %v, %d, known is %v, %d", i, p, load, r.At, r.Load)
		}
	}
	for _, l := range s.Stacks {
		if !slices.Equal(y.world.At(l.At), l.Bins) {
			y.t.Fatalf("at %v: %v, known is %v", l.At, y.world.At(l.At), l.Bins)
		}
	}
	var want, got [][2]int
	for _, o := range s.Orders {
		want = append(want, [2]int{o.Bin, o.Port})
	}
	for _, x := range y.world.Sights() {
		switch x.Kind {
		case api.SeDeliver:
			got = append(got, [2]int{x.Bin, slices.Index(y.c.Ports, x.Pose.At)})
		case api.SeBad:
			y.t.Fatalf("it cannot be: %+v", x)
		}
	}
	slices.SortFunc(want, func(a, b [2]int) int { return slices.Compare(a[:], b[:]) })
	slices.SortFunc(got, func(a, b [2]int) int { return slices.Compare(a[:], b[:]) })
	if !slices.Equal(got, want) {
		y.t.Fatalf("delivered %v, ordered %v", got, want)
	}
}

// P21.5, and all of P21.1 to P21.4: over scripts of operations, telegrams and crashes at any place the hive answers, knows and writes what the words say; its state is the fold of the journal; behind each crash it is one that was passed, with all that was certain, stopped in a new epoch; no go-ahead is told while it is held, nor ahead of its event's being certain.
func TestScripts(t *testing.T) {
	var luck chance = 7
	count := map[string]int{}
	for range 150 {
		y := newShow(t, &luck, drawConf(&luck), count)
		for range 400 {
			y.step()
		}
		y.crashes()
		for _, x := range y.world.Sights() {
			count[fmt.Sprint("seen ", x.Kind)]++
		}
	}
	for what, least := range map[string]int{
		"op 1 ok": 20000, "op 2 ok": 300, "op 2 held": 300, "op 2 bin": 300, "op 2 port": 200, "op 2 double": 300, "op 2 out": 100, "op 2 full": 300,
		"op 3 ok": 60, "op 3 held": 100, "op 3 port": 100, "op 3 none": 100, "op 3 state": 100, "op 4 ok": 200, "op 5 ok": 200, "op 5 state": 300, "op 10 ok": 200,
		"op 0 operation": 50, "op 6 operation": 50, "op 9 operation": 50, "op 11 operation": 50,
		"go": 2000, "heard 3": 1000, "heard 4": 300, "crash": 100, "crashes": 1000, "amid": 1500,
		"seen 1": 1000, "seen 3": 100, "seen 4": 150, "seen 5": 150, "seen 6": 100, "seen 7": 10,
	} {
		if count[what] < least {
			t.Errorf("%s: %d, of %v", what, count[what], count)
		}
	}
	if count["seen 8"] > 0 {
		t.Errorf("seen was what cannot be: %v", count)
	}
}

// What follows of all: a hive that is left in peace, trouble behind it or not, delivers what was ordered, each once, and knows what is there.
func TestAllIsDelivered(t *testing.T) {
	var luck chance = 11
	count := map[string]int{}
	lone := yard()
	lone.Robots = lone.Robots[:1]
	for _, c := range []api.Conf{small(), lone, yard()} {
		for i := range 8 {
			c.Back = i%2 == 0
			y := newShow(t, &luck, c, count)
			for range 30 * i {
				// Two robots that were stopped in each other's way might stay there for good.
				if len(c.Robots) > 1 {
					y.tick()
				} else {
					y.step()
				}
			}
			for _, l := range c.Stacks {
				for _, bin := range l.Bins {
					y.op(opOrder(bin, -1))
				}
			}
			y.calm()
			y.agrees()
		}
	}
	if count["op 2 ok"] < 60 || count["op 4 ok"] < 10 || count["crash"] < 2 {
		t.Errorf("%v", count)
	}
}
