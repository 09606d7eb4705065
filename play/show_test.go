package play_test

import (
	"fmt"
	"slices"
	"testing"

	"skep/api"
	"skep/codec"
	"skep/disk"
	"skep/state"
	"skep/store"
)

// show is a pair of which each part is held against its own chapter's words: with all states that were passed, by Seq, up to which Seq they are certain, and the epoch that each robot has heard of.
type show struct {
	*pair
	luck    *chance
	eye     *eye
	passed  []api.State
	certain int
	heard   []int
	count   map[string]int
}

// newShow is one at its beginning.
func newShow(t *testing.T, luck *chance, c api.Conf, count map[string]int) *show {
	t.Helper()
	return &show{pair: newPair(t, c), luck: luck, eye: newEye(c), passed: []api.State{firstOf(t, c)}, heard: make([]int, len(c.Robots)), count: count}
}

// journal is what a disk's journal says behind its snapshot, and the state that the snapshot says.
func (y *show) journal(d *disk.Disk) (api.State, []api.Event) {
	y.t.Helper()
	_, snap, entries, e := store.Open(allOf(d))
	if e != api.OK {
		y.t.Fatalf("store's Open: error %d", e)
	}
	s := y.passed[0]
	if len(snap) > 0 {
		if s, e = codec.GetState(snap); e != api.OK || !state.Check(y.c, s) {
			y.t.Fatalf("a snapshot that is none: %v", snap)
		}
	}
	var out []api.Event
	for _, b := range entries {
		x, e := codec.GetEvent(b)
		if e != api.OK {
			y.t.Fatalf("an entry that is none: %v", b)
		}
		out = append(out, x)
	}
	return s, out
}

// behind is the state behind an event that must be taken.
func (y *show) behind(s api.State, e api.Event) api.State {
	y.t.Helper()
	next, f := state.Apply(y.c, s, e)
	if f != api.OK {
		y.t.Fatalf("%+v is refused: error %d; in\n%+v", e, f, s)
	}
	return next
}

// follow goes on to what the journal says: the state is the fold of all its events.
func (y *show) follow() {
	y.t.Helper()
	s := y.r.State()
	if s.Seq < len(y.passed)-1 {
		y.t.Fatalf("Seq %d, and was %d", s.Seq, len(y.passed)-1)
	}
	if s.Seq == len(y.passed)-1 {
		same(y.t, s, y.passed[s.Seq])
		return
	}
	from, l := y.journal(y.r.Disk())
	same(y.t, from, y.passed[from.Seq])
	if from.Seq+len(l) != s.Seq {
		y.t.Fatalf("the journal has %d events behind %d, Seq is %d", len(l), from.Seq, s.Seq)
	}
	for _, e := range l[len(y.passed)-1-from.Seq:] {
		y.passed = append(y.passed, y.behind(y.passed[len(y.passed)-1], e))
	}
	same(y.t, s, y.passed[s.Seq])
}

// back goes back to what a crash has left: a state that was passed, with all that was certain, stopped in a new epoch.
func (y *show) back(told []api.Tele) {
	y.t.Helper()
	s := y.r.State()
	if s.Seq == 0 {
		if y.certain > 0 || len(told) > 0 {
			y.t.Fatalf("nothing is left, certain were %d; told is %+v", y.certain, told)
		}
		y.passed = y.passed[:1]
		same(y.t, s, y.passed[0])
		return
	}
	was := s.Seq - 1
	if was < y.certain || was >= len(y.passed) {
		y.t.Fatalf("behind a crash: Seq %d, certain were %d, passed %d", was, y.certain, len(y.passed)-1)
	}
	y.passed = append(y.passed[:was+1], y.behind(y.passed[was], api.Event{Kind: api.EvStop}))
	same(y.t, s, y.passed[s.Seq])
	if !s.Held || !slices.Equal(told, stops(y.c, s.Epoch)) {
		y.t.Fatalf("behind a crash: held %v, told is %+v", s.Held, told)
	}
	y.count["left"]++
}

// mayTell fails unless a telegram may be told now: no go-ahead while held, none whose event is not certain.
func (y *show) mayTell(x api.Tele) {
	y.t.Helper()
	s := y.r.State()
	if x.Kind == api.TeStop && s.Held && x.Epoch == s.Epoch {
		return
	}
	if x.Kind != api.TeGo || s.Held || x.Epoch != s.Epoch {
		y.t.Fatalf("it may not be told: %+v; in\n%+v", x, s)
	}
	for _, p := range slices.Backward(y.passed[:y.certain+1]) {
		if r := p.Robots[x.Robot]; p.Epoch == x.Epoch && r.Out && r.Num == x.Num && r.Moves[0] == x.Move {
			y.count["go"]++
			return
		}
	}
	y.t.Fatalf("a go-ahead that is not certain: %+v", x)
}

// sights fails unless what was seen since can be, and leads to what is there. It answers which kinds were seen.
func (y *show) sights(from int) map[int]int {
	y.t.Helper()
	kinds := map[int]int{}
	for i, s := range y.r.World().Sights()[from:] {
		if !y.eye.see(s) {
			y.t.Fatalf("sight %d cannot be: %+v", from+i, s)
		}
		kinds[s.Kind]++
		y.count[fmt.Sprint("seen ", s.Kind)]++
	}
	for i, b := range y.eye.bodies {
		p, load, _ := y.r.World().Robot(i)
		m, moves := y.r.World().Under(i)
		if p != b.pose || load != b.load || moves != b.moves || moves && m.From != b.move.From {
			y.t.Fatalf("robot %d: %v, %d, %v %+v; seen was %+v", i, p, load, moves, m, b)
		}
	}
	return kinds
}

// known fails unless what the controller knows is what is there, but for what it has not heard yet.
func (y *show) known() {
	y.t.Helper()
	w, s := y.r.World(), y.behind(y.r.State(), api.Event{Kind: api.EvStop})
	for i := range y.c.Robots {
		p, load, _ := w.Robot(i)
		m, moves := w.Under(i)
		if !moves {
			s = y.behind(s, api.Event{Kind: api.EvHalt, A: i, B: load, Pose: p})
			continue
		}
		r := s.Robots[i]
		if r.Out && m.Kind == api.Run && m.N < r.Moves[0].N {
			m.N, m.To = r.Moves[0].N, r.Moves[0].To
		}
		if !r.Out || r.Moves[0] != m || r.At != p || r.Load != load {
			y.t.Fatalf("robot %d does %+v at %v, %d; known is\n%+v", i, m, p, load, r)
		}
	}
	for _, l := range s.Stacks {
		if !slices.Equal(w.At(l.At), l.Bins) {
			y.t.Fatalf("at %v: %v, known is %v", l.At, w.At(l.At), l.Bins)
		}
	}
	for i, p := range s.Ports {
		l := w.At(y.c.Ports[i])
		if len(l) > 1 || len(l) == 1 && l[0] != p.Bin || len(l) == 0 && p.Bin != 0 {
			y.t.Fatalf("at port %d: %v, known is %d", i, l, p.Bin)
		}
	}
}

// op is an operation, behind which each part must be as its chapter says.
func (y *show) op(o api.Op) api.Errno {
	y.t.Helper()
	seq, told, sights := len(y.passed)-1, len(y.m.told), len(y.r.World().Sights())
	var x api.Tele
	if o.Kind == api.OpHear {
		probe := *y.m
		x, _ = probe.take(o.A, true)
	}
	e := y.do(o)
	y.count[fmt.Sprint("op ", max(0, min(o.Kind, api.OpCheck+1)), " ", e)]++
	if o.Kind == api.OpCrash {
		y.back(y.m.told[told:])
	}
	y.follow()
	if o.Kind == api.OpCrash || o.Kind != api.OpHear && len(y.passed)-1 > seq || o.Kind == api.OpCheck && e == api.OK {
		y.certain = len(y.passed) - 1
	}
	for _, l := range y.m.told[told:] {
		y.mayTell(l)
	}
	kinds := y.sights(sights)
	y.hearing(x, kinds)
	y.known()
	return e
}

// hearing fails if a telegram of an older epoch than a robot has heard of moved it, or if a stop did.
func (y *show) hearing(x api.Tele, kinds map[int]int) {
	y.t.Helper()
	if x.Kind != api.TeGo && x.Kind != api.TeStop {
		if kinds[api.SeStart] > 0 {
			y.t.Fatalf("a move was begun without a go-ahead: %+v", x)
		}
		return
	}
	y.count[fmt.Sprint("to a robot ", x.Kind)]++
	if kinds[api.SeStart] > 0 && (x.Kind == api.TeStop || x.Epoch < y.heard[x.Robot]) {
		y.t.Fatalf("a move was begun by %+v, heard was of %d", x, y.heard[x.Robot])
	}
	y.heard[x.Robot] = max(y.heard[x.Robot], x.Epoch)
}

// calm goes on till all is delivered and all robots are home, nothing lost: each port's bin is drained. It fails, if that takes too long.
func (y *show) calm() {
	y.t.Helper()
	for range 6000 {
		for y.r.Radio().Len() > 0 {
			y.op(opHear(0, 0))
		}
		s := y.r.State()
		for i, p := range s.Ports {
			if p.Bin != 0 && p.Active == 0 && !s.Held {
				y.op(opDrain(i))
			}
		}
		if s.Held && !slices.ContainsFunc(s.Robots, func(r api.Robot) bool { return !r.Stands }) {
			y.op(opResume())
		}
		if rests(y.c, y.r.State()) {
			return
		}
		y.op(opTick())
	}
	y.t.Fatalf("it does not come to rest:\n%+v\n%+v", y.c, y.r.State())
}

// rests tells whether nothing is left to do.
func rests(c api.Conf, s api.State) bool {
	if s.Held || len(s.Jobs) > 0 || slices.ContainsFunc(s.Orders, func(o api.Order) bool { return o.State != api.Delivered }) {
		return false
	}
	for _, p := range s.Ports {
		if p.Bin != 0 {
			return false
		}
	}
	for i, r := range s.Robots {
		if len(r.Moves) > 0 || r.At != c.Robots[i] {
			return false
		}
	}
	return true
}

// once fails unless each order's bin was delivered once, at its port, and no other.
func (y *show) once() {
	y.t.Helper()
	var want, got [][2]int
	for _, o := range y.r.State().Orders {
		want = append(want, [2]int{o.Bin, o.Port})
	}
	for _, x := range y.r.World().Sights() {
		if x.Kind == api.SeDeliver {
			got = append(got, [2]int{x.Bin, slices.Index(y.c.Ports, x.Pose.At)})
		}
	}
	slices.SortFunc(want, func(a, b [2]int) int { return slices.Compare(a[:], b[:]) })
	slices.SortFunc(got, func(a, b [2]int) int { return slices.Compare(a[:], b[:]) })
	if !slices.Equal(got, want) {
		y.t.Fatalf("delivered %v, ordered %v", got, want)
	}
}
