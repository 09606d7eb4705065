package radio_test

import (
	"slices"
	"testing"

	"skep/api"
	"skep/radio"
)

// The chapter's example: Send a, b: Hear(3, true): b; Len 2. Hear(-1, false): b; Len 1.
func TestExample(t *testing.T) {
	r := radio.New()
	a, b := tele(1), tele(2)
	if n := r.Send(a, b); n != 2 {
		t.Fatal(n)
	}
	if x, ok := r.Hear(3, true); x != b || !ok || r.Len() != 2 {
		t.Fatal(x, ok, r.Len())
	}
	if x, ok := r.Hear(-1, false); x != b || !ok || r.Len() != 1 {
		t.Fatal(x, ok, r.Len())
	}
	under(t, r, a)
}

// P20.1: a new radio is silent.
func TestNew(t *testing.T) {
	r := radio.New()
	if r == nil {
		t.Fatal("nil")
	}
	under(t, r)
}

// P20.1: none is put there: nil, an empty list, nothing at all.
func TestSendOfNone(t *testing.T) {
	for _, n := range []int{0, 1, 7, 1023, 1024} {
		r := filled(t, n)
		for _, got := range []int{r.Send(), r.Send(nil...), r.Send([]api.Tele{}...)} {
			if got != 0 {
				t.Fatalf("with %d: %d", n, got)
			}
		}
		under(t, r, teles(0, n)...)
	}
}

// P20.1: one and several, each behind those that are under way; all of one look, or zero, too.
func TestSendOfSome(t *testing.T) {
	r := radio.New()
	var want []api.Tele
	for _, l := range [][]api.Tele{teles(0, 1), teles(7, 9), teles(3, 4), teles(20, 29), {tele(5), tele(5)}, {{}, {}}, {tele(5)}} {
		if n := r.Send(l...); n != len(l) {
			t.Fatalf("%d, want %d", n, len(l))
		}
		want = append(want, l...)
		under(t, r, want...)
	}
}

// P20.1: as many as there is room for, and one less and more: what finds no room is lost, from the last ones on.
func TestSendToTheLimit(t *testing.T) {
	for _, first := range []int{0, 1, 2, 500, 1000, 1022, 1023, 1024} {
		room := 1024 - first
		for _, more := range []int{0, 1, 2, room - 1, room, room + 1, room + 2, room + 1500} {
			if more < 0 {
				continue
			}
			r := filled(t, first)
			if n := r.Send(teles(first, first+more)...); n != min(more, room) {
				t.Fatalf("%d behind %d: %d", more, first, n)
			}
			under(t, r, teles(0, min(first+more, 1024))...)
		}
	}
	if api.MaxPieces != 1024 {
		t.Error(api.MaxPieces)
	}
}

// P20.1: behind a Hear, or a Lose, there is room for one more, behind the others; what was lost does not come then.
func TestSendAfterFull(t *testing.T) {
	r := filled(t, 1030-6)
	if n := r.Send(tele(2000)); n != 0 {
		t.Fatal(n)
	}
	if x, ok := r.Hear(0, true); x != tele(0) || !ok || r.Send(tele(2001)) != 0 {
		t.Fatal(x, ok)
	}
	if x, ok := r.Hear(0, false); x != tele(0) || !ok {
		t.Fatal(x, ok)
	}
	under(t, r, teles(1, 1024)...)
	if n := r.Send(tele(2002), tele(2003)); n != 1 {
		t.Fatal(n)
	}
	under(t, r, append(teles(1, 1024), tele(2002))...)
	if !r.Lose(1023) || r.Send(tele(2004), tele(2005), tele(2006)) != 1 {
		t.Fatal(r.Len())
	}
	under(t, r, append(teles(1, 1024), tele(2004))...)
}

// P20.1, R5: any numbers are taken, kinds and robots that nobody knows too, and come as they were sent.
func TestSendOfAny(t *testing.T) {
	r := radio.New()
	var want []api.Tele
	for _, x := range ends() {
		p := api.Pose{At: api.Cell{X: x, Y: x + 1}, Down: x&1 == 0}
		m := api.Move{Kind: x, Dir: x + 1, N: x + 2, From: p, To: p, At: x + 3, End: x + 4}
		want = append(want, api.Tele{Kind: x, Robot: x + 1, Epoch: x + 2, Num: x + 3, Move: m, Pose: p, Load: x + 4})
	}
	if n := r.Send(want...); n != len(want) {
		t.Fatal(n)
	}
	under(t, r, want...)
	for i, x := range want {
		if got, ok := r.Hear(i, true); got != x || !ok {
			t.Fatalf("%+v, %v, want %+v", got, ok, x)
		}
	}
}

// R3: what is handed in stays as it is, spare room too, and what is written into it behind that turns nothing.
func TestSendKeepsNothing(t *testing.T) {
	for _, n := range []int{1, 2, 5, 1024, 1100} {
		l, whole := roomy(teles(0, n), 8)
		r := radio.New()
		r.Send(l...)
		r.Send(tele(6000), tele(6001))
		r.Hear(0, false)
		r.Lose(-1)
		r.Send(tele(6002))
		if !slices.Equal(l[:cap(l)][:len(whole)], whole) {
			t.Fatalf("%d: what was handed in was changed", n)
		}
		var want []api.Tele
		for _, x := range r.All() {
			want = append(want, x)
		}
		spoil(l)
		under(t, r, want...)
	}
}
