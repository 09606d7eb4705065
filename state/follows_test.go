package state_test

import (
	"reflect"
	"slices"
	"testing"

	"skep/api"
	"skep/grid"
	"skep/plan"
	"skep/state"
)

// seen is all bins that there are, rising.
func seen(s api.State) []int {
	var out []int
	for _, l := range s.Stacks {
		out = append(out, l.Bins...)
	}
	for _, p := range s.Ports {
		out = append(out, p.Bin)
	}
	for _, r := range s.Robots {
		out = append(out, r.Load)
	}
	out = slices.DeleteFunc(out, func(b int) bool { return b == 0 })
	slices.Sort(out)
	return out
}

// meet tells whether two robots' holds have a tick and a cell in common.
func meet(c api.Conf, s api.State) bool {
	g, _ := grid.New(c)
	for i, a := range s.Robots {
		for _, b := range s.Robots[i+1:] {
			for _, x := range plan.Holds(g, a.At, a.Moves) {
				for _, y := range plan.Holds(g, b.At, b.Moves) {
					if x.Cell == y.Cell && x.From < y.To && y.From < x.To {
						return true
					}
				}
			}
		}
	}
	return false
}

// P16.4, P16.6: scripts of events: each answer is what the words say; what Check allows becomes what it allows; the bins stay the same; what is refused has changed nothing; holds never meet.
func TestScripts(t *testing.T) {
	var luck chance = 3
	count := map[[2]int]int{}
	delivered := 0
	for range 150 {
		c := drawConf(&luck)
		s, e := state.First(c)
		if e != api.OK {
			t.Fatal(e)
		}
		want := seen(s)
		for range 250 {
			e := drawEvent(&luck, c, s)
			kept := nilled(s)
			next, f := plainApply(c, s, e)
			applies(t, c, s, e, next, f)
			count[[2]int{e.Kind, int(f)}]++
			same(t, s, kept)
			if f != api.OK {
				continue
			}
			if !state.Check(c, next) || !plainCheck(c, next) {
				t.Fatalf("Check, behind %+v:\n%+v\n%+v", e, c, next)
			}
			if got := seen(next); !slices.Equal(got, want) || meet(c, next) {
				t.Fatalf("behind %+v:\n%+v", e, next)
			}
			s = next
		}
		for _, o := range s.Orders {
			delivered += o.State / api.Delivered
		}
	}
	for _, x := range []struct {
		kind   int
		errors []api.Errno
	}{
		{api.EvOrder, []api.Errno{api.OK, api.ErrHeld, api.ErrBin, api.ErrPort, api.ErrDouble, api.ErrOut, api.ErrFull}},
		{api.EvBegin, []api.Errno{api.OK, api.ErrArg, api.ErrState}},
		{api.EvPlan, []api.Errno{api.OK, api.ErrArg, api.ErrHeld, api.ErrState}},
		{api.EvGo, []api.Errno{api.OK, api.ErrArg, api.ErrHeld, api.ErrState}},
		{api.EvDone, []api.Errno{api.OK, api.ErrArg, api.ErrHeld, api.ErrState}},
		{api.EvDrain, []api.Errno{api.OK, api.ErrHeld, api.ErrPort, api.ErrNone, api.ErrState}},
		{api.EvStop, []api.Errno{api.OK}},
		{api.EvHalt, []api.Errno{api.OK, api.ErrArg, api.ErrState}},
		{api.EvResume, []api.Errno{api.OK, api.ErrState}},
	} {
		for _, f := range x.errors {
			if count[[2]int{x.kind, int(f)}] == 0 {
				t.Errorf("no event %d with error %d", x.kind, f)
			}
		}
	}
	if delivered < 20 {
		t.Errorf("%d delivered: %v", delivered, count)
	}
}

// place is a spot of a state that can be turned.
type place struct {
	v    reflect.Value
	name string
}

// places is all numbers, bools and lists of a state, found by going through it.
func places(v reflect.Value, name string) []place {
	switch v.Kind() {
	case reflect.Struct:
		var out []place
		for i := range v.NumField() {
			out = append(out, places(v.Field(i), name+"."+v.Type().Field(i).Name)...)
		}
		return out
	case reflect.Slice:
		out := []place{{v, name}}
		for i := range v.Len() {
			out = append(out, places(v.Index(i), name+"[]")...)
		}
		return out
	}
	return []place{{v, name}}
}

// spoil turns one spot of a state, as luck has it, and tells which.
func spoil(luck *chance, s *api.State) string {
	l := places(reflect.ValueOf(s).Elem(), "")
	// By names, else the moves, of which there are many, would be nearly all.
	names := []string{}
	for _, p := range l {
		if !slices.Contains(names, p.name) {
			names = append(names, p.name)
		}
	}
	name := names[luck.below(len(names))]
	l = slices.DeleteFunc(l, func(p place) bool { return p.name != name })
	v := l[luck.below(len(l))].v
	switch v.Kind() {
	case reflect.Int:
		v.SetInt([]int64{v.Int() + 1, v.Int() - 1, 0, 1, 2, -1, v.Int() + 6, most, most + 1}[luck.below(9)])
	case reflect.Bool:
		v.SetBool(!v.Bool())
	case reflect.Slice:
		spoilList(luck, v)
	}
	return name
}

// spoilList drops, doubles, swaps or adds an item.
func spoilList(luck *chance, v reflect.Value) {
	n := v.Len()
	if n == 0 || luck.below(4) == 0 {
		v.Set(reflect.Append(v, reflect.Zero(v.Type().Elem())))
		return
	}
	i, j := luck.below(n), luck.below(n)
	switch luck.below(3) {
	case 0:
		v.Set(reflect.AppendSlice(v.Slice3(0, i, i), v.Slice(i+1, n)))
	case 1:
		v.Set(reflect.Append(v.Slice3(0, n, n), v.Index(i)))
	default:
		reflect.Swapper(v.Interface())(i, j)
	}
}

// P16.2, P16.6: states of scripts, with something turned as luck has it: Check says what the words say; and of those that still may be each event leads to what the words say, and to what Check allows.
func TestSpoiltStates(t *testing.T) {
	var luck chance = 5
	spoilt, fine := map[string]int{}, map[string]int{}
	for range 60 {
		c := drawConf(&luck)
		s := plainFirst(c)
		for range 200 {
			if next, f := plainApply(c, s, drawEvent(&luck, c, s)); f == api.OK {
				s = next
			}
			x := nilled(s)
			name := spoil(&luck, &x)
			want := plainCheck(c, x)
			if state.Check(c, x) != want {
				t.Fatalf("%s: Check says %v:\n%+v\n%+v", name, !want, c, x)
			}
			if !want {
				spoilt[name]++
				state.Apply(c, x, drawEvent(&luck, c, s))
				continue
			}
			fine[name]++
			for range 3 {
				e := drawEvent(&luck, c, x)
				next, f := plainApply(c, x, e)
				applies(t, c, x, e, next, f)
				if f == api.OK && !state.Check(c, next) {
					t.Fatalf("%s: behind %+v:\n%+v\n%+v", name, e, x, next)
				}
			}
		}
	}
	if len(spoilt) < 35 || len(fine) < 12 {
		t.Errorf("%d: %v\n%d: %v", len(spoilt), spoilt, len(fine), fine)
	}
}
