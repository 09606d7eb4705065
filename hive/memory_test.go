package hive_test

import (
	"reflect"
	"slices"
	"testing"

	"skep/api"
	"skep/codec"
	"skep/disk"
	"skep/hive"
)

// deep is a thing with the same in lists of its own, each with spare room.
func deep[T any](x T) T {
	return remake(reflect.ValueOf(x), func(v reflect.Value) reflect.Value {
		out := reflect.MakeSlice(v.Type(), v.Len(), v.Len()+3)
		reflect.Copy(out, v)
		return out
	}).Interface().(T)
}

// whole is a copy of a thing with its lists' spare room laid open.
func whole[T any](x T) T {
	return remake(reflect.ValueOf(x), func(v reflect.Value) reflect.Value { return v.Slice(0, v.Cap()) }).Interface().(T)
}

// spoilAll writes over all that a thing's lists have, spare room too.
func spoilAll(v reflect.Value) {
	switch v.Kind() {
	case reflect.Struct:
		for i := range v.NumField() {
			spoilAll(v.Field(i))
		}
	case reflect.Slice:
		v = v.Slice(0, v.Cap())
		for i := range v.Len() {
			spoilAll(v.Index(i))
			if v.Index(i).Kind() == reflect.Int {
				v.Index(i).SetInt(-77)
			} else {
				v.Index(i).SetZero()
			}
		}
	}
}

// spoil writes over all lists of a thing.
func spoil[T any](x T) { spoilAll(reflect.ValueOf(x)) }

// quiet is what a step of a script asks of a pair: no crash, no world, but answers as robots would give them.
func quiet(luck *chance, p *pair) []api.Tele {
	s := p.h.State()
	switch luck.below(5) {
	case 0, 1:
		l, _ := p.do(opTick())
		return l
	case 2:
		l, _ := p.do(drawOp(luck, p.c, s))
		return l
	case 3:
		p.hear(drawNoise(luck, s))
	default:
		for i, r := range s.Robots {
			if s.Held {
				p.hear(teHalt(i, s.Epoch, r.At, r.Load))
			} else if r.Out && luck.below(2) == 0 {
				p.hear(teAck(i, s.Epoch, r.Num))
			}
		}
	}
	return nil
}

// R3: a config that is handed in stays as it is, spare room included, whatever happens in the hive.
func TestConfStays(t *testing.T) {
	var luck chance = 3
	wrong := yard()
	wrong.Stacks = append(wrong.Stacks, pile(2, 2, 9))
	for i := range 30 {
		c := drawConf(&luck)
		if i == 0 {
			c = wrong
		}
		given := deep(c)
		kept := whole(given)
		if h, _, e := hive.New(given, disk.New(), 0); e == api.OK {
			for range 60 {
				h.Do(drawOp(&luck, c, h.State()))
				h.Do(opTick())
				h.Hear(drawNoise(&luck, h.State()))
			}
		}
		if !reflect.DeepEqual(whole(given), kept) {
			t.Fatalf("%+v, want %+v", whole(given), kept)
		}
	}
}

// R3: a config that is turned behind New turns no hive.
func TestConfIsNotKept(t *testing.T) {
	var luck chance = 4
	for _, c := range []api.Conf{small(), yard(), halves()} {
		for range 5 {
			given := deep(c)
			p := paired(t, c)
			h, _, e := hive.New(given, disk.New(), 0)
			if e != api.OK {
				t.Fatal(e)
			}
			p.h = h
			spoil(given)
			// What this one writes is on a disk of its own.
			for range 150 {
				s := p.w.s
				var o api.Op
				if o = opTick(); luck.below(3) == 0 {
					o = drawOp(&luck, c, s)
				}
				l, e := h.Do(o)
				if want, f := p.w.do(o); e != f || !slices.Equal(l, want) {
					t.Fatalf("%+v: error %d, %+v, want error %d, %+v", o, e, l, f, want)
				}
				for i, r := range p.w.s.Robots {
					x := teAck(i, s.Epoch, r.Num)
					if s.Held {
						x = teHalt(i, s.Epoch, r.At, r.Load)
					}
					if h.Hear(x) != p.w.hear(x) {
						t.Fatalf("%+v", x)
					}
				}
				same(t, h.State(), p.w.s)
			}
		}
	}
}

// R3: what is answered is new memory, spare room too: to write into it turns nothing of the hive, nor of what else is answered.
func TestAnswersAreNewMemory(t *testing.T) {
	var luck chance = 5
	for range 20 {
		p := paired(t, drawConf(&luck))
		for range 80 {
			s, other := p.h.State(), p.h.State()
			kept := tight(s)
			spoil(other)
			same(t, s, kept)
			same(t, p.h.State(), kept)
			spoil(s)
			spoil(quiet(&luck, p))
			p.same()
		}
	}
	// Of New's telegrams too.
	c := yard()
	h, l, _ := hive.New(c, written(t, nil, 0, journal(evStop())...), 0)
	spoil(l)
	for h.Now() < c.Resend-1 {
		does(t, h, opTick())
	}
	does(t, h, opTick(), stops(c, 2)...)
}

// R3: the disk is used as it is, and stays the caller's: what it has is what was written, and a copy of it is not turned any more.
func TestDiskIsTheCallers(t *testing.T) {
	c, d := yard(), disk.New()
	h := made(t, c, d, 0)
	all(t, h, opOrder(9, 0))
	x := allOf(d)
	was := [2][]byte{x.Read(0), x.Read(1)}
	all(t, h, opTick(), opStop(), opCheck())
	if !slices.Equal(x.Read(0), was[0]) || !slices.Equal(x.Read(1), was[1]) {
		t.Fatal("the copy is turned")
	}
	if d.Size(1) == 0 || d.Size(0) != 0 {
		t.Fatal(d.Size(0), d.Size(1))
	}
}

// R4: two hives have nothing in common: scripts turn by turn answer what each alone does.
func TestHivesHaveNothingInCommon(t *testing.T) {
	for n := range 10 {
		conf := chance(900 + n)
		confs := []api.Conf{drawConf(&conf), drawConf(&conf), drawConf(&conf)}
		var lone [][][]api.Tele
		for i, c := range confs {
			luck, p := chance(i), paired(t, c)
			var told [][]api.Tele
			for range 100 {
				told = append(told, quiet(&luck, p))
			}
			lone = append(lone, told)
		}
		lucks, pairs := []chance{0, 1, 2}, []*pair{paired(t, confs[0]), paired(t, confs[1]), paired(t, confs[2])}
		for step := range 100 {
			for i := range confs {
				if got := quiet(&lucks[i], pairs[i]); !slices.Equal(got, lone[i][step]) {
					t.Fatalf("%+v, want %+v", got, lone[i][step])
				}
			}
		}
	}
}

// R1, R5: none panics, and all end, whatever the numbers are; each answers what the words say.
func TestAnyArguments(t *testing.T) {
	numbers := append(ends(), -1, 0, 0, 1, 1, 2, 3, 4, 5, 9, 10)
	var luck chance = 41
	draw := func() int { return numbers[luck.below(len(numbers))] }
	pose := func() api.Pose { return api.Pose{At: at(draw(), draw()), Down: luck.below(2) == 0} }
	for range 20 {
		p := paired(t, drawConf(&luck))
		for range 200 {
			quiet(&luck, p)
			p.do(api.Op{Kind: draw(), A: draw(), B: draw()})
			p.do(api.Op{Kind: 1 + luck.below(10), A: draw(), B: draw()})
			m := api.Move{Kind: draw(), Dir: draw(), N: draw(), From: pose(), To: pose(), At: draw(), End: draw()}
			p.hear(api.Tele{Kind: draw(), Robot: draw(), Epoch: draw(), Num: draw(), Move: m, Pose: pose(), Load: draw()})
			s := p.h.State()
			p.hear(api.Tele{Kind: 1 + luck.below(4), Robot: luck.below(3), Epoch: s.Epoch, Num: draw(), Move: m, Pose: pose(), Load: draw()})
		}
	}
}

// P21.1: any bytes on the disk: New answers what the words say.
func TestAnyBytes(t *testing.T) {
	var luck chance = 43
	count := map[api.Errno]int{}
	for range 1500 {
		c := yard()
		s := behindAll(t, c, firstOf(t, c), evOrder(9, 0), evBegin(1))
		l := journal(evStop(), evHalt(0, 0, c.Robots[0]), evHalt(1, 0, c.Robots[1]), evResume(), evOrder(5, 1))
		snap, from := codec.PutState(s), 2
		if luck.below(2) == 0 {
			snap, from, l = nil, 0, append(journal(evOrder(9, 0), evBegin(1)), l...)
		}
		for range luck.below(3) {
			b := &l[luck.below(len(l))]
			if luck.below(3) == 0 && len(snap) > 0 {
				b = &snap
			}
			switch luck.below(3) {
			case 0:
				(*b)[luck.below(len(*b))] = byte(luck.below(256))
			case 1:
				*b = (*b)[:luck.below(len(*b))]
				*b = append(*b, 0)
			default:
				*b = append(*b, byte(luck.below(3)))
			}
		}
		_, _, e := newPair(t, c, written(t, snap, from, l...), luck.below(9))
		count[e]++
	}
	if count[api.OK] < 100 || count[api.ErrBytes] < 100 {
		t.Errorf("%v", count)
	}
}
