package play_test

import (
	"reflect"
	"slices"
	"testing"

	"skep/api"
	"skep/play"
)

// deep is a thing with the same in lists of its own, each with spare room.
func deep[T any](x T) T {
	return remake(reflect.ValueOf(x), func(v reflect.Value) reflect.Value {
		out := reflect.MakeSlice(v.Type(), v.Len(), v.Len()+3)
		reflect.Copy(out, v)
		return out
	}).Interface().(T)
}

// open is a copy of a thing with its lists' spare room laid open.
func open[T any](x T) T {
	return remake(reflect.ValueOf(x), func(v reflect.Value) reflect.Value { return v.Slice(0, v.Cap()) }).Interface().(T)
}

// spoilAll writes over all that a thing's lists have, spare room too.
func spoilAll(v reflect.Value) {
	switch v.Kind() {
	case reflect.Struct:
		for i := range v.NumField() {
			spoilAll(v.Field(i))
		}
	case reflect.Slice:
		v = v.Slice(0, v.Cap())
		for i := range v.Len() {
			spoilAll(v.Index(i))
			if v.Index(i).Kind() == reflect.Int {
				v.Index(i).SetInt(-77)
			} else {
				v.Index(i).SetZero()
			}
		}
	}
}

// spoil writes over all lists of a thing.
func spoil[T any](x T) { spoilAll(reflect.ValueOf(x)) }

// R3: a config and a script that are handed in stay as they are, spare room included, whatever happens in the run.
func TestArgumentsStay(t *testing.T) {
	var luck chance = 21
	for range 20 {
		c := drawConf(&luck)
		l, _ := drawn(&luck, c, made(t, c), 120)
		conf, script := deep(c), deep(l)
		kept, ops := open(conf), open(script)
		r, _, _ := play.Play(conf, script)
		if n, e := play.New(conf); e == api.OK {
			drawn(&luck, c, n, 60)
		}
		drawn(&luck, c, r, 60)
		if !reflect.DeepEqual(open(conf), kept) || !slices.Equal(open(script), ops) {
			t.Fatalf("%+v, want %+v", open(conf), kept)
		}
	}
	wrong := yard()
	wrong.Stacks = append(wrong.Stacks, pile(2, 2, 9))
	conf := deep(wrong)
	kept := open(conf)
	if _, e := play.New(conf); e != api.ErrConf || !reflect.DeepEqual(open(conf), kept) {
		t.Fatalf("error %d: %+v, want %+v", e, open(conf), kept)
	}
}

// R3: a config or a script that is turned behind the call turns no run; crashes ask for the config once more.
func TestArgumentsAreNotKept(t *testing.T) {
	var luck chance = 22
	for range 20 {
		c := drawConf(&luck)
		given := deep(c)
		m, _ := newWords(c)
		p := &pair{t, c, made(t, given), m}
		spoil(given)
		for i := range 150 {
			o := drawOp(&luck, c, p.r)
			if i%40 == 30 {
				o = drawCrash(&luck, p.r)
			}
			p.do(o)
		}
		conf, script := deep(c), []api.Op{opTick(), opOrder(1, -1), opTick()}
		r, got, _ := play.Play(conf, script)
		want, answers := wholeOf(c, r), slices.Clone(got)
		spoil(conf)
		spoil(script)
		stays(t, c, r, want)
		if !slices.Equal(got, answers) {
			t.Fatalf("%v, want %v", got, answers)
		}
		r.Do(opCrash(0, 0))
		b, _, _ := play.Play(c, []api.Op{opTick(), opOrder(1, -1), opTick(), opCrash(0, 0)})
		stays(t, c, r, wholeOf(c, b))
	}
}

// R3: what is answered is new memory, spare room too: to write into it turns nothing of the run, nor of what else is answered.
func TestAnswersAreNewMemory(t *testing.T) {
	var luck chance = 23
	for range 20 {
		c := drawConf(&luck)
		p := newPair(t, c)
		for range 80 {
			s, other := p.r.State(), p.r.State()
			kept := tight(s)
			spoil(other)
			same(t, s, kept)
			spoil(s)
			told, more := p.r.Told(), p.r.Told()
			was := slices.Clone(told)
			spoil(more)
			same(t, told, was)
			spoil(told)
			p.same()
			p.do(drawOp(&luck, c, p.r))
		}
	}
	r, l, _ := play.Play(yard(), []api.Op{opStop(), opHear(0, 0), opHear(0, 0)})
	_, m, _ := play.Play(yard(), []api.Op{opStop(), opHear(0, 0), opHear(0, 0)})
	was := wholeOf(yard(), r)
	spoil(l)
	if !slices.Equal(m, []api.Errno{0, 0, 0}) {
		t.Errorf("%v", m)
	}
	stays(t, yard(), r, was)
}

// R3: also of a dead hive.
func TestDeadStateIsNewMemory(t *testing.T) {
	r := made(t, yard())
	does(t, r, opOrder(9, 0), opTick())
	full(r)
	if e := r.Do(opStop()); e != api.ErrDead {
		t.Fatal(e)
	}
	s := r.State()
	kept := tight(s)
	spoil(s)
	same(t, r.State(), kept)
}

// R4: two runs have nothing in common: what is done to one turns nothing of the other, also of one made of the same config.
func TestRunsHaveNothingInCommon(t *testing.T) {
	var luck chance = 24
	for range 20 {
		c := drawConf(&luck)
		a, b := made(t, c), made(t, c)
		if a.World() == b.World() || a.Radio() == b.Radio() || a.Disk() == b.Disk() {
			t.Fatal("they share a part")
		}
		for range 6 {
			was := wholeOf(c, b)
			drawn(&luck, c, a, 30)
			stays(t, c, b, was)
			a, b = b, a
		}
	}
}
