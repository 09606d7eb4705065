package codec_test

import (
	"bytes"
	"fmt"
	"math"
	"math/big"
	"reflect"
	"runtime"
	"slices"
	"strings"
	"testing"

	"skep/api"
	"skep/codec"
)

// chance is numbers that look like any, the same at each run.
type chance uint64

func (c *chance) below(n int) int {
	*c = *c*6364136223846793005 + 1442695040888963407
	return int(uint64(*c)>>33) % n
}

func (c *chance) bytes(n int) []byte {
	out := make([]byte, n)
	for i := range out {
		out[i] = byte(c.below(256))
	}
	return out
}

// number is a number of any size, on either side of 0.
func (c *chance) number() int {
	v := int(uint64(c.below(1<<31))<<33 ^ uint64(c.below(1<<31))<<11 ^ uint64(c.below(1<<31)))
	return v >> c.below(64)
}

// edges is numbers at which the count of groups changes, powers of two and their neighbours, the least and the greatest.
func edges() []int {
	out := []int{0, 1, -1, 63, 64, -64, -65, math.MinInt, math.MinInt + 1, math.MaxInt, math.MaxInt - 1}
	for i := range 63 {
		p := 1 << i
		out = append(out, p-1, p, p+1, -p-1, -p, -p+1)
	}
	return out
}

// plainNumber is a number's bytes by the chapter's words, reckoned with numbers that have no end.
func plainNumber(v int) []byte {
	n := big.NewInt(int64(v))
	n.Mul(n, big.NewInt(2))
	if v < 0 {
		n.Neg(n)
		n.Sub(n, big.NewInt(1))
	}
	var out []byte
	for {
		group := new(big.Int)
		n.DivMod(n, big.NewInt(128), group)
		if n.Sign() == 0 {
			return append(out, byte(group.Int64()))
		}
		out = append(out, byte(group.Int64()+128))
	}
}

// plainGetNumber is the number at the beginning of b: whichever of the at most ten bytes there are a number's.
func plainGetNumber(b []byte) (int, int, bool) {
	n := new(big.Int)
	for i := 0; i < len(b) && i < 10; i++ {
		n.Add(n, new(big.Int).Lsh(big.NewInt(int64(b[i]%128)), uint(7*i)))
		if b[i] >= 128 {
			continue
		}
		half, odd := new(big.Int).DivMod(n, big.NewInt(2), new(big.Int))
		if odd.Sign() != 0 {
			half.Neg(half)
			half.Sub(half, big.NewInt(1))
		}
		if !half.IsInt64() || !bytes.Equal(plainNumber(int(half.Int64())), b[:i+1]) {
			return 0, 0, false
		}
		return int(half.Int64()), i + 1, true
	}
	return 0, 0, false
}

// fields is what each thing is made of, in the chapter's order.
var fields = map[string]string{
	"Cell":  "X Y",
	"Pose":  "At Down",
	"Move":  "Kind Dir N From To At End",
	"Event": "Kind A B Pose Moves",
	"Tele":  "Kind Robot Epoch Num Move Pose Load",
	"Op":    "Kind A B",
	"State": "Seq Epoch Held Stacks Robots Ports Orders Jobs NextOrder NextJob",
	"Stack": "At Bins",
	"Robot": "At Load Job Moves Out Num Stands",
	"Port":  "Bin Active Queue",
	"Order": "ID Bin Port State",
	"Job":   "ID Kind Order Bin From To Robot",
}

// each is a thing's fields, in the chapter's order.
func each(v reflect.Value) []reflect.Value {
	var out []reflect.Value
	for _, name := range strings.Fields(fields[v.Type().Name()]) {
		out = append(out, v.FieldByName(name))
	}
	if len(out) != v.NumField() {
		panic("fields of " + v.Type().Name())
	}
	return out
}

// plainPut is a thing's bytes by the chapter's words.
func plainPut(v reflect.Value) []byte {
	switch v.Kind() {
	case reflect.Int:
		return plainNumber(int(v.Int()))
	case reflect.Bool:
		if v.Bool() {
			return []byte{1}
		}
		return []byte{0}
	case reflect.Slice:
		out := plainNumber(v.Len())
		for i := range v.Len() {
			out = append(out, plainPut(v.Index(i))...)
		}
		return out
	}
	var out []byte
	for _, f := range each(v) {
		out = append(out, plainPut(f)...)
	}
	return out
}

// plainGet reads a thing into v, and answers how many bytes it has; below 0, if there is none.
func plainGet(b []byte, v reflect.Value) int {
	switch v.Kind() {
	case reflect.Int:
		n, size, ok := plainGetNumber(b)
		if !ok {
			return -1
		}
		v.SetInt(int64(n))
		return size
	case reflect.Bool:
		if len(b) == 0 || b[0] > 1 {
			return -1
		}
		v.SetBool(b[0] == 1)
		return 1
	case reflect.Slice:
		return plainGetList(b, v)
	}
	at := 0
	for _, f := range each(v) {
		n := plainGet(b[at:], f)
		if n < 0 {
			return -1
		}
		at += n
	}
	return at
}

// plainGetList reads a list into v.
func plainGetList(b []byte, v reflect.Value) int {
	n, at, ok := plainGetNumber(b)
	if !ok || n < 0 || n > len(b)-at {
		return -1
	}
	for range n {
		item := reflect.New(v.Type().Elem()).Elem()
		size := plainGet(b[at:], item)
		if size < 0 {
			return -1
		}
		v.Set(reflect.Append(v, item))
		at += size
	}
	return at
}

// alike tells whether two things are one, a nil list and an empty one taken as one.
func alike(a, b reflect.Value) bool {
	switch a.Kind() {
	case reflect.Slice:
		if a.Len() != b.Len() {
			return false
		}
		for i := range a.Len() {
			if !alike(a.Index(i), b.Index(i)) {
				return false
			}
		}
		return true
	case reflect.Struct:
		for i := range a.NumField() {
			if !alike(a.Field(i), b.Field(i)) {
				return false
			}
		}
		return true
	}
	return a.Equal(b)
}

// kind is one of the four kinds of things that are put and got whole.
type kind struct {
	name string
	typ  reflect.Type
	put  func(any) []byte
	get  func([]byte) (any, api.Errno)
}

func kindOf[T any](put func(T) []byte, get func([]byte) (T, api.Errno)) kind {
	typ := reflect.TypeFor[T]()
	return kind{
		name: typ.Name(),
		typ:  typ,
		put:  func(v any) []byte { return put(v.(T)) },
		get: func(b []byte) (any, api.Errno) {
			v, e := get(b)
			return v, e
		},
	}
}

// kinds is all of them.
func kinds() []kind {
	return []kind{
		kindOf(codec.PutEvent, codec.GetEvent),
		kindOf(codec.PutTele, codec.GetTele),
		kindOf(codec.PutOp, codec.GetOp),
		kindOf(codec.PutState, codec.GetState),
	}
}

// fill sets all of a thing: numbers by number, bools by flag, lists to as many as size tells.
func fill(v reflect.Value, number func() int, flag func() bool, size func() int) {
	switch v.Kind() {
	case reflect.Int:
		v.SetInt(int64(number()))
	case reflect.Bool:
		v.SetBool(flag())
	case reflect.Slice:
		n := size()
		v.Set(reflect.MakeSlice(v.Type(), n, n))
		for i := range n {
			fill(v.Index(i), number, flag, size)
		}
	default:
		for i := range v.NumField() {
			fill(v.Field(i), number, flag, size)
		}
	}
}

// count is a thing of which each number is another one, going up by step, each bool the other one than that ahead of it, each list of so many.
func (k kind) count(start, step, size int) any {
	v := reflect.New(k.typ).Elem()
	n, truth := start-step, false
	fill(v, func() int { n += step; return n }, func() bool { truth = !truth; return truth }, func() int { return size })
	return v.Interface()
}

// any is a thing with anything in it.
func (k kind) any(c *chance) any {
	v := reflect.New(k.typ).Elem()
	all := edges()
	number := func() int {
		switch c.below(3) {
		case 0:
			return c.below(20) - 5
		case 1:
			return all[c.below(len(all))]
		}
		return c.number()
	}
	fill(v, number, func() bool { return c.below(2) == 1 }, func() int { return c.below(4) })
	return v.Interface()
}

// zero is the zero thing.
func (k kind) zero() any { return reflect.Zero(k.typ).Interface() }

// refused fails unless these bytes are refused, with the zero thing.
func (k kind) refused(t *testing.T, b []byte) {
	t.Helper()
	v, e := k.get(b)
	if e != api.ErrBytes || !reflect.DeepEqual(v, k.zero()) {
		t.Fatalf("Get%s of % x: %v, error %d", k.name, b, v, e)
	}
}

// held holds what is got of any bytes against the chapter's words, and tells whether they were a thing's.
func (k kind) held(t *testing.T, b []byte) bool {
	t.Helper()
	want := reflect.New(k.typ).Elem()
	given := slices.Clone(b)
	if plainGet(b, want) != len(b) {
		k.refused(t, given)
		return false
	}
	v, e := k.get(given)
	if e != api.OK || !alike(reflect.ValueOf(v), want) {
		t.Fatalf("Get%s of % x: %v, error %d, want %v", k.name, b, v, e, want)
	}
	if !bytes.Equal(given, b) {
		t.Fatalf("Get%s of % x: the bytes are changed", k.name, b)
	}
	if again := k.put(v); !bytes.Equal(again, b) {
		t.Fatalf("Get%s of % x: put again as % x", k.name, b, again)
	}
	return true
}

// there holds a thing, put and got, against the chapter's words, and answers its bytes.
func (k kind) there(t *testing.T, v any) []byte {
	t.Helper()
	b := k.put(v)
	if want := plainPut(reflect.ValueOf(v)); !bytes.Equal(b, want) {
		t.Fatalf("Put%s of %v: % x, want % x", k.name, v, b, want)
	}
	got, e := k.get(b)
	if e != api.OK || !alike(reflect.ValueOf(got), reflect.ValueOf(v)) {
		t.Fatalf("Get%s of % x: %v, error %d, want %v", k.name, b, got, e, v)
	}
	return b
}

// things is things of a kind: zero, all set on both sides of 0, with lists of none, one and many, and with edges in them.
func (k kind) things() []any {
	out := []any{k.zero()}
	for size := range 4 {
		out = append(out, k.count(1, 1, size), k.count(-1, -1, size), k.count(-40, 3, size), k.count(60, 70, size), k.count(math.MinInt, 1, size), k.count(math.MaxInt, -1, size), k.count(1<<40, 1<<35, size))
	}
	c := chance(11)
	for range 20 {
		out = append(out, k.any(&c))
	}
	return out
}

// roomy is b with spare room behind it that is not zero.
func roomy(b []byte) []byte {
	out := append(slices.Clone(b), bytes.Repeat([]byte{0xa5}, 40)...)
	return out[:len(b)]
}

// spoil turns all of b, spare room too.
func spoil(b []byte) {
	b = b[:cap(b)]
	for i := range b {
		b[i] ^= 0xff
	}
}

// gotNumber fails unless the number at a place is the one wanted.
func gotNumber(t *testing.T, b []byte, at, v, next int, ok bool) {
	t.Helper()
	if gv, gn, gok := codec.GetNumber(b, at); gv != v || gn != next || gok != ok {
		t.Fatalf("GetNumber(% x, %d): %d, %d, %v, want %d, %d, %v", b, at, gv, gn, gok, v, next, ok)
	}
}

// P5.1: the chapter's examples, and others, byte by byte.
func TestNumberExamples(t *testing.T) {
	for _, x := range []struct {
		v    int
		want string
	}{
		{-1, "01"}, {64, "80 01"},
		{0, "00"}, {1, "02"}, {-2, "03"}, {2, "04"}, {63, "7e"}, {-64, "7f"}, {-65, "81 01"}, {65, "82 01"}, {300, "d8 04"},
		{8191, "fe 7f"}, {-8192, "ff 7f"}, {8192, "80 80 01"}, {-8193, "81 80 01"},
		{1 << 40, "80 80 80 80 80 40"}, {-1 << 40, "ff ff ff ff ff 3f"},
		{1<<62 - 1, "fe ff ff ff ff ff ff ff 7f"}, {-1 << 62, "ff ff ff ff ff ff ff ff 7f"},
		{1 << 62, "80 80 80 80 80 80 80 80 80 01"}, {-1<<62 - 1, "81 80 80 80 80 80 80 80 80 01"},
		{math.MaxInt, "fe ff ff ff ff ff ff ff ff 01"}, {math.MinInt, "ff ff ff ff ff ff ff ff ff 01"},
	} {
		if got := fmt.Sprintf("% x", codec.PutNumber(nil, x.v)); got != x.want {
			t.Errorf("PutNumber(nil, %d): %s, want %s", x.v, got, x.want)
		}
		b := plainNumber(x.v)
		if got := fmt.Sprintf("% x", b); got != x.want {
			t.Fatalf("the chapter's words at %d: %s, want %s", x.v, got, x.want)
		}
		gotNumber(t, b, 0, x.v, len(b), true)
	}
}

// P5.1: the edges, behind no bytes and behind some, and got from there.
func TestNumberEdges(t *testing.T) {
	for _, v := range edges() {
		want := plainNumber(v)
		for _, head := range []string{"", "x", "\x80", "\xff\xff", "\x00\x00\x00", strings.Repeat("long", 100)} {
			b := codec.PutNumber([]byte(head), v)
			if string(b) != head+string(want) {
				t.Fatalf("PutNumber(% x, %d): % x", head, v, b)
			}
			gotNumber(t, b, len(head), v, len(b), true)
			gotNumber(t, append(b, 0x80, 1), len(head), v, len(b), true)
			for cut := range len(want) {
				gotNumber(t, b[:len(head)+cut], len(head), 0, 0, false)
			}
		}
	}
}

// P5.1: any number.
func TestNumberAny(t *testing.T) {
	c := chance(1)
	for range 20000 {
		v := c.number()
		b := codec.PutNumber(nil, v)
		if !bytes.Equal(b, plainNumber(v)) {
			t.Fatalf("PutNumber(nil, %d): % x", v, b)
		}
		gotNumber(t, b, 0, v, len(b), true)
	}
}

// P5.1, R3: what is told is new memory, and what was handed in stays, spare room too.
func TestPutNumberMemory(t *testing.T) {
	for _, head := range []string{"", "a", "abcdef", strings.Repeat("long", 100)} {
		for _, v := range []int{0, -1, 64, 1 << 40, math.MinInt, math.MaxInt} {
			want := head + string(plainNumber(v))
			given := roomy([]byte(head))
			first, second := codec.PutNumber(given, v), codec.PutNumber(given, v)
			if all := given[:cap(given)]; string(all[:len(head)+40]) != head+strings.Repeat("\xa5", 40) {
				t.Fatalf("PutNumber(%q, %d): changed: % x", head, v, all)
			}
			spoil(first)
			if string(given) != head || string(second) != want {
				t.Fatalf("PutNumber(%q, %d): shared", head, v)
			}
			spoil(given)
			if string(second) != want {
				t.Fatalf("PutNumber(%q, %d): kept", head, v)
			}
		}
	}
}

// P5.1: numbers put one behind the other are got one behind the other.
func TestNumbersBehind(t *testing.T) {
	var b []byte
	for _, v := range edges() {
		b = codec.PutNumber(b, v)
	}
	at := 0
	for _, v := range edges() {
		next := at + len(plainNumber(v))
		gotNumber(t, b, at, v, next, true)
		at = next
	}
	gotNumber(t, b, at, 0, 0, false)
}

// P5.1: places below 0, at the end and behind it.
func TestGetNumberPlaces(t *testing.T) {
	for _, b := range [][]byte{nil, {}, {0}, {0, 0, 0}, {0x80, 1}, {2, 4, 6, 8, 10}, roomy([]byte{2, 4})} {
		for _, at := range []int{-1, -2, -len(b) - 1, -1 << 40, math.MinInt, math.MinInt + 1, len(b), len(b) + 1, len(b) + 2, 1 << 40, math.MaxInt, math.MaxInt - 1} {
			gotNumber(t, b, at, 0, 0, false)
		}
	}
}

// P5.1: at each place of any bytes.
func TestGetNumberAnywhere(t *testing.T) {
	c := chance(2)
	pool := []byte{0, 1, 2, 0x7f, 0x80, 0x81, 0xff, 0xff, 0xff, 0x80, 0x80}
	for i := range 3000 {
		b := c.bytes(30)
		if i%2 == 0 {
			for j := range b {
				b[j] = pool[c.below(len(pool))]
			}
		}
		for at := range b {
			v, size, ok := plainGetNumber(b[at:])
			if ok {
				size += at
			}
			gotNumber(t, b, at, v, size, ok)
		}
	}
	for i := range 1 << 16 {
		b := []byte{byte(i), byte(i >> 8)}
		v, size, ok := plainGetNumber(b)
		gotNumber(t, b, 0, v, size, ok)
	}
}

// P5.1: groups more than are needed; a tenth group of 0, 1 and more; an eleventh; numbers that are cut off.
func TestGetNumberNone(t *testing.T) {
	for n := 1; n <= 12; n++ {
		for _, c := range []byte{0x80, 0x81, 0xff} {
			head := bytes.Repeat([]byte{c}, n)
			gotNumber(t, head, 0, 0, 0, false)
			gotNumber(t, append(slices.Clone(head), 0), 0, 0, 0, false)
			gotNumber(t, append(slices.Clone(head), 0, 0), 0, 0, 0, false)
		}
	}
	nine := bytes.Repeat([]byte{0xff}, 9)
	for tenth := range 256 {
		b := append(slices.Clone(nine), byte(tenth))
		if tenth == 1 {
			gotNumber(t, b, 0, math.MinInt, 10, true)
			continue
		}
		gotNumber(t, b, 0, 0, 0, false)
		gotNumber(t, append(b, 1), 0, 0, 0, false)
		gotNumber(t, append(b, 0), 0, 0, 0, false)
	}
	for _, v := range edges() {
		b := plainNumber(v)
		b[len(b)-1] |= 0x80
		gotNumber(t, append(b, 0), 0, 0, 0, false)
	}
}

// P5.1, R3: GetNumber leaves the bytes, and asks for none in the spare room.
func TestGetNumberMemory(t *testing.T) {
	b := append([]byte{0x80, 0x80}, 1)
	gotNumber(t, b[:2], 0, 0, 0, false)
	gotNumber(t, b[:0], 0, 0, 0, false)
	gotNumber(t, b[:2], 2, 0, 0, false)
	gotNumber(t, b, 0, 8192, 3, true)
	if !bytes.Equal(b, []byte{0x80, 0x80, 1}) {
		t.Errorf("% x", b)
	}
}

// P5.2: an operation and a telegram, byte by byte.
func TestPutByHand(t *testing.T) {
	op := []struct {
		o    api.Op
		want string
	}{
		{api.Op{Kind: 1}, "02 00 00"},
		{api.Op{}, "00 00 00"},
		{api.Op{Kind: 1, A: 2, B: 3}, "02 04 06"},
		{api.Op{Kind: -1, A: 64, B: -65}, "01 80 01 81 01"},
	}
	for _, x := range op {
		if got := fmt.Sprintf("% x", codec.PutOp(x.o)); got != x.want {
			t.Errorf("PutOp of %v: %s, want %s", x.o, got, x.want)
		}
	}
	te := api.Tele{Kind: 1, Robot: 2, Epoch: 3, Num: 4, Move: handMove(5), Pose: api.Pose{At: api.Cell{X: 14, Y: 15}, Down: true}, Load: 16}
	want := "02 04 06 08 0a 0c 0e 10 12 01 14 16 00 18 1a 1c 1e 01 20"
	if got := fmt.Sprintf("% x", codec.PutTele(te)); got != want {
		t.Errorf("PutTele: %s, want %s", got, want)
	}
}

// handMove is a move whose numbers go up from first on.
func handMove(first int) api.Move {
	return api.Move{
		Kind: first, Dir: first + 1, N: first + 2,
		From: api.Pose{At: api.Cell{X: first + 3, Y: first + 4}, Down: true},
		To:   api.Pose{At: api.Cell{X: first + 5, Y: first + 6}},
		At:   first + 7, End: first + 8,
	}
}

// P5.2: an event and a state, byte by byte.
func TestPutByHandLists(t *testing.T) {
	ev := api.Event{Kind: 1, A: 2, B: 3, Pose: api.Pose{At: api.Cell{X: 4, Y: 5}, Down: true}, Moves: []api.Move{handMove(6), handMove(16)}}
	want := "02 04 06 08 0a 01 04 0c 0e 10 12 14 01 16 18 00 1a 1c 20 22 24 26 28 01 2a 2c 00 2e 30"
	if got := fmt.Sprintf("% x", codec.PutEvent(ev)); got != want {
		t.Errorf("PutEvent: %s, want %s", got, want)
	}
	s := api.State{
		Seq: 1, Epoch: 2, Held: true,
		Stacks: []api.Stack{{At: api.Cell{X: 3, Y: 4}, Bins: []int{5, 6}}, {}},
		Robots: []api.Robot{{At: api.Pose{At: api.Cell{X: 7, Y: 8}, Down: true}, Load: 9, Job: 10, Moves: []api.Move{handMove(11)}, Num: 20, Stands: true}},
		Ports:  []api.Port{{Bin: 21, Active: 22, Queue: []int{23}}},
		Orders: []api.Order{{ID: 24, Bin: 25, Port: 26, State: 27}},
		Jobs:   []api.Job{{ID: 28, Kind: 29, Order: 30, Bin: 31, From: api.Cell{X: 32, Y: 33}, To: api.Cell{X: 34, Y: 35}, Robot: 36}},

		NextOrder: 37, NextJob: 38,
	}
	want = "02 04 01" +
		" 04 06 08 04 0a 0c 00 00 00" +
		" 02 0e 10 01 12 14 02 16 18 1a 1c 1e 01 20 22 00 24 26 00 28 01" +
		" 02 2a 2c 02 2e" +
		" 02 30 32 34 36" +
		" 02 38 3a 3c 3e 40 42 44 46 48" +
		" 4a 4c"
	if got := fmt.Sprintf("% x", codec.PutState(s)); got != want {
		t.Errorf("PutState: %s, want %s", got, want)
	}
	for _, b := range [][]byte{codec.PutEvent(api.Event{}), codec.PutTele(api.Tele{}), codec.PutState(api.State{})} {
		if slices.Max(b) != 0 {
			t.Errorf("a zero thing: % x", b)
		}
	}
	if a, b, c := len(codec.PutEvent(api.Event{})), len(codec.PutTele(api.Tele{})), len(codec.PutState(api.State{})); a != 7 || b != 19 || c != 10 {
		t.Errorf("zero things: %d, %d, %d bytes", a, b, c)
	}
}

// P5.2, P5.3: things of all kinds are put by the chapter's words, and got.
func TestThings(t *testing.T) {
	for _, k := range kinds() {
		for _, v := range k.things() {
			k.there(t, v)
		}
		c := chance(3)
		for range 500 {
			k.there(t, k.any(&c))
		}
	}
}

// P5.2, P5.3: one field set, all others zero: each has its own place.
func TestEachField(t *testing.T) {
	for _, k := range kinds() {
		n := len(k.put(k.zero()))
		if k.name == "State" {
			n = 80
		}
		for i := range n {
			for _, x := range []int{1, -1, 64, math.MinInt, math.MaxInt} {
				v := reflect.New(k.typ).Elem()
				at, truth := -1, -1
				fill(v, func() int {
					at++
					if at == i {
						return x
					}
					return 0
				}, func() bool { truth++; return truth == i }, func() int { return 1 })
				k.there(t, v.Interface())
			}
		}
	}
}

// P5.2, P5.3: long lists, so long that how many they have takes more than one byte.
func TestLongLists(t *testing.T) {
	for _, n := range []int{63, 64, 65, 5000, 8191, 8192} {
		k := kinds()[0]
		v := api.Event{Kind: api.EvPlan, Moves: make([]api.Move, n)}
		for i := range v.Moves {
			v.Moves[i] = handMove(i)
		}
		b := k.there(t, v)
		for _, cut := range []int{0, 7, 8, 9, len(b) / 2, len(b) - 1} {
			k.refused(t, b[:cut])
		}
		k = kinds()[3]
		s := api.State{Stacks: make([]api.Stack, n), Robots: make([]api.Robot, n), Ports: make([]api.Port, n), Orders: make([]api.Order, n), Jobs: make([]api.Job, n)}
		for i := range n {
			s.Stacks[i].At.X, s.Robots[i].Load, s.Ports[i].Bin, s.Orders[i].ID, s.Jobs[i].Robot = i, i, i, i, i
		}
		s.Stacks[n/2].Bins = make([]int, n)
		s.Robots[n/2].Moves = v.Moves
		s.Ports[n/2].Queue = make([]int, n)
		b = k.there(t, s)
		for _, cut := range []int{0, 7, 8, 9, len(b) / 2, len(b) - 1} {
			k.refused(t, b[:cut])
		}
	}
}

// P5.2, R3: nil and an empty list are one.
func TestEmptyLists(t *testing.T) {
	e := api.Event{Kind: 1, Moves: []api.Move{}}
	if a, b := codec.PutEvent(e), codec.PutEvent(api.Event{Kind: 1}); !bytes.Equal(a, b) {
		t.Errorf("% x, % x", a, b)
	}
	s := api.State{Stacks: []api.Stack{}, Robots: []api.Robot{}, Ports: []api.Port{}, Orders: []api.Order{}, Jobs: []api.Job{}}
	if a, b := codec.PutState(s), codec.PutState(api.State{}); !bytes.Equal(a, b) {
		t.Errorf("% x, % x", a, b)
	}
	s = api.State{Stacks: []api.Stack{{Bins: []int{}}}, Robots: []api.Robot{{Moves: []api.Move{}}}, Ports: []api.Port{{Queue: []int{}}}}
	if a, b := codec.PutState(s), codec.PutState(api.State{Stacks: make([]api.Stack, 1), Robots: make([]api.Robot, 1), Ports: make([]api.Port, 1)}); !bytes.Equal(a, b) {
		t.Errorf("% x, % x", a, b)
	}
}

// P5.3: cut at each of its bytes, or with bytes behind, a thing is refused.
func TestCutAndBehind(t *testing.T) {
	for _, k := range kinds() {
		for _, v := range k.things() {
			b := k.there(t, v)
			for cut := range b {
				k.refused(t, b[:cut])
				k.refused(t, slices.Clone(b[:cut]))
			}
			for cut := 1; cut <= len(b); cut += 1 + len(b)/50 {
				k.held(t, b[cut:])
			}
			for behind := range 256 {
				k.refused(t, append(slices.Clone(b), byte(behind)))
			}
			k.refused(t, append(slices.Clone(b), b...))
			k.refused(t, append(slices.Clone(b), make([]byte, 100)...))
		}
	}
}

// P5.2: nothing at all, nil and empty, and bytes in the spare room, are refused.
func TestNoBytes(t *testing.T) {
	for _, k := range kinds() {
		k.refused(t, nil)
		k.refused(t, []byte{})
		k.refused(t, k.put(k.zero())[:0])
	}
}

// P5.2: each byte of a thing in each other way; a bool's byte is 0 or 1.
func TestTurned(t *testing.T) {
	for _, k := range kinds() {
		for _, v := range []any{k.zero(), k.count(1, 1, 0), k.count(-30, 7, 1), k.count(5, -40, 1)} {
			b := k.there(t, v)
			for i := range b {
				was := b[i]
				for turn := range 256 {
					b[i] = byte(turn)
					k.held(t, b)
				}
				b[i] = was
			}
		}
	}
}

// P5.2: a bool's byte of 0, 1 and more, at each of a thing's bools.
func TestBools(t *testing.T) {
	at := map[string][]int{
		"Event": {5},
		"Tele":  {9, 12, 17},
		"State": {2, 7, 11, 13},
	}
	for _, k := range kinds() {
		b := k.put(k.zero())
		if k.name == "State" {
			b = k.put(api.State{Robots: make([]api.Robot, 1)})
		}
		for _, i := range at[k.name] {
			for turn := range 256 {
				b[i] = byte(turn)
				if k.held(t, b) != (turn < 2) {
					t.Fatalf("Get%s: a byte of %d at %d", k.name, turn, i)
				}
			}
			b[i] = 0
		}
	}
}

// P5.2: how many a list says it has: fewer than 0, none, as many as there are bytes left, one more, and far more.
func TestListCounts(t *testing.T) {
	for _, left := range []int{0, 1, 2, 10, 11, 12, 13, 33, 70} {
		tail := make([]byte, left)
		counts := append(edges(), left-1, left, left+1, left/3, left/4, left/11, -left)
		for _, n := range counts {
			number := plainNumber(n)
			event := slices.Concat(make([]byte, 6), number, tail)
			if kinds()[0].held(t, event) != (n >= 0 && n <= left && 11*n == left) {
				t.Fatalf("a list of %d moves in %d bytes", n, left)
			}
			for ahead := 3; ahead < 11; ahead++ {
				kinds()[3].held(t, slices.Concat(make([]byte, ahead), number, tail))
			}
		}
	}
}

// P5.2: a list in a list: bins, moves and a queue with counts that are none.
func TestInnerListCounts(t *testing.T) {
	heads := [][]byte{
		{0, 0, 0, 2, 0, 0},
		{0, 0, 0, 0, 2, 0, 0, 0, 0, 0},
		{0, 0, 0, 0, 0, 2, 0, 0},
	}
	k := kinds()[3]
	for i, head := range heads {
		there := 0
		for _, left := range []int{5, 6, 7, 8, 9, 16, 20, 30} {
			for _, n := range append(edges(), left, left+1, left-1, left-5, left-6, left-7) {
				if k.held(t, slices.Concat(head, plainNumber(n), make([]byte, left))) {
					there++
				}
			}
		}
		if there == 0 {
			t.Errorf("list %d: no count was taken", i)
		}
	}
}

// P5.2: items that need as many bytes as there are: as many items as bytes left is taken, where something stands behind the list it is not.
func TestListOfAllBytesLeft(t *testing.T) {
	k := kinds()[3]
	for n := range 20 {
		bins := slices.Concat([]byte{0, 0, 0, 2, 0, 0}, plainNumber(n), make([]byte, n))
		k.refused(t, bins)
		if !k.held(t, append(bins, 0, 0, 0, 0, 0, 0)) {
			t.Errorf("%d bins", n)
		}
	}
}

// P5.2: a list that says it has far more than there are asks for no room ahead of its items.
func TestListClaims(t *testing.T) {
	left := 1 << 21
	b := slices.Concat(make([]byte, 6), plainNumber(left), bytes.Repeat([]byte{0x80}, left))
	var before, after runtime.MemStats
	runtime.ReadMemStats(&before)
	_, e := codec.GetEvent(b)
	runtime.ReadMemStats(&after)
	if room := after.TotalAlloc - before.TotalAlloc; e != api.ErrBytes || room > 1<<20 {
		t.Errorf("error %d, %d bytes of room", e, room)
	}
}

// P5.2: any bytes, and bytes that are nearly a thing's.
func TestAnyBytes(t *testing.T) {
	for _, k := range kinds() {
		c := chance(5)
		taken := 0
		for range 4000 {
			b := c.bytes(c.below(40))
			k.held(t, b)
			for i := range b {
				b[i] &= 3
			}
			if k.held(t, b) {
				taken++
			}
			b = k.put(k.any(&c))
			switch c.below(4) {
			case 0:
				b[c.below(len(b))] = byte(c.below(256))
			case 1:
				b = slices.Delete(b, 0, 1+c.below(len(b)))
			case 2:
				b = slices.Insert(b, c.below(len(b)), byte(c.below(256)))
			case 3:
				i := c.below(len(b))
				b = slices.Delete(b, i, i+1)
			}
			if k.held(t, b) {
				taken++
			}
		}
		if taken == 0 {
			t.Errorf("%s: none was taken", k.name)
		}
	}
}

// P5.2: all short bytes of few values.
func TestAllShortBytes(t *testing.T) {
	values := []byte{0, 1, 2, 0x80}
	for _, k := range kinds() {
		for n := range 8 {
			b := make([]byte, n)
			for i := range 1 << (2 * n) {
				for j := range b {
					b[j] = values[i>>(2*j)&3]
				}
				k.held(t, b)
			}
		}
	}
}

// P5.2, R3: what is put leaves the lists, spare room too, and two puts share nothing.
func TestPutMemory(t *testing.T) {
	for _, k := range kinds() {
		for _, v := range k.things() {
			want := plainPut(reflect.ValueOf(v))
			first, second := k.put(v), k.put(v)
			spoil(first)
			if !bytes.Equal(second, want) || !bytes.Equal(plainPut(reflect.ValueOf(v)), want) {
				t.Fatalf("Put%s of %v: shared", k.name, v)
			}
		}
	}
	bins := append([]int{1, 2}, 3)[:2]
	moves := []api.Move{handMove(1), handMove(2)}[:1]
	codec.PutState(api.State{Stacks: []api.Stack{{Bins: bins}}, Robots: []api.Robot{{Moves: moves}}, Ports: []api.Port{{Queue: bins}}})
	codec.PutEvent(api.Event{Moves: moves})
	if !slices.Equal(bins[:3], []int{1, 2, 3}) || moves[:2][1] != handMove(2) {
		t.Error("the spare room is changed")
	}
}

// lists is all lists in a thing.
func lists(v reflect.Value) []reflect.Value {
	var out []reflect.Value
	switch v.Kind() {
	case reflect.Struct:
		for i := range v.NumField() {
			out = append(out, lists(v.Field(i))...)
		}
	case reflect.Slice:
		out = append(out, v)
		for i := range v.Len() {
			out = append(out, lists(v.Index(i))...)
		}
	}
	return out
}

// P5.2, R3: what is got is new memory: of no bytes handed in, of nothing got before, and no two of its lists share any, spare room too.
func TestGetMemory(t *testing.T) {
	for _, k := range kinds() {
		for _, v := range k.things() {
			want := k.put(v)
			b := roomy(want)
			first, e := k.get(b)
			second, f := k.get(b)
			if e != api.OK || f != api.OK {
				t.Fatalf("Get%s: errors %d, %d", k.name, e, f)
			}
			spoil(b)
			if !bytes.Equal(k.put(first), want) || !bytes.Equal(k.put(second), want) {
				t.Fatalf("Get%s: the bytes are kept", k.name)
			}
			apart(t, append(lists(reflect.ValueOf(first)), lists(reflect.ValueOf(second))...))
		}
	}
}

// apart fails if two lists share memory, spare room too.
func apart(t *testing.T, all []reflect.Value) {
	t.Helper()
	type span struct{ from, to uintptr }
	var spans []span
	for _, l := range all {
		if l.Cap() > 0 {
			from := l.Pointer()
			spans = append(spans, span{from, from + uintptr(l.Cap())*l.Type().Elem().Size()})
		}
	}
	slices.SortFunc(spans, func(a, b span) int {
		if a.from < b.from {
			return -1
		}
		return 1
	})
	for i := 1; i < len(spans); i++ {
		if spans[i].from < spans[i-1].to {
			t.Fatal("two lists share memory")
		}
	}
}

// R4: what was refused leaves nothing behind for the next call.
func TestRefusedLeavesNothing(t *testing.T) {
	for _, k := range kinds() {
		v := k.count(1, 1, 2)
		b := k.there(t, v)
		for cut := range b {
			k.refused(t, b[:cut])
			k.there(t, v)
		}
	}
}
