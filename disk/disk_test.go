package disk_test

import (
	"bytes"
	"math"
	"testing"

	"skep/api"
	"skep/disk"
)

// noFiles is numbers of files that are none.
var noFiles = []int{-1, 2, 3, -2, 9, 1 << 40, -1 << 40, math.MinInt, math.MaxInt}

// unit is one pending unit as P3.2 says it: a byte behind, or a cut to size.
type unit struct {
	cut  bool
	size int
	b    byte
}

// plain is a file by the chapter's words: what was certain, and each unit by itself.
type plain struct {
	certain []byte
	units   []unit
}

// behind is what was certain with the first n units done.
func (p *plain) behind(n int) []byte {
	out := append([]byte{}, p.certain...)
	for i, u := range p.units {
		if i >= n {
			break
		}
		if u.cut {
			out = append([]byte{}, out[:u.size]...)
		} else {
			out = append(out, u.b)
		}
	}
	return out
}

func (p *plain) now() []byte { return p.behind(len(p.units)) }

func (p *plain) append(b []byte) {
	for _, c := range b {
		p.units = append(p.units, unit{b: c})
	}
}

func (p *plain) cut(size int) { p.units = append(p.units, unit{cut: true, size: size}) }

func (p *plain) sync() { *p = plain{certain: p.now()} }

// crashed is the plain files of a disk that comes of Crash(a, b).
func crashed(files [2]*plain, a, b int) [2]*plain {
	return [2]*plain{{certain: files[0].behind(a)}, {certain: files[1].behind(b)}}
}

// chance is numbers that look like any, the same at each run.
type chance uint64

func (c *chance) below(n int) int {
	*c = *c*6364136223846793005 + 1442695040888963407
	return int(uint64(*c)>>33) % n
}

func (c *chance) bytes(n int) []byte {
	out := make([]byte, n)
	for i := range out {
		out[i] = byte(c.below(256))
	}
	return out
}

// must fails unless the calls were all taken.
func must(t *testing.T, errs ...api.Errno) {
	t.Helper()
	for i, e := range errs {
		if e != api.OK {
			t.Fatalf("call %d: error %d", i, e)
		}
	}
}

// file fails unless a file has these bytes and so many units pending.
func file(t *testing.T, d *disk.Disk, file int, want string, pending int) {
	t.Helper()
	if got := d.Read(file); string(got) != want {
		t.Fatalf("file %d: bytes %q, want %q", file, got, want)
	}
	if got := d.Size(file); got != len(want) {
		t.Fatalf("file %d: size %d, want %d", file, got, len(want))
	}
	if got := d.Pending(file); got != pending {
		t.Fatalf("file %d: pending %d, want %d", file, got, pending)
	}
}

// same fails unless a disk's files are the plain ones.
func same(t *testing.T, d *disk.Disk, files [2]*plain) {
	t.Helper()
	for i, p := range files {
		file(t, d, i, string(p.now()), len(p.units))
	}
}

// P3.1, P3.2: a new disk's files are empty, and nothing is pending.
func TestNew(t *testing.T) {
	d := disk.New()
	for i := range 2 {
		file(t, d, i, "", 0)
		must(t, d.Sync(i), d.Append(i, nil), d.Append(i, []byte{}))
		file(t, d, i, "", 0)
	}
	for _, n := range []int{-1, 0, 1, math.MinInt, math.MaxInt} {
		c := disk.New().Crash(n, n)
		file(t, c, 0, "", 0)
		file(t, c, 1, "", 0)
	}
}

// P3.1: bytes stand behind those that were there, in each file by itself.
func TestAppend(t *testing.T) {
	for i := range 2 {
		d := disk.New()
		must(t, d.Append(i, []byte("ab")))
		file(t, d, i, "ab", 2)
		must(t, d.Append(i, nil))
		file(t, d, i, "ab", 2)
		must(t, d.Append(i, []byte("c\x00\xff")))
		file(t, d, i, "abc\x00\xff", 5)
		must(t, d.Sync(i), d.Append(i, []byte("d")))
		file(t, d, i, "abc\x00\xffd", 1)
		file(t, d, 1-i, "", 0)
	}
}

// P3.1: a file that is none is refused, whatever else is asked, and nothing is turned.
func TestNoFile(t *testing.T) {
	d := disk.New()
	must(t, d.Append(0, []byte("abc")), d.Append(1, []byte("de")), d.Sync(1), d.Cut(1, 1))
	for _, i := range noFiles {
		for _, b := range [][]byte{nil, {}, []byte("x"), make([]byte, api.MaxLog+1)} {
			if e := d.Append(i, b); e != api.ErrArg {
				t.Errorf("Append(%d, %d bytes): %d", i, len(b), e)
			}
		}
		for _, size := range []int{math.MinInt, -1, 0, 1, 2, math.MaxInt} {
			if e := d.Cut(i, size); e != api.ErrArg {
				t.Errorf("Cut(%d, %d): %d", i, size, e)
			}
		}
		if e := d.Sync(i); e != api.ErrArg {
			t.Errorf("Sync(%d): %d", i, e)
		}
		if b, size, n := d.Read(i), d.Size(i), d.Pending(i); len(b) != 0 || size != 0 || n != 0 {
			t.Errorf("file %d: %d bytes, size %d, pending %d", i, len(b), size, n)
		}
	}
	file(t, d, 0, "abc", 3)
	file(t, d, 1, "d", 1)
	file(t, d.Crash(0, 0), 0, "", 0)
	file(t, d.Crash(0, 0), 1, "de", 0)
}

// P3.1: a cut at each size, below 0 and above Size; what is refused is no unit.
func TestCut(t *testing.T) {
	const text = "abcdef"
	for i := range 2 {
		for _, sync := range []bool{false, true} {
			for size := -3; size <= len(text)+3; size++ {
				d := disk.New()
				must(t, d.Append(i, []byte(text)))
				units := len(text)
				if sync {
					must(t, d.Sync(i))
					units = 0
				}
				if size < 0 || size > len(text) {
					if e := d.Cut(i, size); e != api.ErrArg {
						t.Errorf("Cut(%d, %d): %d", i, size, e)
					}
					file(t, d, i, text, units)
					continue
				}
				must(t, d.Cut(i, size))
				file(t, d, i, text[:size], units+1)
				file(t, d, 1-i, "", 0)
			}
		}
	}
}

// P3.1: what may be cut is what stands now, not what is certain nor what once stood.
func TestCutAtSizeNow(t *testing.T) {
	d := disk.New()
	if d.Cut(0, 1) != api.ErrArg || d.Cut(0, math.MaxInt) != api.ErrArg || d.Cut(0, math.MinInt) != api.ErrArg {
		t.Error("an empty file is cut")
	}
	must(t, d.Cut(0, 0))
	file(t, d, 0, "", 1)
	must(t, d.Append(0, []byte("abcd")), d.Sync(0), d.Cut(0, 2))
	if d.Cut(0, 3) != api.ErrArg {
		t.Error("cut at a size that was certain, and is no more")
	}
	file(t, d, 0, "ab", 1)
	must(t, d.Append(0, []byte("XYZ")), d.Cut(0, 5), d.Cut(0, 4))
	file(t, d, 0, "abXY", 6)
	if d.Cut(0, 5) != api.ErrArg {
		t.Error("cut at a size that once stood")
	}
	must(t, d.Cut(0, 0), d.Cut(0, 0))
	file(t, d, 0, "", 8)
}

// P3.1: a file holds MaxLog bytes and not one more; a refused Append turns nothing.
func TestFull(t *testing.T) {
	whole := make([]byte, api.MaxLog+1)
	for i := range whole {
		whole[i] = byte(i * 7)
	}
	for i := range 2 {
		d := disk.New()
		if e := d.Append(i, whole); e != api.ErrFull {
			t.Fatalf("Append of MaxLog+1: %d", e)
		}
		file(t, d, i, "", 0)
		must(t, d.Append(i, whole[:api.MaxLog]))
		full(t, d, i, whole[:api.MaxLog], api.MaxLog)
		must(t, d.Sync(i))
		full(t, d, i, whole[:api.MaxLog], 0)
		must(t, d.Cut(i, api.MaxLog-3))
		if e := d.Append(i, []byte("wxyz")); e != api.ErrFull {
			t.Fatalf("Append of 4 where 3 have room: %d", e)
		}
		must(t, d.Append(i, []byte("xyz")))
		full(t, d, i, append(bytes.Clone(whole[:api.MaxLog-3]), "xyz"...), 4)
		must(t, d.Append(1-i, []byte("a")))
		file(t, d, 1-i, "a", 1)
	}
}

// full fails unless a full file has these bytes, takes no byte more, and takes no bytes.
func full(t *testing.T, d *disk.Disk, file int, want []byte, pending int) {
	t.Helper()
	if e := d.Append(file, []byte{1}); e != api.ErrFull {
		t.Fatalf("Append of one byte more: %d", e)
	}
	if e := d.Append(file, want); e != api.ErrFull {
		t.Fatalf("Append of as many again: %d", e)
	}
	must(t, d.Append(file, nil))
	if !bytes.Equal(d.Read(file), want) || d.Size(file) != len(want) || d.Pending(file) != pending {
		t.Fatalf("size %d, pending %d", d.Size(file), d.Pending(file))
	}
}

// P3.1: MaxLog is reached by small Appends too, and behind a crash holds as before.
func TestFullBySteps(t *testing.T) {
	const step = 1 << 20
	d := disk.New()
	for range api.MaxLog/step - 1 {
		must(t, d.Append(0, make([]byte, step)))
	}
	must(t, d.Append(0, make([]byte, step-1)))
	if d.Append(0, []byte("ab")) != api.ErrFull {
		t.Error("two bytes where one has room")
	}
	c := d.Crash(math.MaxInt, 0)
	must(t, c.Append(0, []byte("a")), d.Append(0, []byte("b")))
	if c.Append(0, []byte("c")) != api.ErrFull || d.Append(0, []byte("d")) != api.ErrFull {
		t.Error("a byte above MaxLog")
	}
	if c.Size(0) != api.MaxLog || d.Size(0) != api.MaxLog || c.Pending(0) != 1 || d.Pending(0) != api.MaxLog {
		t.Error(c.Size(0), d.Size(0), c.Pending(0), d.Pending(0))
	}
	short := d.Crash(10, 0)
	must(t, short.Append(0, make([]byte, api.MaxLog-10)))
	if short.Append(0, []byte("a")) != api.ErrFull {
		t.Error("a byte above MaxLog behind a crash")
	}
}

// P3.1: small pieces, very many of them, are taken in bearable time and room, certain or not.
func TestManySmall(t *testing.T) {
	pending, certain := disk.New(), disk.New()
	for i := range 300000 {
		b := []byte{byte(i), byte(i >> 8)}
		must(t, pending.Append(0, b), certain.Append(1, b), certain.Sync(1))
	}
	a, b := pending.Read(0), certain.Read(1)
	if !bytes.Equal(a, b) || len(a) != 600000 || pending.Pending(0) != 600000 || certain.Pending(1) != 0 {
		t.Error(len(a), len(b), pending.Pending(0), certain.Pending(1))
	}
}

// P3.1, R3: bytes that were handed in may be changed afterwards; their spare room is not written to.
func TestHandedIn(t *testing.T) {
	room := []byte("abcdefgh")
	d := disk.New()
	must(t, d.Append(0, room[:3]), d.Append(0, room[3:5]))
	if string(room) != "abcdefgh" {
		t.Errorf("what was handed in is %q", room)
	}
	copy(room, "XXXXXXXX")
	file(t, d, 0, "abcde", 5)
	file(t, d.Crash(4, 0), 0, "abcd", 0)
	must(t, d.Sync(0))
	copy(room, "YYYYYYYY")
	file(t, d, 0, "abcde", 0)
	must(t, d.Cut(0, 2), d.Append(0, room[:1]))
	copy(room, "ZZZZZZZZ")
	must(t, d.Append(0, room[:1]))
	file(t, d, 0, "abYZ", 3)
	if string(room) != "ZZZZZZZZ" {
		t.Errorf("what was handed in is %q", room)
	}
}

// spoil turns every byte of a list, and of its spare room.
func spoil(b []byte) {
	b = b[:cap(b)]
	for i := range b {
		b[i] = '#'
	}
}

// P3.1, R3: bytes that were told may be changed afterwards, whatever was pending then.
func TestTold(t *testing.T) {
	d := disk.New()
	must(t, d.Append(0, []byte("abcdef")))
	spoil(d.Read(0))
	file(t, d, 0, "abcdef", 6)
	must(t, d.Sync(0))
	spoil(d.Read(0))
	file(t, d, 0, "abcdef", 0)
	must(t, d.Cut(0, 3))
	spoil(d.Read(0))
	file(t, d, 0, "abc", 1)
	file(t, d.Crash(0, 0), 0, "abcdef", 0)
	must(t, d.Append(0, []byte("XY")))
	spoil(d.Read(0))
	file(t, d, 0, "abcXY", 3)
	file(t, d.Crash(2, 0), 0, "abcX", 0)
	c := d.Crash(9, 9)
	spoil(c.Read(0))
	file(t, c, 0, "abcXY", 0)
	file(t, d, 0, "abcXY", 3)
	told, again := d.Read(0), d.Read(0)
	spoil(told)
	must(t, d.Append(0, []byte("later")), d.Sync(0), d.Cut(0, 0), d.Append(0, []byte("zzzzzzzz")), d.Sync(0))
	if string(again) != "abcXY" {
		t.Errorf("what was told is %q", again)
	}
}

// P3.2: the chapter's example, with each number of units, for both files.
func TestExample(t *testing.T) {
	for i := range 2 {
		d := disk.New()
		must(t, d.Append(i, []byte("abc")), d.Sync(i), d.Append(i, []byte("de")), d.Cut(i, 1))
		for _, c := range []struct {
			n    int
			want string
		}{{math.MinInt, "abc"}, {-1, "abc"}, {0, "abc"}, {1, "abcd"}, {2, "abcde"}, {3, "a"}, {4, "a"}, {9, "a"}, {math.MaxInt, "a"}} {
			n := [2]int{}
			n[i] = c.n
			x := d.Crash(n[0], n[1])
			file(t, x, i, c.want, 0)
			file(t, x, 1-i, "", 0)
			file(t, d, i, "a", 3)
		}
	}
}

// P3.2: Pending behind each kind of call, and that of one file is not that of the other.
func TestPending(t *testing.T) {
	d := disk.New()
	step := func(e api.Errno, a, b int) {
		t.Helper()
		must(t, e)
		if d.Pending(0) != a || d.Pending(1) != b {
			t.Fatalf("pending %d and %d, want %d and %d", d.Pending(0), d.Pending(1), a, b)
		}
	}
	step(d.Append(0, []byte("abcd")), 4, 0)
	step(d.Append(1, []byte("ab")), 4, 2)
	step(d.Append(0, nil), 4, 2)
	step(d.Cut(0, 4), 5, 2)
	step(d.Cut(0, 4), 6, 2)
	step(d.Cut(0, 1), 7, 2)
	step(d.Append(0, []byte("x")), 8, 2)
	step(d.Sync(1), 8, 0)
	step(d.Cut(1, 0), 8, 1)
	step(d.Sync(0), 0, 1)
	step(d.Sync(0), 0, 1)
	d = d.Crash(0, 0)
	step(api.OK, 0, 0)
	file(t, d, 0, "ax", 0)
	file(t, d, 1, "ab", 0)
	step(d.Append(1, []byte("c")), 0, 1)
	step(d.Cut(0, 0), 1, 1)
}

// P3.2: units are done in their order: bytes ahead of a cut come, and go by it; bytes behind it stand at its end.
func TestCrashInOrder(t *testing.T) {
	d := disk.New()
	must(t, d.Append(0, []byte("abcdef")), d.Sync(0))
	must(t, d.Cut(0, 2), d.Append(0, []byte("XY")), d.Append(0, []byte("Z")), d.Cut(0, 4), d.Cut(0, 4), d.Append(0, []byte("q")), d.Cut(0, 0), d.Append(0, []byte("rs")))
	want := []string{"abcdef", "ab", "abX", "abXY", "abXYZ", "abXY", "abXY", "abXYq", "", "r", "rs", "rs"}
	if d.Pending(0) != 10 {
		t.Errorf("pending %d", d.Pending(0))
	}
	for n, text := range want {
		file(t, d.Crash(n, 0), 0, text, 0)
	}
	file(t, d, 0, "rs", 10)
}

// P3.2: both files crash each by its own number.
func TestCrashBoth(t *testing.T) {
	d := disk.New()
	files := [2]*plain{{}, {}}
	for i, text := range []string{"abcd", "123"} {
		must(t, d.Append(i, []byte(text[:2])), d.Sync(i), d.Cut(i, 1), d.Append(i, []byte(text[2:])))
		files[i].append([]byte(text[:2]))
		files[i].sync()
		files[i].cut(1)
		files[i].append([]byte(text[2:]))
	}
	for a := -2; a <= 5; a++ {
		for b := -2; b <= 5; b++ {
			same(t, d.Crash(a, b), crashed(files, a, b))
			same(t, d, files)
		}
	}
}

// P3.2: Sync makes all that was done certain, and nothing of the other file.
func TestSync(t *testing.T) {
	d := disk.New()
	must(t, d.Append(0, []byte("abc")), d.Append(1, []byte("xyz")), d.Cut(0, 2), d.Append(0, []byte("d")), d.Sync(0))
	file(t, d.Crash(0, 0), 0, "abd", 0)
	file(t, d.Crash(0, 0), 1, "", 0)
	file(t, d.Crash(0, 2), 1, "xy", 0)
	must(t, d.Sync(1))
	file(t, d.Crash(-1, -1), 1, "xyz", 0)
	must(t, d.Cut(0, 0), d.Sync(0))
	file(t, d.Crash(-1, -1), 0, "", 0)
	file(t, d, 1, "xyz", 0)
}

// P3.3: what was certain is there behind each crash, and behind crashes of what crashed.
func TestCertainStays(t *testing.T) {
	d := disk.New()
	must(t, d.Append(0, []byte("certain")), d.Append(1, []byte("too")), d.Sync(0), d.Sync(1))
	for n := range 20 {
		must(t, d.Append(0, bytes.Repeat([]byte{'.'}, n)), d.Append(1, []byte("!")))
		for a := -1; a <= d.Pending(0)+1; a++ {
			x := d.Crash(a, -a).Crash(-a, a)
			if !bytes.HasPrefix(x.Read(0), []byte("certain")) || !bytes.HasPrefix(x.Read(1), []byte("too")) {
				t.Fatalf("behind Crash(%d): %q, %q", a, x.Read(0), x.Read(1))
			}
		}
		d = d.Crash(n/2, n%3)
	}
	must(t, d.Cut(0, 3), d.Cut(1, 0))
	x := d.Crash(0, 0)
	if !bytes.HasPrefix(x.Read(0), []byte("certain")) || !bytes.HasPrefix(x.Read(1), []byte("too")) {
		t.Errorf("a cut that is not certain: %q, %q", x.Read(0), x.Read(1))
	}
}

// turn does something of each kind to both files of a disk.
func turn(t *testing.T, d *disk.Disk, text string) {
	t.Helper()
	for i := range 2 {
		must(t, d.Append(i, []byte(text)), d.Sync(i), d.Cut(i, 1), d.Append(i, []byte(text)), d.Sync(i), d.Cut(i, 0), d.Append(i, []byte(text+text)))
	}
}

// P3.3: two disks of New, a disk and what crashed of it, two that crashed of one: what is done to one is not seen at another.
func TestNothingInCommon(t *testing.T) {
	one, other := disk.New(), disk.New()
	turn(t, one, "one")
	file(t, other, 0, "", 0)
	file(t, other, 1, "", 0)
	must(t, other.Append(0, []byte("abcdefgh")), other.Sync(0), other.Append(0, []byte("ij")), other.Cut(0, 4), other.Append(1, []byte("xyz")))
	for n := range 5 {
		first, second := other.Crash(n, n), other.Crash(n, n)
		a, b := string(second.Read(0)), string(second.Read(1))
		turn(t, first, "FIRST")
		file(t, second, 0, a, 0)
		file(t, second, 1, b, 0)
		file(t, other, 0, "abcd", 3)
		file(t, other, 1, "xyz", 3)
		file(t, other.Crash(0, 0), 0, "abcdefgh", 0)
		file(t, other.Crash(1, 2), 0, "abcdefghi", 0)
	}
	left := other.Crash(9, 9)
	turn(t, other, "OTHER")
	file(t, left, 0, "abcd", 0)
	file(t, left, 1, "xyz", 0)
}

// P3.1, P3.2, P3.3: long ways through many disks at once, each held against the chapter's words.
func TestAnyWay(t *testing.T) {
	for seed := range 60 {
		c := chance(seed)
		disks := []*disk.Disk{disk.New(), disk.New()}
		plains := [][2]*plain{{{}, {}}, {{}, {}}}
		for range 150 {
			k := c.below(len(disks))
			i := c.below(2)
			d, p := disks[k], plains[k][i]
			switch c.below(9) {
			case 0, 1, 2, 3:
				b := c.bytes(c.below(6))
				must(t, d.Append(i, b))
				p.append(b)
			case 4, 5:
				size := c.below(len(p.now()) + 1)
				must(t, d.Cut(i, size))
				p.cut(size)
			case 6:
				must(t, d.Sync(i))
				p.sync()
			case 7:
				if d.Cut(i, len(p.now())+1) != api.ErrArg || d.Append(i, make([]byte, api.MaxLog+1-len(p.now()))) != api.ErrFull {
					t.Fatal("not refused")
				}
			case 8:
				a, b := c.below(9)-1, c.below(9)-1
				disks = append(disks, d.Crash(a, b))
				plains = append(plains, crashed(plains[k], a, b))
			}
			for k := range disks {
				same(t, disks[k], plains[k])
			}
		}
		for k, d := range disks {
			for n := -1; n <= max(d.Pending(0), d.Pending(1))+1; n++ {
				same(t, d.Crash(n, n), crashed(plains[k], n, n))
			}
			same(t, d, plains[k])
		}
	}
}
