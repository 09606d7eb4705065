package wal_test

import (
	"bytes"
	"encoding/binary"
	"fmt"
	"hash/crc32"
	"math"
	"slices"
	"testing"

	"skep/api"
	"skep/disk"
	"skep/wal"
)

// noFiles is numbers of files that are none.
var noFiles = []int{-1, 2, 3, -2, 9, 1 << 40, -1 << 40, math.MinInt, math.MaxInt}

// lead is how many bytes stand ahead of what a record says.
const lead = 8

// chance is numbers that look like any, the same at each run.
type chance uint64

func (c *chance) below(n int) int {
	*c = *c*6364136223846793005 + 1442695040888963407
	return int(uint64(*c)>>33) % n
}

func (c *chance) bytes(n int) []byte {
	out := make([]byte, n)
	for i := range out {
		out[i] = byte(c.below(256))
	}
	return out
}

// plainRecord is a record by the chapter's words, with whatever length it claims; the sum fits length and bytes.
func plainRecord(length uint32, says []byte) []byte {
	out := binary.LittleEndian.AppendUint32(nil, length)
	sum := crc32.ChecksumIEEE(append(slices.Clone(out), says...))
	return append(binary.LittleEndian.AppendUint32(out, sum), says...)
}

// rec is the record that says these bytes.
func rec(says []byte) []byte { return plainRecord(uint32(len(says)), says) }

// recs is records, one behind the other.
func recs(says ...string) []byte {
	var out []byte
	for _, s := range says {
		out = append(out, rec([]byte(s))...)
	}
	return out
}

// item is what is told of one record.
type item struct {
	at   int
	says string
}

// String keeps a failure's text short, however long the record.
func (i item) String() string { return fmt.Sprintf("%d: %.50q", i.at, i.says) }

// plainItems is what is to be told of any bytes, and the place at which no whole right record stands.
func plainItems(b []byte) ([]item, int) {
	var out []item
	for at := 0; ; {
		rest := b[at:]
		if len(rest) < lead {
			return out, at
		}
		n := int(binary.LittleEndian.Uint32(rest))
		if n < 1 || n > 65536 || len(rest) < lead+n {
			return out, at
		}
		if !bytes.Equal(rest[:lead+n], rec(rest[lead:lead+n])) {
			return out, at
		}
		out = append(out, item{at, string(rest[lead : lead+n])})
		at += lead + n
	}
}

// said is what items say, without their places.
func said(items []item) []string {
	out := []string{}
	for _, i := range items {
		out = append(out, i.says)
	}
	return out
}

// texts is records that were told, as texts.
func texts(told [][]byte) []string {
	out := []string{}
	for _, b := range told {
		out = append(out, string(b))
	}
	return out
}

// must fails unless the calls were all taken.
func must(t *testing.T, errs ...api.Errno) {
	t.Helper()
	for i, e := range errs {
		if e != api.OK {
			t.Fatalf("call %d: error %d", i, e)
		}
	}
}

// open opens a file that is one, and fails unless it tells just these records.
func open(t *testing.T, d *disk.Disk, file int, want ...string) *wal.Log {
	t.Helper()
	l, told, e := wal.Open(d, file)
	if e != api.OK || l == nil {
		t.Fatalf("Open: log %v, error %d", l, e)
	}
	if got := texts(told); !slices.Equal(got, want) {
		t.Fatalf("Open told %.50q, want %.50q", got, want)
	}
	return l
}

// file fails unless a file has these bytes and so many units pending.
func file(t *testing.T, d *disk.Disk, file int, want []byte, pending int) {
	t.Helper()
	if got := d.Read(file); !bytes.Equal(got, want) {
		t.Fatalf("file %d: %d bytes, not the %d wanted", file, len(got), len(want))
	}
	if got := d.Pending(file); got != pending {
		t.Fatalf("file %d: pending %d, want %d", file, got, pending)
	}
}

// diskWith is a disk with these bytes in a file, none of them certain, and other bytes in the other file.
func diskWith(t *testing.T, file int, b []byte) *disk.Disk {
	t.Helper()
	d := disk.New()
	must(t, d.Append(file, b), d.Append(1-file, []byte("others")))
	return d
}

// opened opens both files of two disks with these bytes, pending and certain, and holds all against the chapter's words.
func opened(t *testing.T, b []byte) {
	t.Helper()
	items, end := plainItems(b)
	for i := range 2 {
		for _, certain := range []bool{false, true} {
			d := diskWith(t, i, b)
			pending := len(b)
			if certain {
				must(t, d.Sync(i))
				pending = 0
			}
			if end < len(b) {
				pending = 0
			}
			l := open(t, d, i, said(items)...)
			file(t, d, i, b[:end], pending)
			file(t, d, 1-i, []byte("others"), 6)
			if l.Size() != end {
				t.Fatalf("Size %d, want %d", l.Size(), end)
			}
			if end < len(b) && !bytes.Equal(d.Crash(0, 0).Read(i), b[:end]) {
				t.Fatal("what is left is not certain")
			}
			must(t, l.Append([]byte("more")))
			file(t, d, i, append(slices.Clone(b[:end]), recs("more")...), pending+12)
			open(t, d, i, append(said(items), "more")...)
		}
	}
}

// P4.1: at a file that is none: nil, no records, ErrArg; nothing is turned.
func TestOpenNoFile(t *testing.T) {
	for _, d := range []*disk.Disk{disk.New(), diskWith(t, 0, recs("a", "b"))} {
		a, b, p, q := d.Read(0), d.Read(1), d.Pending(0), d.Pending(1)
		for _, n := range noFiles {
			l, told, e := wal.Open(d, n)
			if l != nil || len(told) != 0 || e != api.ErrArg {
				t.Errorf("Open at %d: %v, %q, %d", n, l, told, e)
			}
			file(t, d, 0, a, p)
			file(t, d, 1, b, q)
		}
	}
}

// P4.1: an empty file, new, cut to nothing, or erased and made certain.
func TestOpenEmpty(t *testing.T) {
	for i := range 2 {
		d := disk.New()
		l := open(t, d, i)
		if l.Size() != 0 {
			t.Error(l.Size())
		}
		file(t, d, 0, nil, 0)
		file(t, d, 1, nil, 0)
		must(t, d.Append(i, []byte("abc")), d.Cut(i, 0))
		open(t, d, i)
		file(t, d, i, nil, 4)
		must(t, d.Sync(i))
		open(t, d, i)
		file(t, d, i, nil, 0)
	}
}

// P4.1: whole right records are told, and where nothing is cut off nothing is made certain.
func TestOpenWhole(t *testing.T) {
	long := string(bytes.Repeat([]byte("long"), 5000))
	for _, says := range [][]string{{"a"}, {"a", "bcd"}, {"\x00"}, {"\x00\x00\x00\x00\x00\x00\x00\x00"}, {"a", "a", "a"}, {long, "b", long}, {string(recs("in", "side")), "x"}} {
		b := recs(says...)
		d := diskWith(t, 0, b)
		open(t, d, 0, says...)
		file(t, d, 0, b, len(b))
		file(t, d.Crash(0, 0), 0, nil, 0)
		opened(t, b)
	}
}

// P4.1: bytes behind the records that are no record are cut off, few and many.
func TestOpenBytesBehind(t *testing.T) {
	c := chance(1)
	for _, head := range [][]byte{nil, recs("a"), recs("a", "bcd"), recs("a", "bcd", "efghi")} {
		for n := 1; n < 40; n++ {
			for _, tail := range [][]byte{make([]byte, n), bytes.Repeat([]byte{255}, n), bytes.Repeat([]byte{1}, n), c.bytes(n)} {
				opened(t, slices.Concat(head, tail))
				opened(t, slices.Concat(head, tail, recs("x", "yz")))
			}
		}
	}
	opened(t, slices.Concat(recs("a"), c.bytes(100000)))
	opened(t, c.bytes(100000))
}

// P4.1: a record that is cut off at each of its bytes, the first, a middle, the last one.
func TestOpenCutOff(t *testing.T) {
	b := recs("a", "bcdefghijklm", "\x00\x01")
	for n := range len(b) + 1 {
		opened(t, b[:n])
	}
}

// P4.1: cut off, with all that stood behind it gone on: the next record's bytes don't make it whole.
func TestOpenGap(t *testing.T) {
	head, middle, tail := recs("a"), recs("bcdefgh"), recs("i", "jk")
	for n := 1; n < len(middle); n++ {
		opened(t, slices.Concat(head, middle[:n], tail))
		opened(t, slices.Concat(head, middle[n:], tail))
	}
}

// P4.1: lengths of 0, of MaxRecord and of one more, and others that may not be, with the right sum and all bytes.
func TestOpenLengths(t *testing.T) {
	c := chance(2)
	for _, n := range []int{0, 1, 2, api.MaxRecord - 1, api.MaxRecord, api.MaxRecord + 1, api.MaxRecord + 2, 2 * api.MaxRecord} {
		says := c.bytes(n)
		b := slices.Concat(recs("a"), rec(says), recs("z"))
		items, _ := plainItems(b)
		want := 1
		if n >= 1 && n <= api.MaxRecord {
			want = 3
		}
		if len(items) != want {
			t.Fatalf("length %d: %d records wanted", n, len(items))
		}
		opened(t, b)
		opened(t, b[len(recs("a")):])
	}
}

// P4.1: a length that is not that of the bytes, whatever the sum is made of.
func TestOpenWrongLength(t *testing.T) {
	says := []byte("abcdef")
	lengths := []uint32{0, 5, 7, 1 << 8, 1 << 16, 1<<16 + 1, 1 << 24, 1<<24 + 6, 1 << 31, 1<<31 + 6, math.MaxUint32, math.MaxUint32 - 5, math.MaxUint32 - 7, math.MaxUint32 - 8}
	for _, n := range lengths {
		opened(t, slices.Concat(recs("a"), plainRecord(n, says), recs("z")))
		opened(t, plainRecord(n, says))
		turned := rec(says)
		binary.LittleEndian.PutUint32(turned, n)
		opened(t, slices.Concat(recs("a"), turned, recs("z")))
	}
}

// P4.1: each byte of a record turned, in each way: what is told ends ahead of it, though right records stand behind it.
func TestOpenTurned(t *testing.T) {
	head, middle, tail := recs("a"), recs("bcde"), recs("fg", "h")
	for i := range middle {
		for turn := 1; turn < 256; turn++ {
			b := slices.Concat(head, middle, tail)
			b[len(head)+i] ^= byte(turn)
			d := diskWith(t, 1, b)
			open(t, d, 1, "a")
			file(t, d, 1, head, 0)
			if turn&(turn-1) == 0 {
				opened(t, b)
			}
		}
	}
}

// P4.1: the sum is of the length and what is said: not of what is said alone, nor in another order, nor with the bytes turned round.
func TestOpenOtherSums(t *testing.T) {
	says := []byte("abc")
	length := []byte{3, 0, 0, 0}
	for _, sum := range []uint32{
		0, crc32.ChecksumIEEE(says), crc32.ChecksumIEEE(length), crc32.ChecksumIEEE(slices.Concat(says, length)),
		^crc32.ChecksumIEEE(slices.Concat(length, says)), crc32.ChecksumIEEE(slices.Concat(length, []byte{0, 0, 0, 0}, says)),
		crc32.ChecksumIEEE(slices.Concat([]byte{0, 0, 0, 3}, says)),
	} {
		opened(t, slices.Concat(recs("x"), length, binary.LittleEndian.AppendUint32(nil, sum), says))
	}
	right := crc32.ChecksumIEEE(slices.Concat(length, says))
	opened(t, slices.Concat(recs("x"), length, binary.BigEndian.AppendUint32(nil, right), says))
	opened(t, slices.Concat(recs("x"), binary.LittleEndian.AppendUint32(nil, right), length, says))
}

// P4.1: what is cut off is made certain with all that was pending, and the other file stays pending.
func TestOpenMakesCertain(t *testing.T) {
	d := disk.New()
	must(t, d.Append(0, recs("gone", "too")), d.Sync(0), d.Cut(0, 0), d.Append(0, recs("a", "b")), d.Append(0, []byte("torn")), d.Append(1, []byte("torn")))
	open(t, d, 0, "a", "b")
	file(t, d, 0, recs("a", "b"), 0)
	file(t, d, 1, []byte("torn"), 4)
	x := d.Crash(-1, -1)
	open(t, x, 0, "a", "b")
	file(t, x, 1, nil, 0)
	open(t, d, 1)
	file(t, d, 1, nil, 0)
}

// P4.1: the chapter's example, byte by byte.
func TestAppendExample(t *testing.T) {
	d := disk.New()
	l := open(t, d, 0)
	must(t, l.Append([]byte("a")))
	// The sum of 01 00 00 00 61, as the chapter of sums makes it.
	sum := crc32.ChecksumIEEE([]byte{1, 0, 0, 0, 0x61})
	if sum != 0xc1f78f63 {
		t.Errorf("the sum is %#x", sum)
	}
	file(t, d, 0, []byte{1, 0, 0, 0, 0x63, 0x8f, 0xf7, 0xc1, 0x61}, 9)
	if l.Size() != 9 {
		t.Error(l.Size())
	}
}

// P4.1: no bytes, one, MaxRecord and one more; records stand behind all others.
func TestAppendLengths(t *testing.T) {
	c := chance(3)
	for i := range 2 {
		d := disk.New()
		l := open(t, d, i)
		var want []byte
		var says []string
		for _, n := range []int{0, 1, 2, 255, 256, 257, api.MaxRecord - 1, api.MaxRecord, api.MaxRecord + 1, api.MaxRecord + 2, 2 * api.MaxRecord, 1 << 20, 1, 0} {
			b := c.bytes(n)
			e := l.Append(b)
			if n < 1 || n > api.MaxRecord {
				if e != api.ErrArg {
					t.Errorf("%d bytes: error %d", n, e)
				}
			} else {
				must(t, e)
				want = append(want, rec(b)...)
				says = append(says, string(b))
			}
			file(t, d, i, want, len(want))
			if l.Size() != len(want) {
				t.Errorf("Size %d, want %d", l.Size(), len(want))
			}
		}
		if l.Append(nil) != api.ErrArg || l.Append([]byte{}) != api.ErrArg || l.Append(make([]byte, 0, 9)) != api.ErrArg {
			t.Error("no bytes")
		}
		file(t, d, i, want, len(want))
		file(t, d, 1-i, nil, 0)
		open(t, d, i, says...)
	}
}

// P4.1: where the disk is full nothing is written; a record that just fits is; what may not be is ErrArg there too.
func TestAppendFull(t *testing.T) {
	for i := range 2 {
		for _, room := range []int{0, 1, 7, 8, 9, 10, 20, api.MaxRecord + lead - 1, api.MaxRecord + lead} {
			d := disk.New()
			l := open(t, d, i)
			must(t, d.Append(i, make([]byte, api.MaxLog-room)), d.Sync(i))
			for _, n := range []int{1, 2, 12, 13, api.MaxRecord} {
				before := d.Pending(i)
				e := l.Append(make([]byte, n))
				switch {
				case n+lead > room && (e != api.ErrFull || d.Pending(i) != before):
					t.Errorf("%d bytes where room is for %d: error %d, pending %d", n, room, e, d.Pending(i)-before)
				case n+lead <= room && (e != api.OK || d.Pending(i) != before+n+lead):
					t.Errorf("%d bytes where room is for %d: error %d", n, room, e)
				case n+lead <= room:
					must(t, d.Cut(i, api.MaxLog-room))
				}
				if l.Size() != api.MaxLog-room {
					t.Errorf("Size %d", l.Size())
				}
			}
			if l.Append(nil) != api.ErrArg || l.Append(make([]byte, api.MaxRecord+1)) != api.ErrArg {
				t.Error("what may not be appended")
			}
		}
	}
}

// P4.1: a log that is full to its last byte is told whole.
func TestOpenFull(t *testing.T) {
	d := disk.New()
	l := open(t, d, 0)
	says := bytes.Repeat([]byte{7}, api.MaxRecord)
	n := 0
	for l.Append(says) == api.OK {
		n++
	}
	left := api.MaxLog - l.Size()
	must(t, l.Append(says[:left-lead]))
	if n != 255 || l.Size() != api.MaxLog || l.Append([]byte{1}) != api.ErrFull {
		t.Fatal(n, l.Size())
	}
	_, told, e := wal.Open(d, 0)
	if e != api.OK || len(told) != n+1 || len(told[n]) != left-lead || d.Size(0) != api.MaxLog || d.Pending(0) != api.MaxLog {
		t.Error(e, len(told), d.Size(0), d.Pending(0))
	}
	for _, b := range told {
		if !bytes.Equal(b, says[:len(b)]) {
			t.Error("what is told is not what was appended")
		}
	}
}

// P4.1: Sync makes the log's file certain, and no other one.
func TestSync(t *testing.T) {
	for i := range 2 {
		d := diskWith(t, i, nil)
		l := open(t, d, i)
		must(t, l.Append([]byte("abc")), l.Append([]byte("d")))
		file(t, d, i, recs("abc", "d"), 20)
		must(t, l.Sync())
		file(t, d, i, recs("abc", "d"), 0)
		file(t, d, 1-i, []byte("others"), 6)
		must(t, l.Sync(), l.Append([]byte("e")))
		file(t, d, i, recs("abc", "d", "e"), 9)
		file(t, d.Crash(0, 0), i, recs("abc", "d"), 0)
	}
}

// P4.1: Erase cuts to no bytes, is not made certain, and leaves the other file.
func TestErase(t *testing.T) {
	for i := range 2 {
		d := diskWith(t, i, nil)
		l := open(t, d, i)
		must(t, l.Append([]byte("abc")), l.Sync(), l.Append([]byte("d")), l.Erase())
		file(t, d, i, nil, 10)
		if l.Size() != 0 {
			t.Error(l.Size())
		}
		open(t, d.Crash(9, 9), i, "abc", "d")
		open(t, d.Crash(10, 10), i)
		must(t, l.Append([]byte("e")))
		open(t, d.Crash(0, 0), i, "abc")
		open(t, d, i, "e")
		must(t, l.Sync())
		open(t, d.Crash(0, 0), i, "e")
		must(t, l.Erase(), l.Sync())
		file(t, d, i, nil, 0)
		must(t, l.Erase())
		file(t, d, i, nil, 1)
		file(t, d, 1-i, []byte("others"), 6)
	}
}

// P4.1: Size is the file's, whoever turned it, and two logs of one file are at one.
func TestSize(t *testing.T) {
	d := disk.New()
	one, other := open(t, d, 1), open(t, d, 1)
	must(t, one.Append([]byte("abc")), other.Append([]byte("d")), one.Append([]byte("e")))
	if one.Size() != 29 || other.Size() != 29 {
		t.Error(one.Size(), other.Size())
	}
	open(t, d, 1, "abc", "d", "e")
	must(t, d.Cut(1, 11))
	if one.Size() != 11 || other.Size() != 11 || open(t, d, 0).Size() != 0 {
		t.Error(one.Size(), other.Size())
	}
	must(t, other.Append([]byte("f")))
	open(t, d, 1, "abc", "f")
}

// spoil turns every byte of a list, and of its spare room.
func spoil(b []byte) {
	b = b[:cap(b)]
	for i := range b {
		b[i] = '#'
	}
}

// P4.1, R3: what is appended is neither changed nor kept, spare room included.
func TestAppendHandedIn(t *testing.T) {
	room := []byte("abcdefgh")
	d := disk.New()
	l := open(t, d, 0)
	must(t, l.Append(room[:3]), l.Append(room[3:5]))
	if string(room) != "abcdefgh" {
		t.Errorf("what was handed in is %q", room)
	}
	spoil(room)
	file(t, d, 0, recs("abc", "de"), 21)
	open(t, d, 0, "abc", "de")
}

// P4.1, R3: lists that Open told have no memory in common, not with the disk either.
func TestOpenTold(t *testing.T) {
	d := disk.New()
	b := append(recs("abc", "de", "fghijk"), "torn"...)
	must(t, d.Append(0, b))
	_, told, _ := wal.Open(d, 0)
	want := []string{"abc", "de", "fghijk"}
	for i := range told {
		spoil(told[i])
		for k := range told {
			if k > i && string(told[k]) != want[k] {
				t.Fatalf("record %d is %q behind a change of record %d", k, told[k], i)
			}
		}
	}
	file(t, d, 0, recs(want...), 0)
	open(t, d, 0, want...)
}

// items is what an iterator tells, and spoils it.
func items(seq func(func(int, []byte) bool)) []item {
	var out []item
	for at, says := range seq {
		out = append(out, item{at, string(says)})
		spoil(says)
	}
	return out
}

// some is bytes of many kinds: records, torn ones, turned ones, none.
func some() [][]byte {
	c := chance(4)
	out := [][]byte{nil, {}, {0}, make([]byte, 8), make([]byte, 9), make([]byte, 100), bytes.Repeat([]byte{255}, 100)}
	for range 300 {
		var b []byte
		for range c.below(6) {
			b = append(b, rec(c.bytes(1+c.below(20)))...)
		}
		switch c.below(5) {
		case 0:
			b = b[:c.below(len(b)+1)]
		case 1:
			b = append(b, c.bytes(c.below(20))...)
		case 2:
			if len(b) > 0 {
				b[c.below(len(b))] ^= 1 << c.below(8)
			}
		case 3:
			if at := c.below(len(b) + 1); at > 0 {
				b = slices.Concat(b[:at-1], b[at:])
			}
		}
		out = append(out, b)
	}
	for _, n := range []int{0, 1, api.MaxRecord, api.MaxRecord + 1} {
		out = append(out, slices.Concat(recs("a"), rec(c.bytes(n)), recs("b")))
	}
	return out
}

// P4.2: places and what is said, in any bytes, whatever the log's own file has; gone through again the same.
func TestRecords(t *testing.T) {
	d := diskWith(t, 0, recs("own"))
	l := open(t, d, 0, "own")
	must(t, l.Sync())
	for _, b := range some() {
		want, _ := plainItems(b)
		seq := l.Records(b)
		for range 3 {
			if got := items(seq); !slices.Equal(got, want) {
				t.Fatalf("told %v, want %v", got, want)
			}
		}
		opened(t, b)
	}
	file(t, d, 0, recs("own"), 0)
}

// P4.2: more bytes than a file may have.
func TestRecordsLong(t *testing.T) {
	l := open(t, disk.New(), 0)
	c := chance(5)
	one := rec(c.bytes(api.MaxRecord))
	b := append(bytes.Repeat(one, 300), recs("last")...)
	n := 0
	for at, says := range l.Records(b) {
		if at != n*len(one) || n < 300 && !bytes.Equal(says, one[lead:]) || n == 300 && string(says) != "last" {
			t.Fatal(n, at, len(says))
		}
		n++
	}
	if n != 301 {
		t.Error(n)
	}
}

// P4.2: broken off behind each number of records nothing more is told, and it can be gone through again.
func TestRecordsBrokenOff(t *testing.T) {
	l := open(t, disk.New(), 0)
	b := append(recs("a", "bcd", "ef", "g"), "torn"...)
	want, _ := plainItems(b)
	seq := l.Records(b)
	for n := 1; n <= len(want)+1; n++ {
		var got []item
		seq(func(at int, says []byte) bool {
			got = append(got, item{at, string(says)})
			spoil(says)
			return len(got) < n
		})
		if !slices.Equal(got, want[:min(n, len(want))]) {
			t.Fatalf("broken off behind %d: %v", n, got)
		}
		if got := items(seq); !slices.Equal(got, want) {
			t.Fatalf("again, broken off behind %d: %v", n, got)
		}
	}
}

// P4.2: gone through within itself, each goes its own way.
func TestRecordsWithin(t *testing.T) {
	l := open(t, disk.New(), 0)
	b := recs("a", "bcd", "ef")
	want, _ := plainItems(b)
	seq := l.Records(b)
	var outer []item
	for at, says := range seq {
		outer = append(outer, item{at, string(says)})
		spoil(says)
		if got := items(seq); !slices.Equal(got, want) {
			t.Fatalf("within: %v", got)
		}
	}
	if !slices.Equal(outer, want) {
		t.Fatalf("without: %v", outer)
	}
}

// P4.2, R3, R6: the bytes are neither changed nor kept: it tells what was there when it was asked for.
func TestRecordsHandedIn(t *testing.T) {
	l := open(t, disk.New(), 0)
	whole := append(recs("a", "bcd", "ef"), rec([]byte("spare"))...)
	n := len(recs("a", "bcd", "ef"))
	before := slices.Clone(whole)
	want, _ := plainItems(whole[:n])
	seq := l.Records(whole[:n])
	if got := items(seq); !slices.Equal(got, want) {
		t.Fatalf("told %v", got)
	}
	if !bytes.Equal(whole, before) {
		t.Fatal("what was handed in is changed")
	}
	spoil(whole)
	if got := items(seq); !slices.Equal(got, want) {
		t.Fatalf("behind a change told %v", got)
	}
	whole = slices.Clone(before)
	var got []item
	for at, says := range l.Records(whole) {
		got = append(got, item{at, string(says)})
		spoil(whole)
	}
	if want, _ := plainItems(before); !slices.Equal(got, want) {
		t.Fatalf("changed on the way: told %v", got)
	}
}

// P4.2, R3: what is told at one place is no memory of what is told at another.
func TestRecordsTold(t *testing.T) {
	l := open(t, disk.New(), 0)
	var told [][]byte
	seq := l.Records(recs("abc", "de", "fgh"))
	for range 2 {
		for _, says := range seq {
			told = append(told, says)
		}
	}
	want := []string{"abc", "de", "fgh", "abc", "de", "fgh"}
	for i := range told {
		spoil(told[i])
		if k := i + 1; k < len(told) && !slices.Equal(texts(told[k:]), want[k:]) {
			t.Fatalf("%q behind a change of record %d", told, i)
		}
	}
}

// P4.2: the log's own bytes, as the disk has them.
func TestRecordsOfFile(t *testing.T) {
	d := disk.New()
	l := open(t, d, 1)
	must(t, l.Append([]byte("a")), l.Append([]byte("bcd")), l.Append([]byte("e")))
	seq := l.Records(d.Read(1))
	must(t, l.Erase())
	if got := items(seq); !slices.Equal(got, []item{{0, "a"}, {9, "bcd"}, {20, "e"}}) {
		t.Errorf("told %v", got)
	}
	if got := items(l.Records(d.Read(1))); len(got) != 0 {
		t.Errorf("behind Erase told %v", got)
	}
}

// P4.3: behind a crash with each number of pending units a beginning is told, with all that was certain; what is appended behind that is told too.
func TestCrash(t *testing.T) {
	all := []string{"a", "bcd", "\x00\x00", "efghij", "k"}
	for i := range 2 {
		for certain := range len(all) + 1 {
			d := disk.New()
			l := open(t, d, i)
			for n, says := range all {
				if n == certain {
					must(t, l.Sync())
				}
				must(t, l.Append([]byte(says)))
			}
			if certain == len(all) {
				must(t, l.Sync())
			}
			open(t, d, i, all...)
			for units := -1; units <= d.Pending(i)+1; units++ {
				crashed(t, d, i, units, all, certain)
			}
			file(t, d, i, recs(all...), len(recs(all[certain:]...)))
		}
	}
}

// crashed crashes a disk and holds what is told then against what was appended, of which the first certain ones were certain.
func crashed(t *testing.T, d *disk.Disk, file, units int, all []string, certain int) {
	t.Helper()
	whole := certain
	for whole < len(all) && len(recs(all[certain:whole+1]...)) <= units {
		whole++
	}
	x := d.Crash(units, units)
	l := open(t, x, file, all[:whole]...)
	if x.Pending(file) != 0 {
		t.Fatal("something is pending behind Open")
	}
	must(t, l.Append([]byte("behind")), l.Append([]byte("it")))
	want := append(slices.Clone(all[:whole]), "behind", "it")
	open(t, x, file, want...)
	open(t, x.Crash(14, 14), file, want[:whole+1]...)
	open(t, x.Crash(13, 13), file, want[:whole]...)
	must(t, l.Sync())
	open(t, x.Crash(0, 0), file, want...)
}

// P4.3: long ways of appends, syncs and crashes: what is told is always a beginning of what was appended, with all that was certain.
func TestAnyWay(t *testing.T) {
	for seed := range 200 {
		c := chance(seed)
		i := c.below(2)
		d := disk.New()
		l := open(t, d, i)
		all, certain := []string{}, 0
		for range 60 {
			switch c.below(6) {
			case 0, 1, 2:
				says := c.bytes(1 + c.below(12))
				must(t, l.Append(says))
				all = append(all, string(says))
			case 3:
				must(t, l.Sync())
				certain = len(all)
			case 4:
				if l.Append(nil) != api.ErrArg {
					t.Fatal("not refused")
				}
				l = open(t, d, i, all...)
			case 5:
				n := c.below(d.Pending(i)+3) - 1
				d = d.Crash(n, n)
				var told [][]byte
				l, told, _ = wal.Open(d, i)
				if len(told) < certain || len(told) > len(all) || !slices.Equal(texts(told), all[:len(told)]) {
					t.Fatalf("seed %d: told %q of %q, %d of them certain", seed, told, all, certain)
				}
				all = all[:len(told)]
				certain = len(all)
			}
			if l.Size() != len(recs(all...)) {
				t.Fatalf("seed %d: Size %d", seed, l.Size())
			}
		}
		open(t, d, i, all...)
	}
}
