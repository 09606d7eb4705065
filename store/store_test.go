package store_test

import (
	"bytes"
	"encoding/binary"
	"fmt"
	"hash/crc32"
	"math"
	"slices"
	"testing"

	"skep/api"
	"skep/disk"
	"skep/store"
)

// most is the greatest G and S of a head.
const most = 1 << 60

// chance is numbers that look like any, the same at each run.
type chance uint64

func (c *chance) below(n int) int {
	*c = *c*6364136223846793005 + 1442695040888963407
	return int(uint64(*c)>>33) % n
}

func (c *chance) bytes(n int) []byte {
	out := make([]byte, n)
	for i := range out {
		out[i] = byte(c.below(256))
	}
	return out
}

// numbers is numbers' bytes, one behind the other.
func numbers(list ...int) []byte {
	var out []byte
	for _, v := range list {
		out = binary.AppendVarint(out, int64(v))
	}
	return out
}

// number is the number at the beginning of b and what is behind it; none, unless it is written as it would be put.
func number(b []byte) (int, []byte, bool) {
	v, n := binary.Varint(b)
	if n <= 0 || !bytes.Equal(b[:n], numbers(int(v))) {
		return 0, nil, false
	}
	return int(v), b[n:], true
}

// rec is the record that says these bytes.
func rec(says ...[]byte) []byte {
	all := slices.Concat(says...)
	out := binary.LittleEndian.AppendUint32(nil, uint32(len(all)))
	sum := crc32.ChecksumIEEE(slices.Concat(out, all))
	return append(binary.LittleEndian.AppendUint32(out, sum), all...)
}

// headRec is a head's record.
func headRec(g, s int, snap string) []byte { return rec(numbers(g, s), []byte(snap)) }

// entryRec is an entry's record.
func entryRec(n int, b string) []byte { return rec(numbers(n), []byte(b)) }

// plainRecords is what whole right records in b say, and where they end.
func plainRecords(b []byte) ([][]byte, int) {
	var out [][]byte
	for at := 0; ; {
		rest := b[at:]
		if len(rest) < 8 {
			return out, at
		}
		n := int(binary.LittleEndian.Uint32(rest))
		if n < 1 || n > 65536 || len(rest) < 8+n || !bytes.Equal(rest[:8+n], rec(rest[8:8+n])) {
			return out, at
		}
		out = append(out, rest[8:8+n])
		at += 8 + n
	}
}

// plain is a store by the chapter's words, on a disk of its own.
type plain struct {
	d          *disk.Disk
	file       int
	g, s, last int
}

// plainHead is a file's G, S and snapshot; G 0, if it has no head.
func plainHead(records [][]byte) (int, int, []byte) {
	if len(records) == 0 {
		return 0, 0, nil
	}
	g, rest, ok := number(records[0])
	if !ok || g < 1 || g > most {
		return 0, 0, nil
	}
	s, snap, ok := number(rest)
	if !ok || s < 0 || s > most {
		return 0, 0, nil
	}
	return g, s, snap
}

// plainOpen is Open by the chapter's words.
func plainOpen(d *disk.Disk) (*plain, string, []string, api.Errno) {
	var records [2][][]byte
	for i := range 2 {
		b := d.Read(i)
		told, end := plainRecords(b)
		records[i] = told
		if end < len(b) {
			d.Cut(i, end)
			d.Sync(i)
		}
	}
	p := &plain{d: d}
	g0, s, snap := plainHead(records[0])
	g1, s1, snap1 := plainHead(records[1])
	if g0 == 0 && g1 == 0 {
		for i := range 2 {
			d.Cut(i, 0)
			d.Sync(i)
		}
		d.Append(0, headRec(1, 0, ""))
		d.Sync(0)
		p.g = 1
		return p, "", nil, api.OK
	}
	p.g = g0
	if g1 > g0 {
		p.file, p.g, s, snap = 1, g1, s1, snap1
	}
	p.s, p.last = s, s
	var entries []string
	for _, r := range records[p.file][1:] {
		n, b, ok := number(r)
		if !ok || n > p.last+1 {
			return nil, "", nil, api.ErrBytes
		}
		if n == p.last+1 {
			entries = append(entries, string(b))
			p.last = n
		}
	}
	if d.Size(1-p.file) > 0 {
		d.Cut(1-p.file, 0)
		d.Sync(1 - p.file)
	}
	return p, string(snap), entries, api.OK
}

// Append is Append by the chapter's words.
func (p *plain) Append(n int, b []byte) api.Errno {
	if n > p.last+1 || n < 1 {
		return api.ErrState
	}
	if n <= p.last {
		return api.OK
	}
	if len(numbers(n))+len(b) > 65536 {
		return api.ErrArg
	}
	if e := p.d.Append(p.file, rec(numbers(n), b)); e != api.OK {
		return e
	}
	p.last = n
	return api.OK
}

// Check is Check by the chapter's words.
func (p *plain) Check(snap []byte) api.Errno {
	if len(numbers(p.g+1, p.last))+len(snap) > 65536 {
		return api.ErrArg
	}
	p.d.Cut(1-p.file, 0)
	p.d.Append(1-p.file, rec(numbers(p.g+1, p.last), snap))
	p.d.Sync(1 - p.file)
	p.d.Cut(p.file, 0)
	p.d.Sync(p.file)
	p.file, p.g, p.s = 1-p.file, p.g+1, p.last
	return api.OK
}

// must fails unless the calls were all taken.
func must(t *testing.T, errs ...api.Errno) {
	t.Helper()
	for i, e := range errs {
		if e != api.OK {
			t.Fatalf("call %d: error %d", i, e)
		}
	}
}

// spoil turns each byte of b, and of its spare room.
func spoil(b []byte) {
	b = b[:cap(b)]
	for i := range b {
		b[i] ^= 0xa5
	}
}

// texts is lists of bytes as texts.
func texts(list [][]byte) []string {
	out := []string{}
	for _, b := range list {
		out = append(out, string(b))
	}
	return out
}

// side is what one file is made of: bytes that are certain, then bytes that are pending.
type side struct{ certain, pending []byte }

// sure is a file of certain bytes.
func sure(pieces ...[]byte) side { return side{certain: slices.Concat(pieces...)} }

// diskOf is a disk of two such files.
func diskOf(sides ...side) *disk.Disk {
	d := disk.New()
	for i, s := range sides {
		d.Append(i, s.certain)
		d.Sync(i)
		d.Append(i, s.pending)
	}
	return d
}

// same fails unless two disks have the same bytes, pending units, and bytes behind crashes.
func same(t *testing.T, got, want *disk.Disk) {
	t.Helper()
	for i := range 2 {
		if !bytes.Equal(got.Read(i), want.Read(i)) {
			t.Fatalf("file %d: %.60x (%d bytes), want %.60x (%d)", i, got.Read(i), got.Size(i), want.Read(i), want.Size(i))
		}
		if got.Pending(i) != want.Pending(i) {
			t.Fatalf("file %d: pending %d, want %d", i, got.Pending(i), want.Pending(i))
		}
		for _, n := range []int{0, 1, want.Pending(i) / 2, want.Pending(i) - 1} {
			if !bytes.Equal(got.Crash(n, n).Read(i), want.Crash(n, n).Read(i)) {
				t.Fatalf("file %d behind a crash at %d: %.60x, want %.60x", i, n, got.Crash(n, n).Read(i), want.Crash(n, n).Read(i))
			}
		}
	}
}

// agrees fails unless a store tells what the plain one tells.
func agrees(t *testing.T, s *store.Store, p *plain) {
	t.Helper()
	if s.Last() != p.last || s.From() != p.s || s.Size() != p.d.Size(p.file) {
		t.Fatalf("Last %d, From %d, Size %d; want %d, %d, %d", s.Last(), s.From(), s.Size(), p.last, p.s, p.d.Size(p.file))
	}
}

// opened opens two equal disks, by Open and by the chapter's words, and holds all that is told and left against each other.
func opened(t *testing.T, d, ref *disk.Disk) (*store.Store, *plain, api.Errno) {
	t.Helper()
	p, snap, entries, want := plainOpen(ref)
	s, gotSnap, gotEntries, e := store.Open(d)
	if e != want || (s == nil) != (p == nil) {
		t.Fatalf("Open: store %v, error %d, want %d", s != nil, e, want)
	}
	if string(gotSnap) != snap || !slices.Equal(texts(gotEntries), entries) {
		t.Fatalf("Open told %.60q, %.60q; want %.60q, %.60q", gotSnap, texts(gotEntries), snap, entries)
	}
	same(t, d, ref)
	if s != nil {
		agrees(t, s, p)
	}
	return s, p, e
}

// openSides opens a disk of these files as opened does; then, if it may be, goes on with it for some steps.
func openSides(t *testing.T, want api.Errno, sides ...side) {
	t.Helper()
	d, ref := diskOf(sides...), diskOf(sides...)
	s, p, e := opened(t, d, ref)
	if e != want {
		t.Fatalf("Open: error %d, want %d", e, want)
	}
	if s == nil {
		return
	}
	must(t, s.Append(s.Last()+1, []byte("more")), p.Append(p.last+1, []byte("more")))
	same(t, d, ref)
	opened(t, d, ref)
	must(t, s.Check([]byte("new")), p.Check([]byte("new")))
	same(t, d, ref)
	agrees(t, s, p)
}

// P6.1: a new disk gets the chapter's record, byte by byte, certain; the same disk is opened again as it is.
func TestOpenNew(t *testing.T) {
	d := disk.New()
	for range 3 {
		s, snap, entries, e := store.Open(d)
		if s == nil || len(snap) != 0 || len(entries) != 0 || e != api.OK {
			t.Fatal(s, snap, entries, e)
		}
		want := []byte{2, 0, 0, 0, 0, 0, 0, 0, 2, 0}
		binary.LittleEndian.PutUint32(want[4:], crc32.ChecksumIEEE([]byte{2, 0, 0, 0, 2, 0}))
		if !bytes.Equal(d.Read(0), want) || d.Size(1) != 0 || d.Pending(0) != 0 || d.Pending(1) != 0 {
			t.Fatalf("%x, %x", d.Read(0), d.Read(1))
		}
		if s.Last() != 0 || s.From() != 0 || s.Size() != 10 {
			t.Fatal(s.Last(), s.From(), s.Size())
		}
		if !bytes.Equal(d.Crash(0, 0).Read(0), want) {
			t.Fatal("the first head is not certain")
		}
	}
	openSides(t, api.OK, side{}, side{})
}

// P6.1: a head in file 0 alone, in file 1 alone, in both with either G greater and with equal ones.
func TestOpenHeads(t *testing.T) {
	for _, g := range []int{1, 2, 63, 64, 1000, 1<<32 + 1, most - 1} {
		for _, s := range []int{0, 1, 63, 64, 1 << 40, most - 3} {
			one := sure(headRec(g, s, "one"), entryRec(s+1, "a"), entryRec(s+2, "b"))
			openSides(t, api.OK, one, side{})
			openSides(t, api.OK, side{}, one)
			openSides(t, api.OK, one, sure([]byte("torn")))
			openSides(t, api.OK, sure(rec([]byte{0, 0})), one)
			for _, by := range []int{-1, 0, 1} {
				two := sure(headRec(g+by, 7, "two"), entryRec(8, "c"))
				openSides(t, api.OK, one, two)
				openSides(t, api.OK, two, one)
			}
		}
	}
	d := diskOf(sure(headRec(5, 1, "zero")), sure(headRec(5, 2, "one")))
	s, snap, _, e := store.Open(d)
	if e != api.OK || string(snap) != "zero" || s.From() != 1 || d.Size(1) != 0 {
		t.Fatal("of equal ones file 0 counts:", e, string(snap))
	}
	d = diskOf(sure(headRec(5, 1, "zero")), sure(headRec(6, 2, "one")))
	s, snap, _, e = store.Open(d)
	if e != api.OK || string(snap) != "one" || s.From() != 2 || d.Size(0) != 0 || d.Crash(0, 0).Size(0) != 0 {
		t.Fatal("the greater one counts:", e, string(snap))
	}
}

// P6.1: G and S at their bounds and beyond, a head whose numbers are cut off or written in another way.
func TestOpenBounds(t *testing.T) {
	var firsts [][]byte
	for _, v := range []int{math.MinInt, -1 << 60, -2, -1, 0, 1, 2, most - 1, most, most + 1, 1 << 61, 1 << 62, math.MaxInt} {
		firsts = append(firsts, numbers(v), numbers(v, 0), numbers(1, v), numbers(v, v), numbers(v, 1))
		firsts = append(firsts, numbers(v)[:len(numbers(v))-1], numbers(1, v)[:len(numbers(1, v))-1])
	}
	firsts = append(firsts, []byte{0x82, 0x00, 0x00}, []byte{0x02, 0x80, 0x00}, []byte{0x02, 0x80}, []byte("x"), bytes.Repeat([]byte{255}, 30))
	firsts = append(firsts, numbers(1), numbers(5), numbers(1, 1), numbers(5, 5, 6), []byte{0})
	good := sure(headRec(4, 9, "good"), entryRec(10, "a"))
	for _, b := range firsts {
		if len(b) == 0 {
			continue
		}
		for _, first := range []side{sure(rec(b)), sure(rec(b, []byte("snap"))), sure(rec(b), entryRec(1, "a"))} {
			d := diskOf(first, side{})
			if _, _, _, e := store.Open(d); e == api.ErrBytes {
				continue
			}
			openSides(t, api.OK, first, side{})
			openSides(t, api.OK, side{}, first)
			openSides(t, api.OK, first, first)
			openSides(t, api.OK, side{pending: first.certain}, side{pending: first.certain})
		}
		first := sure(rec(b))
		openSides(t, api.OK, first, good)
		openSides(t, api.OK, good, first)
	}
	for _, h := range []struct {
		g, s int
		ok   bool
	}{{1, 0, true}, {0, 0, false}, {-1, 0, false}, {1, -1, false}, {most, most, true}, {most + 1, 0, false}, {1, most + 1, false}} {
		d := diskOf(sure(headRec(h.g, h.s, "snap")))
		s, snap, _, e := store.Open(d)
		if e != api.OK || (string(snap) == "snap") != h.ok || h.ok && (s.From() != h.s || s.Last() != h.s) {
			t.Errorf("head %d, %d: %d, %q", h.g, h.s, e, snap)
		}
		if !h.ok && !bytes.Equal(d.Read(0), headRec(1, 0, "")) {
			t.Errorf("head %d, %d: %x", h.g, h.s, d.Read(0))
		}
	}
}

// P6.1: no head in any file: both are cut to no bytes, so that no crash brings them back.
func TestOpenNoHead(t *testing.T) {
	junk := [][]byte{nil, []byte("torn"), rec([]byte{0, 0}), slices.Concat(rec([]byte{0}), entryRec(1, "a")), entryRec(-1, "a"), bytes.Repeat([]byte{1}, 1000)}
	for _, a := range junk {
		for _, b := range junk {
			for _, sides := range [][]side{{sure(a), sure(b)}, {{pending: a}, {pending: b}}, {{a, b}, {b, a}}} {
				d := diskOf(sides...)
				s, snap, entries, e := store.Open(d)
				if e != api.OK || s.Last() != 0 || len(snap)+len(entries) != 0 {
					t.Fatal(e, snap, entries)
				}
				for _, x := range []*disk.Disk{d, d.Crash(0, 0), d.Crash(9, 9)} {
					if !bytes.Equal(x.Read(0), headRec(1, 0, "")) || x.Size(1) != 0 || x.Pending(0)+x.Pending(1) != 0 {
						t.Fatalf("%x, %x", x.Read(0), x.Read(1))
					}
				}
				openSides(t, api.OK, sides...)
			}
		}
	}
	// A file that has no bytes, but would have a head behind a crash.
	d := diskOf(sure(headRec(7, 1, "gone")), sure(headRec(8, 2, "gone")))
	must(t, d.Cut(0, 0), d.Cut(1, 0))
	_, snap, _, e := store.Open(d)
	if x := d.Crash(0, 0); e != api.OK || len(snap) != 0 || !bytes.Equal(x.Read(0), headRec(1, 0, "")) || x.Size(1) != 0 {
		t.Fatalf("%d, %x, %x", e, x.Read(0), x.Read(1))
	}
}

// P6.1: records behind the head: passed over, the next, a gap, none.
func TestOpenRecords(t *testing.T) {
	noNumber := [][]byte{{0x80}, {0xff, 0xff}, {0x80, 0x00}, {0x82, 0x00, 'a'}, bytes.Repeat([]byte{255}, 12), slices.Concat(bytes.Repeat([]byte{255}, 9), []byte{2})}
	for _, from := range []int{0, 1, 5, 63, 1 << 40, most} {
		head := headRec(3, from, "snap")
		three := slices.Concat(head, entryRec(from+1, "a"), entryRec(from+2, ""), entryRec(from+3, "c"))
		for _, n := range []int{math.MinInt, -1, 0, from - 1, from, from + 1, from + 2, from + 3} {
			openSides(t, api.OK, sure(three, entryRec(n, "over")), side{})
			openSides(t, api.OK, sure(three, entryRec(n, "over"), entryRec(from+4, "d"), entryRec(n, "again")), side{})
		}
		openSides(t, api.OK, sure(head, entryRec(from, "over"), entryRec(from+1, "a"), entryRec(from+1, "A"), entryRec(from+2, "b")), side{})
		for _, n := range []int{from + 5, from + 6, most + 9, math.MaxInt} {
			bad(t, slices.Concat(three, entryRec(n, "gap")))
			bad(t, slices.Concat(three, entryRec(n, "gap"), entryRec(from+4, "d")))
		}
		bad(t, slices.Concat(head, entryRec(from+2, "gap")))
		bad(t, slices.Concat(head, entryRec(math.MaxInt, "gap")))
		for _, b := range noNumber {
			bad(t, slices.Concat(head, rec(b)))
			bad(t, slices.Concat(three, rec(b)))
			bad(t, slices.Concat(three, rec(b), entryRec(from+4, "d")))
		}
	}
	d := diskOf(sure(headRec(1, 0, ""), entryRec(1, "a"), entryRec(0, "x"), entryRec(1, "y"), entryRec(2, "b")))
	s, _, entries, e := store.Open(d)
	if e != api.OK || fmt.Sprint(texts(entries)) != "[a b]" || s.Last() != 2 || s.From() != 0 {
		t.Fatal(e, texts(entries))
	}
}

// bad fails unless a file with these bytes is refused, wherever it counts, and the other file stays as it is.
func bad(t *testing.T, b []byte) {
	t.Helper()
	for _, other := range [][]byte{nil, headRec(2, 0, "other"), slices.Concat(headRec(1, 3, ""), entryRec(4, "a")), rec([]byte{0, 0})} {
		for i := range 2 {
			for _, certain := range []bool{false, true} {
				sides := []side{{pending: b}, {pending: b}}
				sides[1-i].pending = other
				if certain {
					sides[i], sides[1-i] = sure(b), sure(other)
				}
				d := diskOf(sides...)
				s, snap, entries, e := store.Open(d)
				if s != nil || len(snap) != 0 || len(entries) != 0 || e != api.ErrBytes {
					t.Fatalf("Open: %v, %q, %q, %d", s, snap, texts(entries), e)
				}
				same(t, d, diskOf(sides...))
			}
		}
	}
}

// P6.1: a wrong record in the file that does not count is no one's business.
func TestOpenWrongOther(t *testing.T) {
	wrong := sure(headRec(2, 0, "old"), entryRec(7, "gap"), rec([]byte{0x80}))
	right := sure(headRec(3, 0, "new"), entryRec(1, "a"))
	openSides(t, api.OK, wrong, right)
	openSides(t, api.OK, right, wrong)
	openSides(t, api.ErrBytes, sure(headRec(4, 0, ""), entryRec(2, "gap")), right)
	openSides(t, api.ErrBytes, right, sure(headRec(4, 0, ""), entryRec(2, "gap")))
	openSides(t, api.ErrBytes, sure(headRec(3, 0, ""), entryRec(2, "gap")), right)
}

// P6.1: of the other file what it has is cut off and that is certain; a file that has no bytes is left as it is, what is pending too.
func TestOpenOther(t *testing.T) {
	h := headRec(9, 4, "snap")
	for _, other := range []side{sure([]byte("torn")), {pending: []byte("torn")}, sure(headRec(1, 0, "")), {pending: headRec(2, 0, "x")}, {headRec(1, 0, ""), entryRec(1, "a")}} {
		d := diskOf(sure(h), other)
		if _, _, _, e := store.Open(d); e != api.OK || d.Size(1) != 0 || d.Pending(1) != 0 || d.Crash(0, 0).Size(1) != 0 {
			t.Fatal(e, d.Size(1), d.Pending(1))
		}
		openSides(t, api.OK, sure(h), other)
		openSides(t, api.OK, other, sure(h))
	}
	d := diskOf(side{pending: h}, sure([]byte("abc")))
	must(t, d.Cut(1, 0))
	if _, _, _, e := store.Open(d); e != api.OK || d.Pending(1) != 1 || d.Pending(0) != len(h) {
		t.Fatal("what has no bytes is left as it is:", e, d.Pending(0), d.Pending(1))
	}
	openSides(t, api.OK, side{h, entryRec(5, "a")}, side{})
}

// P6.1: a torn end is cut off, at each of the bytes of a file that counts.
func TestOpenTorn(t *testing.T) {
	b := slices.Concat(headRec(2, 1, "snapshot"), entryRec(2, "a"), entryRec(2, "over"), entryRec(3, ""), entryRec(4, "cde"))
	old := slices.Concat(headRec(1, 0, ""), entryRec(1, "old"))
	for n := range len(b) + 1 {
		openSides(t, api.OK, sure(b[:n]), side{})
		openSides(t, api.OK, sure(old), sure(b[:n]))
		openSides(t, api.OK, side{pending: b[:n]}, sure(old))
		turned := slices.Clone(b)
		turned[n%len(b)] ^= 4
		openSides(t, api.OK, sure(turned), sure(old))
	}
}

// P6.1: any files, of few kinds of records, certain and pending, told as the chapter's words tell them.
func TestOpenAny(t *testing.T) {
	c := chance(6)
	refused := 0
	for range 4000 {
		var sides [2]side
		for i := range sides {
			sides[i] = anySide(&c)
		}
		d, ref := diskOf(sides[:]...), diskOf(sides[:]...)
		s, _, e := opened(t, d, ref)
		if e == api.ErrBytes {
			refused++
			continue
		}
		if s == nil {
			t.Fatal(e)
		}
		opened(t, d, ref)
	}
	if refused < 200 || refused > 3000 {
		t.Errorf("%d refused: the files are too much alike", refused)
	}
}

// anySide is a file of few records, its end certain or pending, now and then torn.
func anySide(c *chance) side {
	var b []byte
	s := c.below(3)
	if c.below(5) > 0 {
		b = append(b, headRec(c.below(5), s, string(c.bytes(c.below(4))))...)
	}
	last := s
	for range c.below(5) {
		switch c.below(12) {
		case 0:
			b = append(b, rec(c.bytes(1+c.below(3)))...)
		case 1, 2, 3:
			b = append(b, entryRec(last-c.below(4), "over")...)
		case 4:
			b = append(b, entryRec(last+2, "gap")...)
		default:
			last++
			b = append(b, entryRec(last, string(c.bytes(c.below(5))))...)
		}
	}
	if c.below(4) == 0 && len(b) > 0 {
		b = b[:c.below(len(b))]
	}
	if c.below(4) == 0 {
		b = append(b, c.bytes(c.below(20))...)
	}
	at := c.below(len(b) + 1)
	return side{b[:at], b[at:]}
}

// P6.2, R2: the chapter's example; which numbers are taken, which pass, which are refused, whatever the bytes.
func TestAppend(t *testing.T) {
	d := disk.New()
	s, _, _, e := store.Open(d)
	must(t, e, s.Append(1, []byte("a")), s.Append(1, []byte("b")))
	if s.Append(3, []byte("c")) != api.ErrState {
		t.Error("Append(3)")
	}
	want := slices.Concat(headRec(1, 0, ""), entryRec(1, "a"))
	if !bytes.Equal(d.Read(0), want) || s.Last() != 1 || s.From() != 0 || s.Size() != len(want) || d.Pending(0) != 10 || d.Size(1) != 0 {
		t.Fatalf("%x, Last %d, Size %d", d.Read(0), s.Last(), s.Size())
	}
	tooLong := make([]byte, 1<<17)
	for _, c := range []struct {
		n int
		e api.Errno
	}{{math.MinInt, 8}, {-2, 8}, {-1, 8}, {0, 8}, {1, 0}, {3, 8}, {4, 8}, {most, 8}, {math.MaxInt, 8}} {
		for _, b := range [][]byte{nil, {}, []byte("x"), tooLong} {
			if e := s.Append(c.n, b); e != c.e {
				t.Errorf("Append(%d, %d bytes): %d, want %d", c.n, len(b), e, c.e)
			}
		}
	}
	if !bytes.Equal(d.Read(0), want) || s.Last() != 1 || d.Pending(0) != 10 {
		t.Fatalf("%x, Last %d", d.Read(0), s.Last())
	}
	must(t, s.Append(2, nil), s.Append(3, []byte("")), s.Append(2, tooLong), s.Append(4, []byte("d")))
	if s.Append(5, tooLong) != api.ErrArg || s.Last() != 4 {
		t.Error(s.Last())
	}
	want = slices.Concat(want, entryRec(2, ""), entryRec(3, ""), entryRec(4, "d"))
	if !bytes.Equal(d.Read(0), want) || s.Size() != len(want) {
		t.Fatalf("%x", d.Read(0))
	}
	_, _, entries, e := store.Open(d)
	if e != api.OK || !slices.Equal(texts(entries), []string{"a", "", "", "d"}) {
		t.Fatal(e, texts(entries))
	}
}

// P6.2: behind a snapshot with S the numbers go on; those at most S pass, and 0 and below are refused all the same.
func TestAppendBehindSnapshot(t *testing.T) {
	for _, from := range []int{1, 5, 63, 64, 8191, 8192, 1 << 40, most - 1, most} {
		d := diskOf(side{}, sure(headRec(2, from, "snap")))
		s, _, _, e := store.Open(d)
		must(t, e)
		for _, c := range []struct {
			n int
			e api.Errno
		}{{0, 8}, {-1, 8}, {1, 0}, {from, 0}, {from + 2, 8}} {
			if e := s.Append(c.n, []byte("x")); e != c.e || s.Last() != from || s.From() != from {
				t.Fatalf("from %d: Append(%d): %d", from, c.n, e)
			}
		}
		must(t, s.Append(from+1, []byte("a")), s.Append(from+2, []byte("b")), s.Append(from+1, []byte("c")))
		if s.Last() != from+2 || s.From() != from {
			t.Fatal(s.Last(), s.From())
		}
		want := slices.Concat(headRec(2, from, "snap"), entryRec(from+1, "a"), entryRec(from+2, "b"))
		if !bytes.Equal(d.Read(1), want) || s.Size() != len(want) || d.Size(0) != 0 {
			t.Fatalf("%x", d.Read(1))
		}
	}
}

// P6.2: a record of just MaxRecord bytes, and of one more, with numbers of one byte and of more.
func TestAppendLong(t *testing.T) {
	for _, from := range []int{0, 62, 63, 64, 8191, 1 << 40, most} {
		d := diskOf(sure(headRec(1, from, "")))
		s, _, _, e := store.Open(d)
		must(t, e)
		room := api.MaxRecord - len(numbers(from+1))
		b := bytes.Repeat([]byte("x"), room+2)
		if s.Append(from+1, b[:room+1]) != api.ErrArg || s.Append(from+1, b) != api.ErrArg || s.Last() != from || d.Pending(0) != 0 {
			t.Fatalf("from %d: one more", from)
		}
		must(t, s.Append(from+1, b[:room]))
		if s.Last() != from+1 || !bytes.Equal(d.Read(0), slices.Concat(headRec(1, from, ""), entryRec(from+1, string(b[:room])))) {
			t.Fatalf("from %d: just MaxRecord", from)
		}
		_, _, entries, e := store.Open(d)
		if e != api.OK || len(entries) != 1 || !bytes.Equal(entries[0], b[:room]) {
			t.Fatal(e, len(entries))
		}
	}
}

// P6.2, R2: a full disk takes nothing of a record; what fits still goes; a snapshot makes room.
func TestAppendFull(t *testing.T) {
	d := disk.New()
	s, _, _, e := store.Open(d)
	must(t, e)
	b := bytes.Repeat([]byte("x"), api.MaxRecord-3)
	n := 0
	for ; e == api.OK; n++ {
		e = s.Append(n+1, b)
	}
	last := n - 1
	if e != api.ErrFull || s.Last() != last || last < 200 {
		t.Fatal(e, s.Last(), n)
	}
	left := api.MaxLog - s.Size() - 8 - len(numbers(last+1))
	if left < 0 || left >= len(b) {
		t.Fatal("room", left)
	}
	size, pending := s.Size(), d.Pending(0)
	if s.Append(last+1, b[:left+1]) != api.ErrFull || s.Append(last+2, nil) != api.ErrState || s.Append(last+1, make([]byte, api.MaxRecord)) != api.ErrArg || s.Append(last, b) != api.OK {
		t.Fatal("errors at a full disk")
	}
	if s.Last() != last || s.Size() != size || d.Pending(0) != pending {
		t.Fatal(s.Last(), s.Size())
	}
	must(t, s.Append(last+1, b[:left]))
	if s.Last() != last+1 || s.Size() != api.MaxLog || s.Append(last+2, nil) != api.ErrFull {
		t.Fatal(s.Last(), s.Size())
	}
	must(t, s.Sync())
	_, _, entries, e := store.Open(d.Crash(0, 0))
	if e != api.OK || len(entries) != last+1 || len(entries[last]) != left {
		t.Fatal(e, len(entries))
	}
	must(t, s.Check([]byte("snap")), s.Append(last+2, b))
	if s.From() != last+1 || s.Last() != last+2 || d.Size(0) != 0 {
		t.Fatal(s.From(), s.Last())
	}
}

// P6.2: Sync makes certain what was appended, Append alone does not.
func TestSync(t *testing.T) {
	for i := range 2 {
		sides := make([]side, 2)
		sides[i] = sure(headRec(1, 0, "snap"))
		d := diskOf(sides...)
		s, _, _, e := store.Open(d)
		must(t, e, s.Append(1, []byte("a")))
		if d.Pending(i) != 10 || d.Crash(0, 0).Size(i) != d.Size(i)-10 {
			t.Fatal("Append makes nothing certain")
		}
		size, last, from := s.Size(), s.Last(), s.From()
		must(t, s.Sync())
		if d.Pending(i) != 0 || s.Size() != size || s.Last() != last || s.From() != from || !bytes.Equal(d.Crash(0, 0).Read(i), d.Read(i)) {
			t.Fatal("Sync")
		}
		must(t, s.Sync(), s.Append(2, []byte("b")), s.Append(3, []byte("c")), s.Sync(), s.Append(4, []byte("d")))
		_, _, entries, e := store.Open(d.Crash(0, 0))
		if e != api.OK || fmt.Sprint(texts(entries)) != "[a b c]" {
			t.Fatal(e, texts(entries))
		}
	}
}

// P6.2: Sync is the counting file's alone.
func TestSyncOther(t *testing.T) {
	for i := range 2 {
		sides := make([]side, 2)
		sides[i] = sure(headRec(1, 0, "snap"))
		d := diskOf(sides...)
		s, _, _, e := store.Open(d)
		must(t, e, d.Append(1-i, []byte("abc")), s.Append(1, nil), s.Sync())
		if d.Pending(1-i) != 3 || d.Pending(i) != 0 || s.Size() != d.Size(i) {
			t.Fatal(d.Pending(0), d.Pending(1))
		}
	}
}

// P6.3: both files, Last, From and Size behind a snapshot; then entries and snapshots again, so that the files change places.
func TestCheck(t *testing.T) {
	d := disk.New()
	s, _, _, e := store.Open(d)
	must(t, e)
	last, g := 0, 1
	for turn := range 200 {
		snap := fmt.Sprint("snap", turn)
		if turn%5 == 0 {
			snap = ""
		}
		for range turn % 4 {
			last++
			must(t, s.Append(last, fmt.Append(nil, last)))
		}
		if turn%3 == 0 {
			must(t, s.Sync())
		}
		must(t, s.Check([]byte(snap)))
		g++
		file := (g - 1) % 2
		want := headRec(g, last, snap)
		if !bytes.Equal(d.Read(file), want) || d.Size(1-file) != 0 || d.Pending(0)+d.Pending(1) != 0 {
			t.Fatalf("turn %d: %x, %x", turn, d.Read(file), d.Read(1-file))
		}
		if s.Last() != last || s.From() != last || s.Size() != len(want) {
			t.Fatal(turn, s.Last(), s.From(), s.Size())
		}
		x := d.Crash(0, 0)
		if !bytes.Equal(x.Read(file), want) || x.Size(1-file) != 0 {
			t.Fatal("the snapshot is not certain")
		}
		o, told, entries, e := store.Open(d)
		if e != api.OK || string(told) != snap || len(entries) != 0 || o.Last() != last || o.From() != last {
			t.Fatal(turn, e, told, entries)
		}
		if s.Append(last+2, nil) != api.ErrState || s.Append(last, nil) != api.OK && last > 0 {
			t.Fatal("Append behind a snapshot")
		}
	}
}

// P6.3, R2: a snapshot of just as many bytes as a head may have, and of one more: then nothing is done.
func TestCheckLong(t *testing.T) {
	for _, g := range []int{1, 62, 63, 64, 1 << 40, most - 1} {
		for _, from := range []int{0, 63, 64, most} {
			d := diskOf(sure(headRec(g, from, "old")))
			s, _, _, e := store.Open(d)
			must(t, e, s.Append(from+1, []byte("a")), s.Sync(), s.Append(from+2, []byte("b")), d.Append(1, []byte("junk")))
			room := api.MaxRecord - len(numbers(g+1, from+2))
			snap := bytes.Repeat([]byte("s"), 1<<17)
			a, b, p, q := d.Read(0), d.Read(1), d.Pending(0), d.Pending(1)
			for _, n := range []int{room + 1, room + 2, api.MaxRecord, api.MaxRecord + 1, 1 << 17} {
				if e := s.Check(snap[:n]); e != api.ErrArg {
					t.Fatalf("%d bytes: %d", n, e)
				}
			}
			if !bytes.Equal(d.Read(0), a) || !bytes.Equal(d.Read(1), b) || d.Pending(0) != p || d.Pending(1) != q {
				t.Fatal("a refused Check turns nothing")
			}
			if s.Last() != from+2 || s.From() != from || s.Size() != len(a) {
				t.Fatal(s.Last(), s.From(), s.Size())
			}
			must(t, s.Check(snap[:room]))
			want := headRec(g+1, from+2, string(snap[:room]))
			if !bytes.Equal(d.Read(1), want) || d.Size(0) != 0 || s.From() != from+2 || s.Size() != api.MaxRecord+8 {
				t.Fatal(g, from, d.Size(1), d.Size(0))
			}
			must(t, s.Append(from+3, []byte("c")))
			if !bytes.Equal(d.Read(1), append(want, entryRec(from+3, "c")...)) {
				t.Fatal("Append behind it")
			}
		}
	}
}

// P6.3: what another one left in the other file goes, certain or not, even at a full one.
func TestCheckOther(t *testing.T) {
	for _, junk := range [][]byte{[]byte("junk"), headRec(99, 7, "junk"), make([]byte, api.MaxLog)} {
		for _, certain := range []bool{false, true} {
			d := disk.New()
			s, _, _, e := store.Open(d)
			must(t, e, s.Append(1, []byte("a")), d.Append(1, junk))
			if certain {
				must(t, d.Sync(1))
			}
			must(t, s.Check([]byte("snap")))
			for _, x := range []*disk.Disk{d, d.Crash(0, 0)} {
				if !bytes.Equal(x.Read(1), headRec(2, 1, "snap")) || x.Size(0) != 0 {
					t.Fatalf("%.60x", x.Read(1))
				}
			}
		}
	}
}

// R3, R6: what is handed in is neither turned nor kept; what is told shares nothing with the disk, nor with itself.
func TestOwnMemory(t *testing.T) {
	d := disk.New()
	s, _, _, e := store.Open(d)
	must(t, e)
	b := append(make([]byte, 0, 64), "entry"...)
	whole := slices.Clone(b[:64])
	must(t, s.Append(1, b))
	spare := slices.Clone(b[:64])
	spoil(b)
	snap := append(make([]byte, 0, 64), "snap!"...)
	must(t, s.Check(snap))
	if !bytes.Equal(spare, whole) || !bytes.Equal(snap[:64], append([]byte("snap!"), make([]byte, 59)...)) {
		t.Fatal("what was handed in is turned")
	}
	spoil(snap)
	must(t, s.Append(2, []byte("x")), s.Append(3, nil), s.Append(4, []byte("y")), s.Append(5, []byte("z")))
	for range 3 {
		_, told, entries, e := store.Open(d)
		if e != api.OK || string(told) != "snap!" || !slices.Equal(texts(entries), []string{"x", "", "y", "z"}) {
			t.Fatal(e, string(told), texts(entries))
		}
		spoil(told)
		if !slices.Equal(texts(entries), []string{"x", "", "y", "z"}) {
			t.Fatal("the snapshot shares with entries")
		}
		for i, b := range entries {
			left := texts(entries[i+1:])
			spoil(b)
			if !slices.Equal(texts(entries[i+1:]), left) {
				t.Fatal("entries share")
			}
		}
	}
}

// R4: stores on two disks have nothing in common.
func TestTwoStores(t *testing.T) {
	d, x := disk.New(), disk.New()
	s, _, _, e := store.Open(d)
	o, _, _, f := store.Open(x)
	must(t, e, f, s.Append(1, []byte("a")), s.Append(2, []byte("b")), s.Check([]byte("s")), o.Append(1, []byte("o")))
	if o.Last() != 1 || o.From() != 0 || s.Last() != 2 || s.From() != 2 || x.Size(1) != 0 {
		t.Fatal(o.Last(), o.From(), s.Last())
	}
	if !bytes.Equal(x.Read(0), slices.Concat(headRec(1, 0, ""), entryRec(1, "o"))) {
		t.Fatalf("%x", x.Read(0))
	}
}

// P6.1, P6.2, P6.3: long ways of calls of any kind, crashes among them, held against the chapter's words at each step.
func TestLongWays(t *testing.T) {
	c := chance(60)
	for range 60 {
		d, ref := disk.New(), disk.New()
		s, p, _ := opened(t, d, ref)
		for range 60 {
			switch c.below(12) {
			case 0:
				snap := c.bytes(c.below(20))
				if got, want := s.Check(snap), p.Check(snap); got != want {
					t.Fatalf("Check: %d, want %d", got, want)
				}
			case 1, 2:
				must(t, s.Sync(), ref.Sync(p.file))
			case 3:
				s, p, _ = opened(t, d, ref)
			case 4:
				a, b := c.below(d.Pending(0)+3)-1, c.below(d.Pending(1)+3)-1
				d, ref = d.Crash(a, b), ref.Crash(a, b)
				s, p, _ = opened(t, d, ref)
			default:
				n, b := p.last+1, c.bytes(c.below(6))
				if c.below(3) == 0 {
					n += c.below(9) - 5
				}
				if got, want := s.Append(n, b), p.Append(n, b); got != want {
					t.Fatalf("Append(%d): %d, want %d", n, got, want)
				}
			}
			same(t, d, ref)
			agrees(t, s, p)
		}
	}
}
