package store_test

import (
	"bytes"
	"fmt"
	"slices"
	"strings"
	"testing"

	"skep/api"
	"skep/disk"
	"skep/store"
)

// story is what a store was told: its snapshot says all entries up to one, the others stand behind it.
type story struct {
	entries []string
	from    int
	certain int
}

// snapOf is a snapshot of the first n entries.
func (y *story) snapOf(n int) string { return strings.Join(y.entries[:n], ",") }

// holds opens a disk behind a crash and fails unless a beginning of the story is told, with all that was certain.
func (y *story) holds(t *testing.T, d *disk.Disk, froms ...int) {
	t.Helper()
	s, snap, entries, e := store.Open(d)
	if e != api.OK {
		t.Fatalf("behind a crash: error %d", e)
	}
	if !slices.Contains(froms, s.From()) {
		t.Fatalf("behind a crash: From %d, want one of %d", s.From(), froms)
	}
	if string(snap) != y.snapOf(s.From()) {
		t.Fatalf("behind a crash: snapshot %q of %d", snap, s.From())
	}
	if s.Last() != s.From()+len(entries) || s.Last() < y.certain || s.Last() > len(y.entries) {
		t.Fatalf("behind a crash: Last %d, of %d, certain %d", s.Last(), len(y.entries), y.certain)
	}
	if !slices.Equal(texts(entries), y.entries[s.From():s.Last()]) {
		t.Fatalf("behind a crash: %q from %d on, of %q", texts(entries), s.From(), y.entries)
	}
	// And it goes on: what is appended now is told by the next Open, behind a crash too.
	must(t, s.Append(s.Last()+1, []byte("next")), s.Sync())
	_, _, more, e := store.Open(d.Crash(0, 0))
	if e != api.OK || len(more) != len(entries)+1 || string(more[len(entries)]) != "next" {
		t.Fatalf("behind a crash and on: %d, %q", e, texts(more))
	}
}

// crashes crashes a disk at each place: each number of units of either file.
func (y *story) crashes(t *testing.T, d *disk.Disk, froms ...int) {
	t.Helper()
	for a := -1; a <= d.Pending(0)+1; a++ {
		for b := -1; b <= d.Pending(1)+1; b++ {
			y.holds(t, d.Crash(a, b), froms...)
		}
	}
}

// withinCheck crashes at each place within Check, its steps done one by one on disks that a crash had left.
func (y *story) withinCheck(t *testing.T, d *disk.Disk, file, g int) {
	t.Helper()
	last := len(y.entries)
	head := headRec(g+1, last, y.snapOf(last))
	for n := range d.Pending(file) + 1 {
		// Nothing is pending in the other file, so n is the units of this one.
		x := d.Crash(n, n)
		must(t, x.Cut(1-file, 0))
		y.crashes(t, x, y.from)
		must(t, x.Append(1-file, head))
		for k := range len(head) + 2 {
			froms := []int{y.from}
			if k > len(head) {
				froms = []int{last}
			}
			y.holds(t, x.Crash(k, k), froms...)
		}
		must(t, x.Sync(1-file))
		y.holds(t, x.Crash(0, 0), last)
		must(t, x.Cut(file, 0))
		y.crashes(t, x, last)
		must(t, x.Sync(file))
		y.crashes(t, x, last)
	}
}

// P6.4: a crash at each place, then Open: all that was certain, maybe more of what was appended, in order, no gap.
func TestCrashAnywhere(t *testing.T) {
	c := chance(64)
	for range 12 {
		d := disk.New()
		s, _, _, e := store.Open(d)
		must(t, e)
		y := &story{}
		g, file := 1, 0
		for range 25 {
			switch c.below(8) {
			case 0:
				y.withinCheck(t, d, file, g)
				must(t, s.Check([]byte(y.snapOf(len(y.entries)))))
				g, file = g+1, 1-file
				y.from, y.certain = len(y.entries), len(y.entries)
			case 1:
				must(t, s.Sync())
				y.certain = len(y.entries)
			default:
				text := strings.Repeat("e", c.below(4)) + fmt.Sprint(len(y.entries))
				y.entries = append(y.entries, text)
				must(t, s.Append(len(y.entries), []byte(text)))
			}
			y.crashes(t, d, y.from)
		}
	}
}

// P6.4: a crash within Append, or within the Sync behind it, leaves of a record all or nothing.
func TestCrashWithinAppend(t *testing.T) {
	d := disk.New()
	s, _, _, e := store.Open(d)
	must(t, e, s.Append(1, []byte("certain")), s.Sync(), s.Append(2, []byte("second")), s.Append(3, []byte("third")))
	second, third := len(entryRec(2, "second")), len(entryRec(3, "third"))
	for n := range second + third + 1 {
		want := []string{"certain"}
		if n >= second {
			want = append(want, "second")
		}
		if n >= second+third {
			want = append(want, "third")
		}
		x := d.Crash(n, 0)
		_, _, entries, e := store.Open(x)
		if e != api.OK || !slices.Equal(texts(entries), want) {
			t.Fatal(n, e, texts(entries))
		}
		left := headRec(1, 0, "")
		for i, b := range want {
			left = append(left, entryRec(i+1, b)...)
		}
		if !bytes.Equal(x.Crash(0, 0).Read(0), left) {
			t.Fatal(n, "what is torn is not cut off for good")
		}
	}
}

// P6.4: a crash at each place of the first Open: nothing was told yet, and the next one begins anew.
func TestCrashWithinOpen(t *testing.T) {
	junk := [][]byte{nil, []byte("junk"), rec([]byte{0, 0})}
	first := headRec(1, 0, "")
	for _, a := range junk {
		for _, b := range junk {
			y := &story{}
			d := diskOf(sure(a), sure(b))
			must(t, d.Cut(0, 0))
			y.crashes(t, d, 0)
			must(t, d.Sync(0), d.Cut(1, 0))
			y.crashes(t, d, 0)
			must(t, d.Sync(1), d.Append(0, first))
			y.crashes(t, d, 0)
			must(t, d.Sync(0))
			y.crashes(t, d, 0)
		}
	}
}

// P6.4: a crash between the steps by which Open empties the file that lost: the same is told again.
func TestCrashWithinEmptying(t *testing.T) {
	old := slices.Concat(headRec(1, 0, ""), entryRec(1, "a"), entryRec(2, "b"))
	fresh := headRec(2, 2, "a,b")
	for i := range 2 {
		sides := []side{sure(old), sure(old)}
		sides[1-i] = sure(fresh)
		d := diskOf(sides...)
		must(t, d.Cut(i, 0))
		y := &story{entries: []string{"a", "b"}, from: 2, certain: 2}
		y.crashes(t, d, 2)
		o, snap, entries, e := store.Open(diskOf(sides...))
		if e != api.OK || !bytes.Equal(snap, []byte("a,b")) || len(entries) != 0 || o.Last() != 2 {
			t.Fatal(e, snap, entries)
		}
	}
}
