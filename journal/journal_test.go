package journal_test

import (
	"bytes"
	"math"
	"testing"

	"dynamo/api"
	"dynamo/journal"
	"dynamo/slot"
)

func record(seq uint32, mode int) api.Record {
	return api.Record{Seq: seq, Mode: mode, Locks: uint32(mode), Q1: api.Span{Lo: 1, Hi: int64(mode)}, Q2: api.Span{Lo: int64(mode), Hi: 100}}
}

// memory has what the two slots are; a Mode of 0: none.
func memory(t *testing.T, a, b api.Record) []byte {
	t.Helper()
	nv := make([]byte, 0, api.NV)
	for _, r := range []api.Record{a, b} {
		if r.Mode == 0 {
			nv = append(nv, make([]byte, slot.Size)...)
			continue
		}
		s, err := slot.Bytes(r)
		if err != nil {
			t.Fatal(err)
		}
		nv = append(nv, s...)
	}
	return nv
}

func TestLater(t *testing.T) {
	for _, c := range []struct {
		a, b uint32
		want bool
	}{
		{0, 0, false}, {1, 0, true}, {0, 1, false}, {0, math.MaxUint32, true}, {math.MaxUint32, 0, false},
		{1<<31 - 1, 0, true}, {1 << 31, 0, false}, {1<<31 + 1, 0, false}, {0, 1 << 31, false}, {0, 1<<31 + 1, true},
		{5, 1<<31 + 6, true}, {5, 1<<31 + 5, false}, {100, 99, true}, {99, 100, false},
	} {
		if got := journal.Later(c.a, c.b); got != c.want {
			t.Errorf("Later(%d, %d) = %v", c.a, c.b, got)
		}
	}
}

func TestNewestAndRecover(t *testing.T) {
	no := api.Record{}
	for i, c := range []struct {
		a, b api.Record
		want int
	}{
		{no, no, -1},
		{record(9, 1), no, 0},
		{no, record(9, 2), 1},
		{record(9, 1), record(8, 2), 0},
		{record(9, 1), record(10, 2), 1},
		{record(9, 1), record(9, 2), 0},
		{record(9, 1), record(9+1<<31, 2), 0}, // neither is later
		{record(9+1<<31, 1), record(9, 2), 0},
		{record(math.MaxUint32, 1), record(0, 2), 1},
		{record(0, 1), record(math.MaxUint32, 2), 0},
		{record(0, 1), record(1<<31-1, 2), 1},
		{record(0, 1), record(1<<31+1, 2), 0},
	} {
		nv := memory(t, c.a, c.b)
		if got := journal.Newest(nv); got != c.want {
			t.Errorf("%d: Newest %d, want %d", i, got, c.want)
		}
		got, err := journal.Recover(nv)
		switch c.want {
		case -1:
			if got != no || err != api.ErrNone {
				t.Errorf("%d: %v, %v", i, got, err)
			}
		case 0:
			if got != c.a || err != nil {
				t.Errorf("%d: %v, %v", i, got, err)
			}
		case 1:
			if got != c.b || err != nil {
				t.Errorf("%d: %v, %v", i, got, err)
			}
		}
	}
}

func TestNewestPassesOverTorn(t *testing.T) {
	nv := memory(t, record(9, 1), record(10, 2))
	nv[slot.Size+20]++
	if got := journal.Newest(nv); got != 0 {
		t.Errorf("the second torn: %d", got)
	}
	nv[3]++
	if got := journal.Newest(nv); got != -1 {
		t.Errorf("both torn: %d", got)
	}
	nv[slot.Size+20]--
	if got := journal.Newest(nv); got != 1 {
		t.Errorf("the first torn: %d", got)
	}
}

func TestWrongSizes(t *testing.T) {
	whole := memory(t, record(9, 1), record(10, 2))
	for _, c := range []struct {
		nv   []byte
		want error
	}{{nil, api.ErrShort}, {whole[:87], api.ErrShort}, {whole[:44], api.ErrShort}, {append(bytes.Clone(whole), 0), api.ErrLong}, {append(bytes.Clone(whole), whole...), api.ErrLong}} {
		if got := journal.Newest(c.nv); got != -1 {
			t.Errorf("%d bytes: Newest %d", len(c.nv), got)
		}
		if r, err := journal.Recover(c.nv); r != (api.Record{}) || err != c.want {
			t.Errorf("%d bytes: Recover %v, %v", len(c.nv), r, err)
		}
		for _, r := range []api.Record{record(1, 1), {}} { // the memory's error comes first
			if l, err := journal.Writes(c.nv, r); len(l) != 0 || err != c.want {
				t.Errorf("%d bytes: Writes %v, %v", len(c.nv), l, err)
			}
		}
	}
	if r, err := journal.Recover(make([]byte, 88)); r != (api.Record{}) || err != api.ErrNone {
		t.Errorf("88 bytes 0: %v, %v", r, err)
	}
	for _, r := range []api.Record{{}, {Mode: 6}, {Mode: 1, Locks: 1 << 21}, {Mode: 1, Q1: api.Span{Lo: 1}}} {
		if l, err := journal.Writes(whole, r); len(l) != 0 || err != api.ErrRange {
			t.Errorf("Writes of %v: %v, %v", r, l, err)
		}
	}
}

func TestWrites(t *testing.T) {
	no := api.Record{}
	for i, c := range []struct {
		a, b      api.Record
		into, seq int
	}{
		{no, no, 0, 1},
		{record(9, 1), no, 1, 10},
		{no, record(9, 1), 0, 10},
		{record(9, 1), record(10, 2), 0, 11},
		{record(9, 1), record(8, 2), 1, 10},
		{record(9, 1), record(9, 2), 1, 10},
		{record(math.MaxUint32, 1), no, 1, 0},
		{record(math.MaxUint32, 1), record(0, 1), 0, 1},
		{record(7, 1), record(7+1<<31, 1), 1, 8},
	} {
		nv := memory(t, c.a, c.b)
		kept := bytes.Clone(nv)
		r := record(77, 3)
		l, err := journal.Writes(nv, r)
		if err != nil {
			t.Fatal(err)
		}
		r.Seq = uint32(c.seq)
		b, _ := slot.Bytes(r)
		at := c.into * slot.Size
		want := []journal.Write{{At: at, B: 0}}
		for j := 1; j < slot.Size; j++ {
			want = append(want, journal.Write{At: at + j, B: b[j]})
		}
		want = append(want, journal.Write{At: at, B: slot.Mark})
		if len(l) != len(want) {
			t.Fatalf("%d: %d writes", i, len(l))
		}
		for j := range l {
			if l[j] != want[j] {
				t.Errorf("%d: write %d is %v, want %v", i, j, l[j], want[j])
			}
		}
		if !bytes.Equal(nv, kept) {
			t.Errorf("%d: the memory was changed", i)
		}
		last, lastErr := journal.Recover(nv)
		for n := range len(l) + 1 {
			got, err := journal.Recover(journal.Apply(nv, l, n))
			if n < len(l) && (got != last || err != lastErr) || n == len(l) && (got != r || err != nil) {
				t.Errorf("%d: %d done: %v, %v", i, n, got, err)
			}
		}
	}
}

func TestManyRecordsTornAnywhere(t *testing.T) {
	nv := make([]byte, api.NV)
	for i := range 40 {
		nv[i*2%88] = byte(i) // what stood there before counts for nothing
	}
	last, lastErr := journal.Recover(nv)
	for i := range 60 {
		r := record(uint32(i), 1+i%5)
		l, err := journal.Writes(nv, r)
		if err != nil {
			t.Fatal(err)
		}
		for n := range len(l) {
			if got, err := journal.Recover(journal.Apply(nv, l, n)); got != last || err != lastErr {
				t.Fatalf("%d: %d done: %v, %v, want %v", i, n, got, err, last)
			}
		}
		if i%3 == 1 { // torn: it is lost, and the next one comes behind the same record
			nv = journal.Apply(nv, l, i%len(l))
			continue
		}
		nv = journal.Apply(nv, l, len(l))
		r.Seq = last.Seq + 1
		if got, err := journal.Recover(nv); got != r || err != nil {
			t.Fatalf("%d: %v, %v, want %v", i, got, err, r)
		}
		last, lastErr = r, nil
	}
}

func TestApply(t *testing.T) {
	nv := []byte{1, 2, 3}
	l := []journal.Write{{At: 0, B: 9}, {At: -1, B: 8}, {At: 3, B: 7}, {At: 2, B: 6}, {At: math.MinInt, B: 1}, {At: math.MaxInt, B: 1}, {At: 0, B: 5}}
	for n, want := range map[int][]byte{
		math.MinInt: {1, 2, 3}, -1: {1, 2, 3}, 0: {1, 2, 3}, 1: {9, 2, 3}, 2: {9, 2, 3}, 3: {9, 2, 3},
		4: {9, 2, 6}, 6: {9, 2, 6}, 7: {5, 2, 6}, 8: {5, 2, 6}, math.MaxInt: {5, 2, 6},
	} {
		got := journal.Apply(nv, l, n)
		if !bytes.Equal(got, want) {
			t.Errorf("Apply of %d: %v, want %v", n, got, want)
		}
		got[1] = 99
		if !bytes.Equal(nv, []byte{1, 2, 3}) {
			t.Fatal("the copy shares the memory")
		}
	}
	if got := journal.Apply(nil, l, 7); len(got) != 0 {
		t.Errorf("Apply to nothing: %v", got)
	}
}
