package fresh_test

import (
	"math"
	"testing"

	"dynamo/api"
	"dynamo/fresh"
)

func TestNewer(t *testing.T) {
	for a := range 256 {
		for b := range 256 {
			d := (a - b + 256) % 256
			if got, want := fresh.Newer(byte(a), byte(b)), d >= 1 && d <= 127; got != want {
				t.Errorf("Newer(%d, %d) = %v", a, b, got)
			}
		}
	}
	if !fresh.Newer(0, 255) {
		t.Error("0 isn't newer than 255")
	}
}

func none(t *testing.T, b *fresh.Bank, ch int) {
	t.Helper()
	if v, ok := b.Get(ch); v != 0 || ok || b.Age(ch) != api.MaxCycle {
		t.Errorf("channel %d: %d, %v, age %d", ch, v, ok, b.Age(ch))
	}
}

func TestNoSamples(t *testing.T) {
	for _, s := range []int{0, 5, api.MaxCycle, math.MaxInt} {
		b := fresh.New(s)
		for ch := -2; ch < api.Channels+2; ch++ {
			none(t, b, ch)
		}
		b.Tick()
		for ch := range api.Channels {
			none(t, b, ch)
		}
	}
}

func TestAgesAndFreshness(t *testing.T) {
	for s := range 4 {
		b := fresh.New(s)
		for ch := 1; ch < api.Channels; ch++ {
			if !b.Put(ch, byte(ch), int64(1000+ch)) {
				t.Errorf("Put(%d) refused", ch)
			}
		}
		for age := range api.MaxCycle + 5 {
			for ch := 1; ch < api.Channels; ch += 23 {
				v, ok := b.Get(ch)
				if v != int64(1000+ch) || ok != (age <= s) || b.Age(ch) != min(age, api.MaxCycle) {
					t.Fatalf("s %d, channel %d, age %d: %d, %v, %d", s, ch, age, v, ok, b.Age(ch))
				}
			}
			b.Tick()
		}
	}
}

func TestCutOfS(t *testing.T) {
	for s, want := range map[int]int{-1: 0, math.MinInt: 0, 0: 0, 1: 1, 999: 999} {
		b := fresh.New(s)
		b.Put(1, 0, 3)
		for range want {
			b.Tick()
		}
		if _, ok := b.Get(1); !ok {
			t.Errorf("New(%d): not fresh at age %d", s, want)
		}
		b.Tick()
		if _, ok := b.Get(1); ok {
			t.Errorf("New(%d): fresh at age %d", s, want+1)
		}
	}
	for _, s := range []int{api.MaxCycle, api.MaxCycle + 1, math.MaxInt} {
		b := fresh.New(s)
		b.Put(1, 0, 3)
		for range api.MaxCycle + 3 {
			b.Tick()
		}
		if _, ok := b.Get(1); !ok || b.Age(1) != api.MaxCycle {
			t.Errorf("New(%d): age %d isn't fresh", s, b.Age(1))
		}
	}
}

func TestPutOnlyNewer(t *testing.T) {
	b := fresh.New(2)
	if !b.Put(7, 250, -5) {
		t.Fatal("the first one was refused")
	}
	b.Tick()
	for _, seq := range []byte{250, 249, 200, 122, 123} {
		if fresh.Newer(seq, 250) {
			continue
		}
		if b.Put(7, seq, 99) {
			t.Errorf("seq %d was taken behind 250", seq)
		}
		if v, ok := b.Get(7); v != -5 || !ok || b.Age(7) != 1 {
			t.Errorf("seq %d: %d, %v, age %d", seq, v, ok, b.Age(7))
		}
	}
	if !b.Put(7, 3, 8) {
		t.Error("seq 3 was refused behind 250")
	}
	if v, ok := b.Get(7); v != 8 || !ok || b.Age(7) != 0 {
		t.Errorf("%d, %v, age %d", v, ok, b.Age(7))
	}
	if b.Put(7, 250, 9) || !b.Put(7, 130, 9) || b.Put(7, 3, 9) {
		t.Error("the last seq that was taken doesn't count")
	}
	for range 5 {
		b.Tick()
	}
	if v, ok := b.Get(7); v != 9 || ok {
		t.Errorf("stale: %d, %v", v, ok)
	}
	if b.Put(7, 130, 1) {
		t.Error("a stale one's seq was taken again")
	}
	if !b.Put(8, 130, 1) {
		t.Error("another channel's seq counts")
	}
}

func TestFirstSeqIsAny(t *testing.T) {
	for _, seq := range []byte{0, 1, 127, 128, 200, 255} {
		if b := fresh.New(1); !b.Put(1, seq, 4) {
			t.Errorf("seq %d was refused at first", seq)
		}
	}
}

func TestNoChannel(t *testing.T) {
	b := fresh.New(1)
	for _, ch := range []int{0, -1, api.Channels, 256, math.MinInt, math.MaxInt} {
		if b.Put(ch, 1, 5) {
			t.Errorf("Put(%d) was taken", ch)
		}
		none(t, b, ch)
	}
	for ch := range api.Channels {
		none(t, b, ch)
	}
}

func TestBanksAreApart(t *testing.T) {
	a, b := fresh.New(1), fresh.New(1)
	a.Put(1, 1, 5)
	none(t, b, 1)
}
