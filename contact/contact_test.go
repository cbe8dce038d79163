package contact_test

import (
	"math"
	"math/rand"
	"testing"

	"dynamo/api"
	"dynamo/contact"
)

var (
	open   = api.Sample{V: 0, Fresh: true}
	closed = api.Sample{V: 1, Fresh: true}
	stale0 = api.Sample{V: 0}
	stale1 = api.Sample{V: 1}
)

func steps(c *contact.Contact, n int, cmd bool, back api.Sample) {
	for range n {
		c.Step(cmd, back)
	}
}

func jam(t *testing.T, c *contact.Contact, wantOpen, wantClosed bool) {
	t.Helper()
	if o, k := c.Jam(); o != wantOpen || k != wantClosed {
		t.Errorf("Jam: %v, %v, want %v, %v", o, k, wantOpen, wantClosed)
	}
}

func TestNewOne(t *testing.T) {
	for _, n := range []int{math.MinInt, 0, 1, 5, math.MaxInt} {
		c := contact.New(n, n)
		if c.Open() || c.Closed() {
			t.Errorf("New(%d): Open %v, Closed %v", n, c.Open(), c.Closed())
		}
		jam(t, c, false, false)
	}
}

func TestFirstTwoStepsCountForNothing(t *testing.T) {
	for d := 1; d <= 4; d++ {
		c := contact.New(d, 1)
		for i := 1; i <= d+5; i++ {
			c.Step(false, open)
			if got := c.Open(); got != (i >= d+2) {
				t.Errorf("New(%d, 1): Open %v behind %d Steps", d, got, i)
			}
		}
		c = contact.New(d, 1)
		for i := 1; i <= d+2; i++ {
			jam(t, c, false, false)
			c.Step(false, closed)
		}
		jam(t, c, false, true)
	}
}

func TestFirstStepIsAnotherCommand(t *testing.T) {
	c := contact.New(2, 1)
	steps(c, 2, true, open) // since 0, since 1
	jam(t, c, false, false)
	c.Step(true, open)
	jam(t, c, true, false)
}

func TestOpenAgain(t *testing.T) {
	c := contact.New(3, 5)
	steps(c, 9, false, open)
	c.Step(true, open)
	if c.Open() {
		t.Error("proved open where it is told to be closed")
	}
	c.Step(false, open)
	for since := range 6 {
		if got := c.Open(); got != (since >= 3) {
			t.Errorf("Open %v since %d", got, since)
		}
		c.Step(false, open)
	}
	c.Step(false, stale0)
	if c.Open() {
		t.Error("proved open by a back that isn't fresh")
	}
	c.Step(false, closed)
	if c.Open() || !c.Closed() {
		t.Error("it reads closed")
	}
	c.Step(false, open)
	if !c.Open() {
		t.Error("it reads open again")
	}
}

func TestClosed(t *testing.T) {
	c := contact.New(1, 9)
	for _, cmd := range []bool{false, true} {
		for _, x := range []struct {
			back api.Sample
			want bool
		}{{open, false}, {closed, true}, {stale1, false}, {stale0, false}, {closed, true}} {
			c.Step(cmd, x.back)
			if got := c.Closed(); got != x.want {
				t.Errorf("told %v, reads %v: Closed %v", cmd, x.back, got)
			}
		}
	}
}

func TestJamsBehindSoManyInARow(t *testing.T) {
	for d := 1; d <= 3; d++ {
		for b := 1; b <= 3; b++ {
			c := contact.New(d, b)
			steps(c, 10, false, open)
			for range d + b - 1 {
				c.Step(true, open)
				jam(t, c, false, false)
			}
			c.Step(true, open)
			jam(t, c, true, false)
			steps(c, 5, true, closed) // for good
			jam(t, c, true, false)
			for range d + b - 1 {
				c.Step(false, closed)
				jam(t, c, true, false)
			}
			c.Step(false, closed)
			jam(t, c, true, true) // both
			steps(c, 5, false, open)
			jam(t, c, true, true)
		}
	}
}

func TestARightOneBreaksTheRow(t *testing.T) {
	c := contact.New(1, 3)
	steps(c, 5, false, open)
	steps(c, 2, false, closed)
	c.Step(false, open)
	steps(c, 2, false, closed)
	jam(t, c, false, false)
	c.Step(false, closed)
	jam(t, c, false, true)
}

func TestOneThatIsNotFreshLeavesTheRow(t *testing.T) {
	c := contact.New(1, 3)
	steps(c, 5, false, open)
	steps(c, 2, false, closed)
	steps(c, 4, false, stale0)
	steps(c, 4, false, stale1)
	jam(t, c, false, false)
	c.Step(false, closed)
	jam(t, c, false, true)
}

func TestAnotherCommandBreaksTheRow(t *testing.T) {
	c := contact.New(1, 3)
	steps(c, 5, true, closed)
	steps(c, 2, true, open)
	c.Step(false, closed)
	c.Step(true, open) // since 0: counts for nothing
	steps(c, 2, true, open)
	jam(t, c, false, false)
	c.Step(true, open)
	jam(t, c, true, false)
}

func TestCuts(t *testing.T) {
	for _, n := range []int{math.MinInt, -1, 0, 1} {
		c := contact.New(n, n)
		steps(c, 2, false, closed)
		jam(t, c, false, false)
		c.Step(false, closed)
		jam(t, c, false, true)
	}
	for _, n := range []int{api.MaxCycle, api.MaxCycle + 1, math.MaxInt} {
		c := contact.New(n, 1)
		steps(c, api.MaxCycle+1, false, open)
		if c.Open() {
			t.Errorf("New(%d, 1): open too soon", n)
		}
		c.Step(false, open)
		if !c.Open() {
			t.Errorf("New(%d, 1): not open behind %d", n, api.MaxCycle)
		}
		steps(c, 3*api.MaxCycle, false, open)
		if !c.Open() {
			t.Errorf("New(%d, 1): not open any more", n)
		}
		c = contact.New(1, n)
		steps(c, api.MaxCycle+1, false, closed)
		jam(t, c, false, false)
		c.Step(false, closed)
		jam(t, c, false, true)
	}
}

func TestSet(t *testing.T) {
	c := contact.New(1, 1)
	c.Set(false, false)
	jam(t, c, false, false)
	c.Set(true, false)
	jam(t, c, true, false)
	c.Set(false, false) // nothing is taken back
	jam(t, c, true, false)
	c.Set(false, true)
	jam(t, c, true, true)
	c = contact.New(1, 1)
	c.Set(false, true)
	jam(t, c, false, true)
	steps(c, 4, false, open)
	jam(t, c, false, true)
	if !c.Open() {
		t.Error("what it was set to tells what it reads")
	}
	c = contact.New(1, 1)
	c.Set(true, true)
	jam(t, c, true, true)
}

// model keeps all that was ever told and read, and looks back.
type model struct {
	cmds  []bool
	backs []api.Sample
}

func (m *model) since(at int) int {
	n := 0
	for i := at; i >= 0; i-- {
		ahead := false
		if i > 0 {
			ahead = m.cmds[i-1]
		}
		if m.cmds[i] != ahead {
			return n
		}
		n++
	}
	return n - 2 // told to be open from the beginning: the first Step makes it -1
}

func (m *model) jam(d, b int) (open, closed bool) {
	wrong := 0
	for i, back := range m.backs {
		if m.since(i) == 0 && m.cmds[i] != (i > 0 && m.cmds[i-1]) {
			wrong = 0
		}
		if !back.Fresh {
			continue
		}
		if (back.V == 1) == m.cmds[i] || m.since(i) < d {
			wrong = 0
			continue
		}
		wrong++
		if wrong >= b {
			open, closed = open || m.cmds[i], closed || !m.cmds[i]
		}
	}
	return open, closed
}

func TestManyAgainstTheModel(t *testing.T) {
	r := rand.New(rand.NewSource(16))
	for range 400 {
		d, b := 1+r.Intn(4), 1+r.Intn(4)
		c, m := contact.New(d, b), &model{}
		cmd := false
		for i := range 30 {
			if r.Intn(6) == 0 {
				cmd = !cmd
			}
			back := api.Sample{V: r.Int63n(2), Fresh: r.Intn(5) > 0}
			if r.Intn(3) > 0 {
				back.V = 0
				if cmd {
					back.V = 1
				}
			}
			c.Step(cmd, back)
			m.cmds, m.backs = append(m.cmds, cmd), append(m.backs, back)
			if got, want := c.Open(), !cmd && m.since(i) >= d && back == open; got != want {
				t.Fatalf("New(%d, %d): Open %v: %v", d, b, got, m)
			}
			if got, want := c.Closed(), back == closed; got != want {
				t.Fatalf("New(%d, %d): Closed %v: %v", d, b, got, m)
			}
			o, k := c.Jam()
			if wo, wk := m.jam(d, b); o != wo || k != wk {
				t.Fatalf("New(%d, %d): Jam %v, %v, want %v, %v: %v", d, b, o, k, wo, wk, m)
			}
		}
	}
}
