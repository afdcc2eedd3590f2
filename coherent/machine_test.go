package coherent_test

import (
	"slices"
	"testing"

	"coherent/api"
	"coherent/coherent"
)

// oneSet is a machine whose caches have one set each, all policies Oldest.
func oneSet(cores int, ways int, lastWays int) api.Config {
	return api.Config{Cores: cores, Sets: 1, Ways: ways, Policy: api.Oldest, LastSets: 1, LastWays: lastWays, LastPolicy: api.Oldest}
}

func newMachine(t *testing.T, c api.Config) *coherent.Machine {
	t.Helper()
	m, e := coherent.New(c)
	if m == nil || e != api.OK {
		t.Fatalf("P4: New(%+v): error %d", c, e)
	}
	return m
}

func wantLoad(t *testing.T, m *coherent.Machine, core int, addr int, value int, place int) {
	t.Helper()
	v, p, e := m.Load(core, addr)
	if v != value || p != place || e != api.OK {
		t.Errorf("P6: Load(%d, %d) = %d, %d, %d, want %d, %d, OK", core, addr, v, p, e, value, place)
	}
}

func wantStore(t *testing.T, m *coherent.Machine, core int, addr int, value int, place int) {
	t.Helper()
	p, e := m.Store(core, addr, value)
	if p != place || e != api.OK {
		t.Errorf("P7: Store(%d, %d, %d) = %d, %d, want %d, OK", core, addr, value, p, e, place)
	}
}

// loadLines loads the first word of each line, and does not care where it is found.
func loadLines(t *testing.T, m *coherent.Machine, core int, lines ...int) {
	t.Helper()
	for _, line := range lines {
		if v, _, e := m.Load(core, line*api.Words); v != 0 || e != api.OK {
			t.Errorf("P6: Load(%d, %d) = %d, %d, want 0, OK", core, line*api.Words, v, e)
		}
	}
}

func wantStates(t *testing.T, m *coherent.Machine, line int, states ...int) {
	t.Helper()
	for core, want := range states {
		if s, e := m.State(core, line); s != want || e != api.OK {
			t.Errorf("P9: State(%d, %d) = %d, %d, want %d, OK", core, line, s, e, want)
		}
	}
}

func wantLast(t *testing.T, m *coherent.Machine, line int, want int) {
	t.Helper()
	if s, e := m.Last(line); s != want || e != api.OK {
		t.Errorf("P9: Last(%d) = %d, %d, want %d, OK", line, s, e, want)
	}
}

func wantMemory(t *testing.T, m *coherent.Machine, addr int, want int) {
	t.Helper()
	if v, e := m.Memory(addr); v != want || e != api.OK {
		t.Errorf("P9: Memory(%d) = %d, %d, want %d, OK", addr, v, e, want)
	}
}

func wantCounts(t *testing.T, m *coherent.Machine, want api.Counts) {
	t.Helper()
	if c, e := m.Counts(); c != want || e != api.OK {
		t.Errorf("P9: Counts() = %+v, %d, want %+v, OK", c, e, want)
	}
}

func wantPsel(t *testing.T, m *coherent.Machine, want int) {
	t.Helper()
	if c, e := m.Counts(); c.Psel != want || e != api.OK {
		t.Errorf("P9: Psel %d, error %d, want %d, OK", c.Psel, e, want)
	}
}

func evict(t *testing.T, m *coherent.Machine, core int, line int) {
	t.Helper()
	if e := m.Evict(core, line); e != api.OK {
		t.Errorf("P8: Evict(%d, %d) = %d, want OK", core, line, e)
	}
}

func drain(t *testing.T, m *coherent.Machine) {
	t.Helper()
	if e := m.Drain(); e != api.OK {
		t.Errorf("P10: Drain() = %d, want OK", e)
	}
}

// linesIn are the lines that a core holds.
func linesIn(m *coherent.Machine, core int) []int {
	var lines []int
	for line := range api.Lines {
		if s, _ := m.State(core, line); s != api.None {
			lines = append(lines, line)
		}
	}
	return lines
}

// linesInLast are the lines that the last cache holds.
func linesInLast(m *coherent.Machine) []int {
	var lines []int
	for line := range api.Lines {
		if s, _ := m.Last(line); s != api.Away {
			lines = append(lines, line)
		}
	}
	return lines
}

func wantLines(t *testing.T, where string, got []int, want ...int) {
	t.Helper()
	if !slices.Equal(got, want) {
		t.Errorf("%s holds %v, want %v", where, got, want)
	}
}

// wantEmpty: no cache holds a line.
func wantEmpty(t *testing.T, m *coherent.Machine, cores int) {
	t.Helper()
	for core := range cores {
		wantLines(t, "a first cache", linesIn(m, core))
	}
	wantLines(t, "the last cache", linesInLast(m))
}

func TestCheckEveryMachine(t *testing.T) {
	for _, c := range configs() {
		if e := coherent.Check(c); e != api.OK {
			t.Fatalf("P4: Check(%+v) = %d, want OK", c, e)
		}
	}
}

func TestCheckErrors(t *testing.T) {
	good := api.Config{Cores: 2, Sets: 2, Ways: 4, Policy: api.Tree, LastSets: 8, LastWays: 8, LastPolicy: api.Dueling}
	wrongSizes := []int{smallest, -8, -1, 0, 3, 5, 6, 7, 9, 16, 1 << 40, biggest}
	for _, n := range []int{smallest, -1, 0, api.MaxCores + 1, 8, 1 << 32, biggest} {
		c := good
		c.Cores = n
		wantCheck(t, c, api.ErrCores)
	}
	for _, n := range wrongSizes {
		sets, lastSets, ways, lastWays := good, good, good, good
		sets.Sets, lastSets.LastSets, ways.Ways, lastWays.LastWays = n, n, n, n
		wantCheck(t, sets, api.ErrSets)
		wantCheck(t, lastSets, api.ErrSets)
		wantCheck(t, ways, api.ErrWays)
		wantCheck(t, lastWays, api.ErrWays)
	}
	for _, n := range []int{smallest, -1, api.Static, api.Rare, api.Dueling, 5, biggest} {
		c := good
		c.Policy = n
		wantCheck(t, c, api.ErrPolicy)
	}
	for _, n := range []int{smallest, -1, 5, 6, 1 << 40, biggest} {
		c := good
		c.LastPolicy = n
		wantCheck(t, c, api.ErrPolicy)
	}
}

// Of several errors at once the first that P4 names is told, whichever cache it is of.
func TestCheckSeveralErrors(t *testing.T) {
	for _, c := range []struct {
		c    api.Config
		want api.Errno
	}{
		{api.Config{}, api.ErrCores},
		{api.Config{Cores: -1, Sets: 3, Ways: 3, Policy: 9, LastSets: 3, LastWays: 3, LastPolicy: 9}, api.ErrCores},
		{api.Config{Cores: 1}, api.ErrSets},
		{api.Config{Cores: 1, Sets: 3, Ways: 3, Policy: 9, LastSets: 1, LastWays: 1}, api.ErrSets},
		{api.Config{Cores: 1, Sets: 1, Ways: 3, Policy: 9, LastSets: 3, LastWays: 1}, api.ErrSets},
		{api.Config{Cores: 1, Sets: 1, Ways: 1, Policy: 9, LastSets: 1, LastWays: 3}, api.ErrWays},
		{api.Config{Cores: 1, Sets: 1, Ways: 3, Policy: 0, LastSets: 1, LastWays: 1, LastPolicy: 9}, api.ErrWays},
		{api.Config{Cores: 1, Sets: 1, Ways: 1, Policy: 9, LastSets: 1, LastWays: 1, LastPolicy: 9}, api.ErrPolicy},
	} {
		wantCheck(t, c.c, c.want)
	}
}

func wantCheck(t *testing.T, c api.Config, want api.Errno) {
	t.Helper()
	if e := coherent.Check(c); e != want {
		t.Errorf("P4: Check(%+v) = %d, want %d", c, e, want)
	}
	if m, e := coherent.New(c); m != nil || e != want {
		t.Errorf("P4: New(%+v) = %v, %d, want nil, %d", c, m != nil, e, want)
	}
}

func TestNewIsEmpty(t *testing.T) {
	for _, cores := range []int{1, api.MaxCores} {
		for _, policy := range []int{api.Oldest, api.Dueling} {
			c := oneSet(cores, 8, 8)
			c.LastPolicy = policy
			m := newMachine(t, c)
			wantEmpty(t, m, cores)
			for addr := range api.Addrs {
				wantMemory(t, m, addr, 0)
			}
			wantCounts(t, m, api.Counts{Psel: api.PselMid})
		}
	}
}

func TestNilMachine(t *testing.T) {
	var m *coherent.Machine
	for _, n := range []int{0, -1, 1 << 40, smallest, biggest} {
		if v, p, e := m.Load(n, n); v != 0 || p != 0 || e != api.ErrNil {
			t.Errorf("P1: Load(%d, %d) of nil = %d, %d, %d", n, n, v, p, e)
		}
		if p, e := m.Store(n, n, n); p != 0 || e != api.ErrNil {
			t.Errorf("P1: Store(%d, %d, %d) of nil = %d, %d", n, n, n, p, e)
		}
		if e := m.Evict(n, n); e != api.ErrNil {
			t.Errorf("P1: Evict(%d, %d) of nil = %d", n, n, e)
		}
		if s, e := m.State(n, n); s != 0 || e != api.ErrNil {
			t.Errorf("P1: State(%d, %d) of nil = %d, %d", n, n, s, e)
		}
		if s, e := m.Last(n); s != 0 || e != api.ErrNil {
			t.Errorf("P1: Last(%d) of nil = %d, %d", n, s, e)
		}
		if v, e := m.Memory(n); v != 0 || e != api.ErrNil {
			t.Errorf("P1: Memory(%d) of nil = %d, %d", n, v, e)
		}
	}
	if c, e := m.Counts(); c != (api.Counts{}) || e != api.ErrNil {
		t.Errorf("P1: Counts() of nil = %+v, %d", c, e)
	}
	if e := m.Drain(); e != api.ErrNil {
		t.Errorf("P1: Drain() of nil = %d", e)
	}
}

// wrongCalls makes each call at a wrong core, with good and wrong lines and addresses, and at good cores with wrong ones.
func wrongCalls(t *testing.T, m *coherent.Machine, cores int) {
	t.Helper()
	for _, core := range []int{smallest, -1, cores, cores + 1, api.MaxCores, 1 << 40, biggest} {
		for _, n := range []int{0, -1, 63, 64, 255, 256, smallest, biggest} {
			wantErrors(t, m, core, n, api.ErrCore, api.ErrCore)
		}
	}
	for core := range cores {
		for _, n := range []int{-1, smallest, 256, 257, 1 << 40, biggest} {
			wantErrors(t, m, core, n, api.ErrLine, api.ErrAddr)
		}
	}
	for _, line := range []int{smallest, -1, 64, 65, 255, 256, 1 << 40, biggest} {
		if s, e := m.Last(line); s != 0 || e != api.ErrLine {
			t.Errorf("P9: Last(%d) = %d, %d, want 0, ErrLine", line, s, e)
		}
		if e := m.Evict(0, line); e != api.ErrLine {
			t.Errorf("P8: Evict(0, %d) = %d, want ErrLine", line, e)
		}
		if s, e := m.State(0, line); s != 0 || e != api.ErrLine {
			t.Errorf("P9: State(0, %d) = %d, %d, want 0, ErrLine", line, s, e)
		}
	}
	for _, addr := range []int{smallest, -1, 256, 257, 1 << 40, biggest} {
		if v, e := m.Memory(addr); v != 0 || e != api.ErrAddr {
			t.Errorf("P9: Memory(%d) = %d, %d, want 0, ErrAddr", addr, v, e)
		}
	}
}

func wantErrors(t *testing.T, m *coherent.Machine, core int, n int, ofLine api.Errno, ofAddr api.Errno) {
	t.Helper()
	if v, p, e := m.Load(core, n); v != 0 || p != 0 || e != ofAddr {
		t.Errorf("P6: Load(%d, %d) = %d, %d, %d, want 0, 0, %d", core, n, v, p, e, ofAddr)
	}
	for _, value := range []int{1, 0, smallest, biggest} {
		if p, e := m.Store(core, n, value); p != 0 || e != ofAddr {
			t.Errorf("P7: Store(%d, %d, %d) = %d, %d, want 0, %d", core, n, value, p, e, ofAddr)
		}
	}
	if e := m.Evict(core, n); e != ofLine {
		t.Errorf("P8: Evict(%d, %d) = %d, want %d", core, n, e, ofLine)
	}
	if s, e := m.State(core, n); s != 0 || e != ofLine {
		t.Errorf("P9: State(%d, %d) = %d, %d, want 0, %d", core, n, s, e, ofLine)
	}
}

func TestErrorsChangeNothing(t *testing.T) {
	for cores := 1; cores <= api.MaxCores; cores++ {
		c := oneSet(cores, 2, 4)
		c.LastSets, c.LastPolicy = 2, api.Dueling
		m := newMachine(t, c)
		loadLines(t, m, 0, 0, 63, 1)
		loadLines(t, m, cores-1, 63, 2)
		wantStore(t, m, cores-1, 9, 1234, api.First)
		before := *m
		wrongCalls(t, m, cores)
		if *m != before {
			t.Errorf("P1: %d cores: calls with errors changed the machine", cores)
		}
	}
}

func TestTellingChangesNothing(t *testing.T) {
	c := oneSet(3, 2, 4)
	c.LastSets, c.LastPolicy = 2, api.Dueling
	m := newMachine(t, c)
	loadLines(t, m, 0, 0, 63, 1)
	loadLines(t, m, 2, 63, 2)
	wantStore(t, m, 2, 9, 1234, api.First)
	before := *m
	for line := range api.Lines {
		for core := range 3 {
			m.State(core, line)
		}
		m.Last(line)
	}
	for addr := range api.Addrs {
		m.Memory(addr)
	}
	m.Counts()
	if *m != before {
		t.Error("P9: State, Last, Memory or Counts changed the machine")
	}
}

func TestMachinesAreApart(t *testing.T) {
	c := oneSet(2, 2, 4)
	c.LastSets, c.LastPolicy = 4, api.Dueling
	one := newMachine(t, c)
	two := newMachine(t, c)
	fresh := *two
	loadLines(t, one, 0, 0, 1, 2, 3, 4, 5, 6)
	wantStore(t, one, 0, 24, 99, api.First)
	evict(t, one, 0, 5)
	drain(t, one)
	wantLoad(t, one, 1, 24, 99, api.Memory)
	if *two != fresh {
		t.Error("P2: what happened in one machine changed another")
	}
	kept := *one
	drain(t, two)
	loadLines(t, two, 1, 9, 10)
	wantStore(t, two, 0, 24, 77, api.Memory)
	wantLoad(t, two, 1, 24, 77, api.Last)
	if *one != kept {
		t.Error("P2: what happened in one machine changed another")
	}
}
