package prologue_test

import (
	"math"
	"reflect"
	"sync"
	"testing"

	"prologue/api"
	"prologue/prologue"
)

// change of a table, and whether it may be then.
type change struct {
	name string
	make func(x *api.Table)
	ok   bool
}

func tryChanges(t *testing.T, from func() api.Table, changes []change) {
	t.Helper()
	for _, c := range changes {
		x := from()
		c.make(&x)
		err := prologue.CheckTable(x)
		if c.ok && err != nil || !c.ok && !placeless(err, api.ErrTable) {
			t.Errorf("%s: CheckTable(%+v) = %v", c.name, x, err)
		}
	}
}

// Each number of a table from far below its bounds to far above them.
func TestP5Numbers(t *testing.T) {
	numbers := []int{math.MinInt, math.MinInt + 8, -32, -8, -2, -1, 64, 128, 1 << 32, 1<<32 + 8, math.MaxInt - 7, math.MaxInt}
	for n := range 48 {
		numbers = append(numbers, n)
	}
	for _, n := range numbers {
		tryChanges(t, tableT, []change{
			{"regs", func(x *api.Table) { x.Regs = n }, n >= 12 && n <= 16},
			{"align", func(x *api.Table) { x.Align = n }, n == 8 || n == 16 || n == 32},
			{"shadow", func(x *api.Table) { x.Shadow = n }, n == 0 || n == 8 || n == 16 || n == 24 || n == 32},
			{"byref", func(x *api.Table) { x.ByRef = n }, n >= 0 && n <= 4},
			{"sp", func(x *api.Table) { x.SP = n }, n == 4 || n == 8 || n == 11},
			{"link", func(x *api.Table) { x.Link = n }, n == -1 || n == 4 || n == 8},
			{"first of temps", func(x *api.Table) { x.Temps[0] = n }, n == 4 || n == 8 || n == 9},
			{"second of temps", func(x *api.Table) { x.Temps[1] = n }, n == 4 || n == 8 || n == 10},
			{"one of args", func(x *api.Table) { x.Args[2] = n }, n == 2 || n == 4 || n == 8},
			{"one of results", func(x *api.Table) { x.Results[1] = n }, n >= 1 && n <= 4 || n == 8},
			{"one of saves", func(x *api.Table) { x.Saves[2] = n }, n == 4 || n == 7 || n == 8},
		})
		tryChanges(t, tableU, []change{
			{"sp beside a link", func(x *api.Table) { x.SP = n }, n == 4 || n == 5 || n == 13},
			{"link", func(x *api.Table) { x.Link = n }, n == -1 || n == 4 || n == 5 || n == 12},
			{"one of args beside a link", func(x *api.Table) { x.Args[0] = n }, n == 0 || n == 4 || n == 5},
			{"one of results beside a link", func(x *api.Table) { x.Results[0] = n }, n == 0 || n >= 2 && n <= 5},
			{"one of saves beside a link", func(x *api.Table) { x.Saves[0] = n }, n >= 4 && n <= 6},
		})
	}
}

// few: the least table that there may be.
func few() api.Table {
	return api.Table{Regs: 4, SP: 3, Link: -1, Temps: [2]int{0, 1}, Align: 8}
}

func TestP5FewRegisters(t *testing.T) {
	tryChanges(t, few, []change{
		{"as it is", func(x *api.Table) {}, true},
		{"three registers", func(x *api.Table) { x.Regs, x.SP = 3, 2 }, false},
		{"no register", func(x *api.Table) { *x = api.Table{} }, false},
		{"the last one as link", func(x *api.Table) { x.Link = 2 }, true},
		{"link is a temporary one", func(x *api.Table) { x.Link = 0 }, false},
		{"link is the other temporary one", func(x *api.Table) { x.Link = 1 }, false},
		{"link is sp", func(x *api.Table) { x.Link = 3 }, false},
		{"link is none", func(x *api.Table) { x.Link = 4 }, false},
		{"temps the same", func(x *api.Table) { x.Temps[1] = 0 }, false},
		{"an argument", func(x *api.Table) { x.Args = []int{2} }, true},
		{"an argument that is a result", func(x *api.Table) { x.Args, x.Results = []int{2}, []int{2} }, true},
		{"an argument that is kept", func(x *api.Table) { x.Args, x.Saves = []int{2}, []int{2} }, false},
		{"a result that is kept", func(x *api.Table) { x.Results, x.Saves = []int{2}, []int{2} }, false},
		{"one that is kept", func(x *api.Table) { x.Saves = []int{2} }, true},
		{"an argument that is link", func(x *api.Table) { x.Link, x.Args = 2, []int{2} }, false},
		{"a result that is link", func(x *api.Table) { x.Link, x.Results = 2, []int{2} }, false},
		{"one that is kept and link", func(x *api.Table) { x.Link, x.Saves = 2, []int{2} }, false},
		{"an argument that is -1, without a link", func(x *api.Table) { x.Args = []int{-1} }, false},
	})
}

// many: 16 registers, of which 3 have a use of their own.
func many() api.Table {
	return api.Table{Regs: 16, SP: 0, Link: -1, Temps: [2]int{1, 2}, Align: 32, Shadow: 32, ByRef: 4, Pairs: true}
}

func upward(from, count int) []int {
	var l []int
	for i := range count {
		l = append(l, from+i)
	}
	return l
}

func TestP5Counts(t *testing.T) {
	for n := range 14 {
		tryChanges(t, many, []change{
			{"args", func(x *api.Table) { x.Args = upward(3, n) }, n <= 8},
			{"results", func(x *api.Table) { x.Results = upward(3, n) }, n <= 4},
			{"saves", func(x *api.Table) { x.Saves = upward(3, n) }, n <= 12},
			{"args turned about", func(x *api.Table) {
				for r := 15; r > 15-n; r-- {
					x.Args = append(x.Args, r)
				}
			}, n <= 8},
		})
	}
	tryChanges(t, many, []change{
		{"all registers in use", func(x *api.Table) { x.Args, x.Results, x.Saves = upward(3, 8), upward(7, 4), upward(11, 5) }, true},
		{"the register behind the last one", func(x *api.Table) { x.Saves = upward(12, 5) }, false},
		{"args, the last two the same", func(x *api.Table) { x.Args = append(upward(3, 7), 9) }, false},
		{"results, the outer two the same", func(x *api.Table) { x.Results = append(upward(3, 3), 3) }, false},
		{"saves, the last two the same", func(x *api.Table) { x.Saves = append(upward(3, 11), 13) }, false},
		{"a list of very many", func(x *api.Table) { x.Args = make([]int, 1<<20) }, false},
		{"saves of very many", func(x *api.Table) { x.Saves = upward(3, 1<<20) }, false},
		{"lists that are there and have nothing", func(x *api.Table) { x.Args, x.Results, x.Saves = []int{}, []int{}, []int{} }, true},
	})
}

func TestP5Samples(t *testing.T) {
	for k, want := range []api.Table{tableT(), tableU()} {
		got, err := prologue.Sample(k)
		if err != nil || !reflect.DeepEqual(got, want) {
			t.Fatalf("Sample(%d) = %+v, %v", k, got, err)
		}
		if err := prologue.CheckTable(got); err != nil {
			t.Errorf("CheckTable(Sample(%d)) = %v", k, err)
		}
		parsed, err := prologue.Parse([]string{textT, textU}[k])
		if err != nil || !reflect.DeepEqual(got, parsed) {
			t.Errorf("Sample(%d) = %+v, Parse: %+v, %v", k, got, parsed, err)
		}
	}
	for _, k := range []int{-1, 2, 3, math.MinInt, math.MaxInt} {
		if got, err := prologue.Sample(k); !reflect.DeepEqual(got, api.Table{}) || !placeless(err, api.ErrArg) {
			t.Errorf("Sample(%d) = %+v, %v", k, got, err)
		}
	}
}

// What the caller writes into a sample, also into its spare room, is seen in no other one (P2).
func TestP5SamplesAreNew(t *testing.T) {
	for k, want := range []api.Table{tableT(), tableU()} {
		got, _ := prologue.Sample(k)
		other, _ := prologue.Sample(k)
		for _, l := range [][]int{got.Args, got.Results, got.Saves} {
			l = l[:cap(l)]
			for i := range l {
				l[i] = 99
			}
		}
		again, _ := prologue.Sample(k)
		if !reflect.DeepEqual(other, want) || !reflect.DeepEqual(again, want) {
			t.Errorf("Sample(%d) = %+v, then %+v", k, other, again)
		}
	}
}

func TestP5SamplesAtOnce(t *testing.T) {
	var all sync.WaitGroup
	tables := make([]api.Table, 64)
	for i := range tables {
		all.Add(1)
		go func() {
			defer all.Done()
			tables[i], _ = prologue.Sample(i % 2)
			tables[i].Args[0] = i
		}()
	}
	all.Wait()
	for i, got := range tables {
		want := []api.Table{tableT(), tableU()}[i%2]
		want.Args[0] = i
		if !reflect.DeepEqual(got, want) {
			t.Errorf("the %d-th: %+v", i, got)
		}
	}
}

// Lists with others' numbers behind them: neither they nor what stands behind is written into (P2).
func TestP5NothingIsWritten(t *testing.T) {
	room := upward(0, 16)
	x := many()
	x.Args, x.Results, x.Saves = room[3:6], room[6:8], room[8:10]
	if err := prologue.CheckTable(x); err != nil {
		t.Error(err)
	}
	prologue.Print(x)
	x.Saves = room[5:9]
	if err := prologue.CheckTable(x); err == nil {
		t.Error("one of Saves is in Args")
	}
	if !reflect.DeepEqual(room, upward(0, 16)) {
		t.Errorf("behind the calls: %v", room)
	}
}
