package circuit_test

import (
	"math"
	"math/big"
	"slices"
	"sync"
	"testing"

	"attestor/api"
	"attestor/circuit"
	"attestor/field"
)

// tablesOf returns the tables of a circuit.
func tablesOf(t *testing.T, c api.Circuit, cols [][]uint64) [][]uint64 {
	t.Helper()
	tables, err := circuit.Tables(c, cols)
	if err != api.OK || len(tables) != len(c.Layers)+1 {
		t.Fatalf("Tables of %v: %d tables, %d", c, len(tables), err)
	}
	return tables
}

// sumsOf returns the sums of a circuit.
func sumsOf(t *testing.T, c api.Circuit, cols [][]uint64) []uint64 {
	t.Helper()
	sums, err := circuit.Sums(c, cols)
	if err != api.OK || len(sums) != c.Sums {
		t.Fatalf("Sums of %v: %d sums, %d", c, len(sums), err)
	}
	return sums
}

// widthsOf returns the numbers of the inputs and of the gates of the layers.
func widthsOf(c api.Circuit) []int {
	l := []int{c.Inputs}
	for _, layer := range c.Layers {
		l = append(l, len(layer))
	}
	return l
}

// slot returns the elements of a table that belong to row j of n.
func slot(table []uint64, j int, n int) []uint64 {
	size := len(table) / n
	return table[j*size : (j+1)*size]
}

// rearranged returns the columns with the rows order[0], order[1], ....
func rearranged(cols [][]uint64, order []int) [][]uint64 {
	l := make([][]uint64, len(cols))
	for i, column := range cols {
		for _, j := range order {
			l[i] = append(l[i], column[j])
		}
	}
	return l
}

// shuffled returns the numbers 0 to n - 1 in some order.
func shuffled(next func(int) int, n int) []int {
	l := make([]int, n)
	for j := range l {
		m := next(j + 1)
		l[j], l[m] = l[m], j
	}
	return l
}

// P16.2: the tables have the values of Row in each row, whatever is in the others.
func TestRowsAreIndependent(t *testing.T) {
	next := generator(20)
	for _, c := range circuits() {
		for _, rows := range []int{1, 2, 4, 8, 16, 64} {
			cols := columns(next, c.Inputs, rows)
			kept := next(rows)
			others := columns(next, c.Inputs, rows)
			for i := range others {
				others[i][kept] = cols[i][kept]
			}
			tables, changed := tablesOf(t, c, cols), tablesOf(t, c, others)
			for k, table := range tables {
				if !slices.Equal(slot(table, kept, rows), slot(changed[k], kept, rows)) {
					t.Errorf("%v: row %d of table %d depends on other rows", c, kept, k)
				}
			}
			for j := range rows {
				for k, values := range circuit.Row(c, inputsOf(cols, j)) {
					if !slices.Equal(slot(tables[k], j, rows)[:len(values)], values) {
						t.Errorf("%v: row %d of %d of table %d has other values than Row", c, j, rows, k)
					}
				}
			}
		}
	}
}

// P16.2: permuting the rows permutes the tables and does not change the sums.
func TestPermutedRows(t *testing.T) {
	next := generator(21)
	for _, c := range circuits() {
		for _, rows := range []int{2, 4, 8, 32, 128} {
			cols := columns(next, c.Inputs, rows)
			order := shuffled(next, rows)
			permuted := rearranged(cols, order)
			before, after := tablesOf(t, c, cols), tablesOf(t, c, permuted)
			for k := range before {
				for j, from := range order {
					if !slices.Equal(slot(after[k], j, rows), slot(before[k], from, rows)) {
						t.Errorf("%v: row %d of table %d is not row %d before the permutation", c, j, k, from)
					}
				}
			}
			if got, want := sumsOf(t, c, permuted), sumsOf(t, c, cols); !slices.Equal(got, want) {
				t.Errorf("%v: the sums of permuted rows are %v, want %v", c, got, want)
			}
		}
	}
}

// wrongRow returns the lowest row of a table in which one of n values, from the given one on, is not zero.
func wrongRow(table []uint64, rows int, from int, n int) (int, bool) {
	for j := range rows {
		for _, v := range slot(table, j, rows)[from:n] {
			if v != 0 {
				return j, true
			}
		}
	}
	return 0, false
}

// withoutD returns the circuit with the gates without their coefficients D, which are zero where their operands are.
func withoutD(c api.Circuit) api.Circuit {
	for k, l := range c.Layers {
		for i := range l {
			c = changed(c, k, i, func(g *api.Gate) { g.D = 0 })
		}
	}
	return c
}

// P16.2: Zeros finds the lowest wrong row of the tables, which is often behind rows that are correct.
func TestFirstWrongRow(t *testing.T) {
	next := generator(22)
	for _, c := range circuits() {
		c = withoutD(c)
		for _, rows := range []int{1, 4, 8, 64} {
			cols := columns(next, c.Inputs, rows)
			correct := next(rows + 1)
			for _, column := range cols {
				clear(column[:correct])
			}
			last := tablesOf(t, c, cols)[len(c.Layers)]
			row, wrong := wrongRow(last, rows, c.Sums, len(outputs(c)))
			if got, found := circuit.Zeros(c, cols); got != row || found != wrong || wrong && row < correct {
				t.Errorf("Zeros of %v = %d, %v, want %d, %v", c, got, found, row, wrong)
			}
		}
	}
}

// divided returns the circuits of the first k layers, at least one, and of the remaining ones, at least one.
func divided(c api.Circuit, k int) (api.Circuit, api.Circuit) {
	width := len(c.Layers[k-1])
	return api.Circuit{Inputs: c.Inputs, Layers: c.Layers[:k], Sums: width}, api.Circuit{Inputs: width, Layers: c.Layers[k:], Sums: c.Sums}
}

// P16.3: the remaining layers, applied to the values of the first ones, give the values of the whole circuit.
func TestComposition(t *testing.T) {
	next := generator(23)
	for _, c := range circuits() {
		const rows = 16
		cols := columns(next, c.Inputs, rows)
		whole, in := tablesOf(t, c, cols), inputsOf(cols, 5)
		for k := 1; k < len(c.Layers); k++ {
			front, back := divided(c, k)
			values := circuit.Row(front, in)
			if joined := append(values, circuit.Row(back, values[k])[1:]...); !equal(joined, circuit.Row(c, in)) {
				t.Errorf("%v: the values of a row differ if it is divided after layer %d", c, k)
			}
			tables := tablesOf(t, front, cols)
			between := make([][]uint64, back.Inputs)
			for j := range rows {
				for i, v := range slot(tables[k], j, rows)[:back.Inputs] {
					between[i] = append(between[i], v)
				}
			}
			if joined := append(tables, tablesOf(t, back, between)[1:]...); !equal(joined, whole) {
				t.Errorf("%v: the tables differ if it is divided after layer %d", c, k)
			}
			row, wrong := circuit.Zeros(c, cols)
			check(t, back, between, expected{tables: whole[k:], sums: sumsOf(t, c, cols), row: row, wrong: wrong})
		}
	}
}

// P16.3: a row is evaluated layer by layer.
func TestLayersOfRow(t *testing.T) {
	next := generator(24)
	for _, c := range circuits() {
		in := inputsOf(columns(next, c.Inputs, 1), 0)
		values := circuit.Row(c, in)
		if !slices.Equal(values[0], in) {
			t.Errorf("the inputs of Row(%v, %v) are %v", c, in, values[0])
		}
		for k, l := range c.Layers {
			if got := circuit.Layer(l, values[k]); !slices.Equal(got, values[k+1]) {
				t.Errorf("layer %d of %v has the values %v, but %v in Row", k, c, got, values[k+1])
			}
		}
	}
}

// P16.4: the sums over a table are the sums over its halves, added.
func TestSumsOfHalves(t *testing.T) {
	next := generator(25)
	for _, c := range circuits() {
		for _, rows := range []int{2, 4, 8, 16, 32, 256} {
			cols := columns(next, c.Inputs, rows)
			var low, high [][]uint64
			for _, column := range cols {
				low, high = append(low, column[:rows/2]), append(high, column[rows/2:])
			}
			first, second := sumsOf(t, c, low), sumsOf(t, c, high)
			for i, sum := range sumsOf(t, c, cols) {
				if sum != field.Add(first[i], second[i]) {
					t.Errorf("%v: sum %d over %d rows is %d, but %d and %d over the halves", c, i, rows, sum, first[i], second[i])
				}
			}
		}
	}
}

// P16.4: the sum of each output is the sum of its values in the table.
func TestSumsOfTables(t *testing.T) {
	next := generator(26)
	for _, c := range circuits() {
		c.Sums = len(outputs(c))
		for _, rows := range []int{1, 2, 8, 64} {
			cols := columns(next, c.Inputs, rows)
			last := tablesOf(t, c, cols)[len(c.Layers)]
			for i, sum := range sumsOf(t, c, cols) {
				var l []*big.Int
				for j := range rows {
					l = append(l, product(slot(last, j, rows)[i]))
				}
				if want := total(l...); sum != want {
					t.Errorf("%v: sum %d over %d rows is %d, but %d in the table", c, i, rows, sum, want)
				}
			}
		}
	}
}

// combined returns the gate with the coefficients of g plus a times those of h.
func combined(g api.Gate, h api.Gate, a uint64) api.Gate {
	plus := func(x uint64, y uint64) uint64 { return field.Add(x, field.Mul(a, y)) }
	return api.Gate{L: g.L, R: g.R, C: plus(g.C, h.C), A: plus(g.A, h.A), B: plus(g.B, h.B), D: plus(g.D, h.D)}
}

// P16.4: the sum of an output is linear in the coefficients of its gate, and the other sums do not depend on them.
func TestLinearSums(t *testing.T) {
	next := generator(27)
	for _, c := range circuits() {
		k, n := len(c.Layers)-1, len(outputs(c))
		c.Sums = n
		cols := columns(next, c.Inputs, 16)
		sums := sumsOf(t, c, cols)
		for range 10 {
			i, a, h := next(n), element(next), gate(next, 1)
			other := changed(c, k, i, func(g *api.Gate) { h.L, h.R = g.L, g.R; *g = h })
			both := changed(c, k, i, func(g *api.Gate) { *g = combined(*g, h, a) })
			want := slices.Clone(sums)
			want[i] = field.Add(sums[i], field.Mul(a, sumsOf(t, other, cols)[i]))
			if got := sumsOf(t, both, cols); !slices.Equal(got, want) {
				t.Errorf("%v: with %d times %v at output %d, the sums are %v, want %v", c, a, h, i, got, want)
			}
		}
	}
}

// P16.5: a table has 2^w values for each row, with those of the gates first and zeros behind them.
func TestPadding(t *testing.T) {
	next := generator(28)
	for width := 1; width <= most; width++ {
		c := circuitOf(next, 0, width, most+1-width, width)
		for k := range c.Layers {
			for i := range c.Layers[k] {
				c.Layers[k][i] = api.Gate{D: uint64(i + 1)}
			}
		}
		for _, rows := range []int{1, 2, 8, 32} {
			cols := slices.Repeat([][]uint64{slices.Repeat([]uint64{p - 1}, rows)}, width)
			for k, table := range tablesOf(t, c, cols) {
				n := widthsOf(c)[k]
				if len(table) != rows<<circuit.Width(n) {
					t.Fatalf("the table of %d values has the length %d for %d rows", n, len(table), rows)
				}
				for j := range rows {
					values := slot(table, j, rows)
					if slices.Contains(values[:n], 0) || len(values) > n && slices.Max(values[n:]) != 0 {
						t.Errorf("row %d of a table of %d values is %v", j, n, values)
					}
				}
			}
		}
	}
}

// outcome is what all functions return for some arguments.
type outcome struct {
	valid, refusal, denial api.Errno
	width, zero            int
	wrong                  bool
	row, tables            [][]uint64
	layer, sums            []uint64
}

// outcomeOf calls all functions, Row for the first row.
func outcomeOf(c api.Circuit, cols [][]uint64) outcome {
	x := outcome{valid: circuit.Valid(c), width: circuit.Width(c.Inputs)}
	var in []uint64
	for _, column := range cols {
		in = append(in, column[:min(1, len(column))]...)
	}
	for _, l := range c.Layers {
		x.layer = append(x.layer, circuit.Layer(l, in)...)
	}
	x.row = circuit.Row(c, in)
	x.tables, x.refusal = circuit.Tables(c, cols)
	x.sums, x.denial = circuit.Sums(c, cols)
	x.zero, x.wrong = circuit.Zeros(c, cols)
	return x
}

// equal reports whether two outcomes are equal.
func (x outcome) equal(y outcome) bool {
	return x.valid == y.valid && x.refusal == y.refusal && x.denial == y.denial && x.width == y.width && x.zero == y.zero && x.wrong == y.wrong &&
		equal(x.row, y.row) && equal(x.tables, y.tables) && slices.Equal(x.layer, y.layer) && slices.Equal(x.sums, y.sums)
}

// anyCircuit returns a circuit of which many parts are not valid.
func anyCircuit(next func(int) int) api.Circuit {
	pick := func() int { return odd[next(len(odd))] }
	word := func() uint64 { return []uint64{uint64(pick()), element(next), p, math.MaxUint64}[next(4)] }
	c := circuitOf(next, next(3), 1+next(4), 1+next(4), 2+next(4))
	for range next(4) {
		k := next(2)
		c = changed(c, k, next(len(c.Layers[k])), func(g *api.Gate) {
			*[]*int{&g.L, &g.R}[next(2)] = pick()
			*[]*uint64{&g.C, &g.A, &g.B, &g.D}[next(4)] = word()
		})
	}
	switch next(8) {
	case 0:
		c.Inputs = pick()
	case 1:
		c.Sums = pick()
	case 2:
		c.Layers = c.Layers[:next(2)]
	case 3:
		c.Layers[next(2)] = nil
	case 4:
		c.Layers = slices.Repeat(c.Layers, next(40))
	}
	return c
}

// P1: every call returns, also for circuits that are not valid, columns that do not fit and values that are no field
// elements; with an error or false there is nothing else.
func TestCallsReturn(t *testing.T) {
	next := generator(29)
	for range 20000 {
		c := anyCircuit(next)
		cols := columns(next, []int{max(0, min(c.Inputs, 70)), next(5)}[min(1, next(4))], 1<<next(4))
		for i := range cols {
			switch next(12) {
			case 0:
				cols[i] = make([]uint64, next(9))
			case 1:
				cols[i][next(len(cols[i]))] = p + uint64(next(1<<31))
			}
		}
		x := outcomeOf(c, cols)
		if x.refusal != x.denial || x.valid != api.OK && x.valid != x.refusal {
			t.Errorf("%v: the errors are %d, %d and %d", c, x.valid, x.refusal, x.denial)
		}
		if x.refusal != api.OK && (x.tables != nil || x.sums != nil || x.wrong) || !x.wrong && x.zero != 0 {
			t.Errorf("%v: there are results beside the error %d: %v", c, x.refusal, x)
		}
	}
	for _, at := range odd {
		circuit.Layer([]api.Gate{{L: at}, {R: at}}, []uint64{1, 2, 3})
		circuit.Layer([]api.Gate{{L: at, R: at}}, nil)
	}
}

// P2: equal arguments have equal results, whatever was called before and is called at the same time.
func TestResultsRepeat(t *testing.T) {
	l := circuits()
	call := func(k int) outcome { return outcomeOf(l[k], columns(generator(uint64(k)), l[k].Inputs, 1<<(k%7))) }
	var first []outcome
	for k := range l {
		first = append(first, call(k))
	}
	var group sync.WaitGroup
	for range 8 {
		group.Go(func() {
			for k, want := range slices.Backward(first) {
				if !call(k).equal(want) {
					t.Errorf("%v has other results", l[k])
				}
			}
		})
	}
	group.Wait()
}

// The document's rules: nil and empty slices are interchangeable.
func TestEmptySlices(t *testing.T) {
	one := [][]api.Gate{{{}}}
	for i, pair := range [][2]api.Circuit{
		{{Inputs: 1}, {Inputs: 1, Layers: [][]api.Gate{}}}, {{Inputs: 1, Layers: [][]api.Gate{nil}}, {Inputs: 1, Layers: [][]api.Gate{{}}}},
	} {
		if !outcomeOf(pair[0], nil).equal(outcomeOf(pair[1], [][]uint64{})) {
			t.Errorf("case %d: nil and empty slices differ", i)
		}
	}
	c := api.Circuit{Inputs: 1, Layers: one}
	if !outcomeOf(c, [][]uint64{nil}).equal(outcomeOf(c, [][]uint64{{}})) || !outcomeOf(c, nil).equal(outcomeOf(c, [][]uint64{})) {
		t.Error("nil and empty columns differ")
	}
	if len(circuit.Layer([]api.Gate{}, []uint64{})) != 0 || len(circuit.Layer(nil, []uint64{1})) != 0 {
		t.Error("a layer without gates has values")
	}
}

// spare returns a copy of l with capacity behind it, and the memory that it lies in.
func spare[T any](l []T, behind T) ([]T, []T) {
	memory := append(slices.Clone(l), slices.Repeat([]T{behind}, 5)...)
	return memory[:len(l)], memory
}

// P2: arguments and the memory behind them stay as they are.
func TestArgumentsStay(t *testing.T) {
	next := generator(30)
	behind := api.Gate{L: -7, R: -8, C: math.MaxUint64}
	for _, c := range circuits() {
		cols := columns(next, c.Inputs, 16)
		given, held := c, cols
		given.Layers, held = make([][]api.Gate, len(c.Layers)), make([][]uint64, len(cols))
		gates, words := make([][]api.Gate, len(c.Layers)), make([][]uint64, len(cols))
		for k, l := range c.Layers {
			given.Layers[k], gates[k] = spare(l, behind)
		}
		for i, column := range cols {
			held[i], words[i] = spare(column, math.MaxUint64)
		}
		if !outcomeOf(given, held).equal(outcomeOf(c, cols)) {
			t.Errorf("the results of %v depend on what lies behind the arguments", c)
		}
		in, memory := spare(inputsOf(cols, 3), math.MaxUint64)
		circuit.Row(given, in)
		circuit.Layer(given.Layers[0], in)
		for k, l := range c.Layers {
			if _, want := spare(l, behind); !slices.Equal(gates[k], want) || !slices.Equal(given.Layers[k], l) {
				t.Errorf("layer %d of %v was modified", k, c)
			}
		}
		for i, column := range cols {
			if _, want := spare(column, math.MaxUint64); !slices.Equal(words[i], want) || !slices.Equal(held[i], column) {
				t.Errorf("column %d of %v was modified", i, c)
			}
		}
		if _, want := spare(inputsOf(cols, 3), math.MaxUint64); !slices.Equal(memory, want) {
			t.Errorf("the inputs of a row of %v were modified", c)
		}
	}
}

// overwrite changes the memory of slices and the capacity behind them.
func overwrite(l ...[]uint64) {
	for _, part := range l {
		part = part[:cap(part)]
		for i := range part {
			part[i] = math.MaxUint64
		}
	}
}

// P2: results share no memory with arguments or other results, nor do their parts with each other.
func TestResultsAreSeparate(t *testing.T) {
	next := generator(31)
	for _, c := range circuits() {
		cols := columns(next, c.Inputs, 8)
		in := inputsOf(cols, 2)
		before, kept := outcomeOf(c, cols), rearranged(cols, []int{0, 1, 2, 3, 4, 5, 6, 7})
		tables, row := tablesOf(t, c, cols), circuit.Row(c, in)
		for k := range tables {
			overwrite(tables[k], row[k])
			if !equal(tables[k+1:], before.tables[k+1:]) || !equal(row[k+1:], rowOf(c, in)[k+1:]) {
				t.Errorf("%v: the values of layer %d share memory with others", c, k)
			}
		}
		overwrite(sumsOf(t, c, cols), circuit.Layer(c.Layers[0], in))
		if !equal(cols, kept) || !slices.Equal(in, inputsOf(kept, 2)) || !outcomeOf(c, cols).equal(before) {
			t.Errorf("%v: results share memory with arguments or other results", c)
		}
	}
}
