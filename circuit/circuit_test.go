package circuit_test

import (
	"math"
	"math/big"
	"slices"
	"testing"

	"attestor/api"
	"attestor/circuit"
)

// p is the order of the field.
const p = uint64(api.Prime)

// most is the largest number of inputs, of layers and of gates of a layer, and maxRows that of rows.
const (
	most    = 64
	maxRows = 65536
)

// bigPrime is the order of the field as a number of any length.
var bigPrime = new(big.Int).SetUint64(p)

// odd are integers of which most are no indices, and no numbers of inputs or sums.
var odd = []int{math.MinInt, math.MinInt + 1, -1 << 32, -65, -2, -1, 0, 1, 2, 3, 4, 5, 63, 64, 65, 1 << 32, 1 << 62, math.MaxInt}

// generator returns a function that returns numbers without a pattern, always the same for the same seed.
func generator(seed uint64) func(limit int) int {
	x := seed
	return func(limit int) int {
		x = x*6364136223846793005 + 1442695040888963407
		return int((x >> 33) % uint64(limit))
	}
}

// element returns a field element, of which many are the smallest or the largest ones.
func element(next func(int) int) uint64 {
	x := (uint64(next(1<<31))<<32 | uint64(next(1<<31))<<1) % p
	return []uint64{x, x, x, x % 10, p - 1 - x%10, 0, 1, p - 1, 1 << 32}[next(9)]
}

// gate returns a gate whose operands are among n values.
func gate(next func(int) int, n int) api.Gate {
	return api.Gate{L: next(n), R: next(n), C: element(next), A: element(next), B: element(next), D: element(next)}
}

// circuitOf returns a valid circuit with as many inputs as the first width and layers with as many gates as the others.
func circuitOf(next func(int) int, sums int, widths ...int) api.Circuit {
	c := api.Circuit{Inputs: widths[0], Sums: sums}
	for k, width := range widths[1:] {
		l := make([]api.Gate, width)
		for i := range l {
			l[i] = gate(next, widths[k])
		}
		c.Layers = append(c.Layers, l)
	}
	return c
}

// example returns the circuit of the examples of the chapter.
func example() api.Circuit {
	return api.Circuit{Inputs: 2, Layers: [][]api.Gate{{{L: 0, R: 1, C: 1, A: 2, D: 5}}}, Sums: 1}
}

// circuits returns valid circuits with few and with many inputs, layers, gates and sums.
func circuits() []api.Circuit {
	next := generator(1)
	l := []api.Circuit{
		example(), circuitOf(next, 0, 1, 1), circuitOf(next, 1, 1, 1), circuitOf(next, 2, 1, 2, 1, 3), circuitOf(next, 3, 3, 2, 3),
		circuitOf(next, 5, 4, 8, 5), circuitOf(next, 0, 5, 1, 4, 9), circuitOf(next, 1, most, 3), circuitOf(next, 40, 2, most),
		circuitOf(next, most, 7, most, most), circuitOf(next, 3, append(slices.Repeat([]int{3}, most), 4)...),
	}
	for range 10 {
		widths := []int{1 + next(9)}
		for range 1 + next(4) {
			widths = append(widths, 1+next(17))
		}
		l = append(l, circuitOf(next, next(widths[len(widths)-1]+1), widths...))
	}
	return l
}

// columns returns columns of field elements.
func columns(next func(int) int, inputs int, rows int) [][]uint64 {
	cols := make([][]uint64, inputs)
	for i := range cols {
		cols[i] = make([]uint64, rows)
		for j := range cols[i] {
			cols[i][j] = element(next)
		}
	}
	return cols
}

// outputs returns the last layer of a circuit.
func outputs(c api.Circuit) []api.Gate { return c.Layers[len(c.Layers)-1] }

// product returns the product of field elements.
func product(factors ...uint64) *big.Int {
	x := big.NewInt(1)
	for _, factor := range factors {
		x.Mul(x, new(big.Int).SetUint64(factor))
	}
	return x
}

// total returns the field element that is congruent to the sum of numbers.
func total(l ...*big.Int) uint64 {
	x := new(big.Int)
	for _, y := range l {
		x.Add(x, y)
	}
	return x.Mod(x, bigPrime).Uint64()
}

// valueOf returns the value of a gate for those of the previous layer.
func valueOf(g api.Gate, in []uint64) uint64 {
	l, r := in[g.L], in[g.R]
	return total(product(g.C, l, r), product(g.A, l), product(g.B, r), product(g.D))
}

// rowOf returns the values of all layers for a row.
func rowOf(c api.Circuit, in []uint64) [][]uint64 {
	values := [][]uint64{slices.Clone(in)}
	for k, l := range c.Layers {
		var out []uint64
		for _, g := range l {
			out = append(out, valueOf(g, values[k]))
		}
		values = append(values, out)
	}
	return values
}

// inputsOf returns the inputs of row j.
func inputsOf(cols [][]uint64, j int) []uint64 {
	var in []uint64
	for _, column := range cols {
		in = append(in, column[j])
	}
	return in
}

// padded returns l with zeros up to the next power of two.
func padded(l []uint64) []uint64 {
	n := 1
	for n < len(l) {
		n *= 2
	}
	return append(slices.Clone(l), make([]uint64, n-len(l))...)
}

// expected is what the functions have to return for a circuit and columns.
type expected struct {
	tables [][]uint64
	sums   []uint64
	row    int
	wrong  bool
}

// expect returns what P4 says for a circuit and columns.
func expect(c api.Circuit, cols [][]uint64) expected {
	x := expected{tables: make([][]uint64, len(c.Layers)+1), sums: make([]uint64, c.Sums)}
	for j := range cols[0] {
		values := rowOf(c, inputsOf(cols, j))
		for k, l := range values {
			x.tables[k] = append(x.tables[k], padded(l)...)
		}
		for i, v := range values[len(c.Layers)] {
			if i < c.Sums {
				x.sums[i] = total(product(x.sums[i]), product(v))
			} else if v != 0 && !x.wrong {
				x.row, x.wrong = j, true
			}
		}
	}
	return x
}

// equal reports whether two lists of lists are equal.
func equal(a [][]uint64, b [][]uint64) bool { return slices.EqualFunc(a, b, slices.Equal[[]uint64]) }

// check checks the results of Tables, Sums and Zeros.
func check(t *testing.T, c api.Circuit, cols [][]uint64, want expected) {
	t.Helper()
	if got, err := circuit.Tables(c, cols); err != api.OK || !equal(got, want.tables) {
		t.Errorf("Tables of %v for %d rows is wrong, with the result %d", c, len(cols[0]), err)
	}
	if got, err := circuit.Sums(c, cols); err != api.OK || !slices.Equal(got, want.sums) {
		t.Errorf("Sums of %v for %d rows = %v, %d, want %v", c, len(cols[0]), got, err, want.sums)
	}
	if row, wrong := circuit.Zeros(c, cols); row != want.row || wrong != want.wrong {
		t.Errorf("Zeros of %v for %d rows = %d, %v, want %d, %v", c, len(cols[0]), row, wrong, want.row, want.wrong)
	}
}

// refused checks that Tables and Sums return an error and nothing else.
func refused(t *testing.T, c api.Circuit, cols [][]uint64, want api.Errno) {
	t.Helper()
	if got, err := circuit.Tables(c, cols); got != nil || err != want {
		t.Errorf("Tables = %d tables, %d, want the error %d", len(got), err, want)
	}
	if got, err := circuit.Sums(c, cols); got != nil || err != want {
		t.Errorf("Sums = %d sums, %d, want the error %d", len(got), err, want)
	}
}

// changed returns a copy of a circuit in which gate i of layer k is changed.
func changed(c api.Circuit, k int, i int, change func(g *api.Gate)) api.Circuit {
	c.Layers = slices.Clone(c.Layers)
	c.Layers[k] = slices.Clone(c.Layers[k])
	change(&c.Layers[k][i])
	return c
}

// P16.1, P1: circuits up to the limits are valid.
func TestValid(t *testing.T) {
	next := generator(2)
	l := circuits()
	l = append(l, circuitOf(next, 0, most, most), circuitOf(next, most, slices.Repeat([]int{most}, most+1)...))
	l = append(l, circuitOf(next, 9, 3, 20, 9), circuitOf(next, 20, 3, 9, 20))
	for _, c := range l {
		if err := circuit.Valid(c); err != api.OK {
			t.Errorf("Valid(%v) = %d", c, err)
		}
	}
}

// P16.1, P1: ErrBig for too many inputs, layers or gates.
func TestTooBig(t *testing.T) {
	next := generator(3)
	for i, c := range []api.Circuit{
		circuitOf(next, 1, most+1, 1), circuitOf(next, 1, 1000, 1), circuitOf(next, 1, 1, most+1), circuitOf(next, 1, 2, 1, most+1, 1),
		circuitOf(next, 1, 2, most+1, 1), circuitOf(next, 1, slices.Repeat([]int{1}, most+2)...), circuitOf(next, 1, slices.Repeat([]int{1}, 500)...),
		{Inputs: math.MaxInt, Layers: [][]api.Gate{{{}}}},
	} {
		if err := circuit.Valid(c); err != api.ErrBig {
			t.Errorf("case %d: %d", i, err)
		}
		refused(t, c, columns(next, min(c.Inputs, 1000), 2), api.ErrBig)
	}
}

// P16.1, P1: ErrArg for too few inputs, layers or gates, and for impossible numbers of sums.
func TestIncomplete(t *testing.T) {
	next := generator(4)
	one := [][]api.Gate{{{}}}
	l := []api.Circuit{
		{}, {Inputs: 1}, {Inputs: 1, Layers: [][]api.Gate{}}, {Layers: one}, {Inputs: -1, Layers: one}, {Inputs: math.MinInt, Layers: one},
		{Inputs: 1, Layers: [][]api.Gate{nil}}, {Inputs: 1, Layers: [][]api.Gate{{}, {{}}}}, {Inputs: 1, Layers: [][]api.Gate{{{}}, {}}},
		{Inputs: 1, Layers: [][]api.Gate{{{}}, nil, {{}}}}, {Inputs: 1, Layers: one, Sums: -1}, {Inputs: 1, Layers: one, Sums: 2},
		{Inputs: 1, Layers: one, Sums: math.MinInt}, {Inputs: 1, Layers: one, Sums: math.MaxInt}, {Inputs: 1, Sums: 1}, {Inputs: 1, Sums: -1},
		circuitOf(next, 4, 3, 9, 3), circuitOf(next, 10, 20, 9), circuitOf(next, 65, 20, most),
	}
	for i, c := range l {
		if err := circuit.Valid(c); err != api.ErrArg {
			t.Errorf("case %d: %d", i, err)
		}
		refused(t, c, columns(next, max(c.Inputs, 0), 2), api.ErrArg)
	}
}

// P16.1, P1: ErrWiring for operands that are not in the previous layer, and for coefficients that are not field elements,
// whether the gate uses them or not.
func TestMiswired(t *testing.T) {
	next := generator(5)
	c := circuitOf(next, 2, 3, 5, 2, 7)
	for k, n := range []int{3, 5, 2} {
		for i := range c.Layers[k] {
			var l []api.Circuit
			for _, at := range []int{-1, n, n + 1, 8, most, math.MinInt, math.MaxInt} {
				l = append(l, changed(c, k, i, func(g *api.Gate) { g.L = at }), changed(c, k, i, func(g *api.Gate) { g.R = at }),
					changed(c, k, i, func(g *api.Gate) { *g = api.Gate{L: at} }), changed(c, k, i, func(g *api.Gate) { *g = api.Gate{R: at} }))
			}
			for _, x := range []uint64{p, p + 1, math.MaxUint64} {
				l = append(l, changed(c, k, i, func(g *api.Gate) { g.C = x }), changed(c, k, i, func(g *api.Gate) { g.A = x }),
					changed(c, k, i, func(g *api.Gate) { g.B = x }), changed(c, k, i, func(g *api.Gate) { g.D = x }))
			}
			for m, d := range l {
				if err := circuit.Valid(d); err != api.ErrWiring {
					t.Errorf("change %d of gate %d of layer %d: %d", m, i, k, err)
				}
				refused(t, d, columns(next, 3, 2), api.ErrWiring)
			}
			last := changed(c, k, i, func(g *api.Gate) { *g = api.Gate{L: n - 1, R: n - 1, C: p - 1, A: p - 1, B: p - 1, D: p - 1} })
			if err := circuit.Valid(last); err != api.OK {
				t.Errorf("the last operands and elements of gate %d of layer %d: %d", i, k, err)
			}
		}
	}
}

// P16.1, P1: the first applicable error of the list counts, in whichever layer it is.
func TestOrderOfErrors(t *testing.T) {
	wrong, wide := []api.Gate{{L: -1, C: p}}, make([]api.Gate, most+1)
	long := slices.Repeat([][]api.Gate{{{}}}, most+1)
	for i, c := range []struct {
		c    api.Circuit
		want api.Errno
	}{
		{api.Circuit{Inputs: most + 1}, api.ErrBig}, {api.Circuit{Inputs: most + 1, Sums: -1}, api.ErrBig},
		{api.Circuit{Inputs: 0, Layers: [][]api.Gate{wide}}, api.ErrBig}, {api.Circuit{Inputs: -5, Layers: long}, api.ErrBig},
		{api.Circuit{Inputs: 1, Layers: [][]api.Gate{wrong, {}, wide}}, api.ErrBig}, {api.Circuit{Inputs: 1, Layers: [][]api.Gate{wide, {}}}, api.ErrBig},
		{api.Circuit{Inputs: 1, Layers: [][]api.Gate{wide, wrong}, Sums: 9}, api.ErrBig}, {api.Circuit{Inputs: 1, Layers: make([][]api.Gate, most+1)}, api.ErrBig},
		{api.Circuit{Inputs: 1, Layers: [][]api.Gate{wrong, nil}}, api.ErrArg}, {api.Circuit{Inputs: 1, Layers: [][]api.Gate{{}, wrong}}, api.ErrArg},
		{api.Circuit{Inputs: 1, Layers: [][]api.Gate{wrong}, Sums: 2}, api.ErrArg}, {api.Circuit{Inputs: 1, Layers: [][]api.Gate{wrong}, Sums: -1}, api.ErrArg},
		{api.Circuit{Layers: [][]api.Gate{wrong}}, api.ErrArg}, {api.Circuit{Inputs: 1, Layers: [][]api.Gate{wrong}, Sums: 1}, api.ErrWiring},
	} {
		if err := circuit.Valid(c.c); err != c.want {
			t.Errorf("case %d: %d, want %d", i, err, c.want)
		}
		refused(t, c.c, nil, c.want)
		refused(t, c.c, [][]uint64{{1, 2, 3}, {4}}, c.want)
	}
}

// P16.1, P2: Width is defined for all integers.
func TestWidth(t *testing.T) {
	for n, w := range []int{0, 0, 1, 2, 2, 3, 3, 3, 3, 4} {
		if got := circuit.Width(n); got != w {
			t.Errorf("Width(%d) = %d, want %d", n, got, w)
		}
	}
	for w := 2; w < 63; w++ {
		n := 1 << w
		if circuit.Width(n-1) != w || circuit.Width(n) != w || circuit.Width(n+1) != w+1 {
			t.Errorf("Width is wrong near 2^%d: %d, %d, %d", w, circuit.Width(n-1), circuit.Width(n), circuit.Width(n+1))
		}
	}
	for _, n := range []int{math.MinInt, math.MinInt + 1, -1 << 40, -64, -2, -1} {
		if got := circuit.Width(n); got != 0 {
			t.Errorf("Width(%d) = %d, want 0", n, got)
		}
	}
	if got := circuit.Width(math.MaxInt); got != 63 {
		t.Errorf("Width(%d) = %d, want 63", math.MaxInt, got)
	}
}

// P16.1, P3: each coefficient is applied to its operands, also to equal ones.
func TestGates(t *testing.T) {
	in := []uint64{7, p - 3, 11}
	for i, c := range []struct {
		g    api.Gate
		want uint64
	}{
		{api.Gate{}, 0}, {api.Gate{D: p - 1}, p - 1}, {api.Gate{L: 0, R: 2, C: 1}, 77}, {api.Gate{L: 0, R: 2, A: 1}, 7}, {api.Gate{L: 0, R: 2, B: 1}, 11},
		{api.Gate{L: 0, R: 2, C: 2, A: 3, B: 5, D: 13}, 243}, {api.Gate{L: 2, R: 0, C: 2, A: 3, B: 5, D: 13}, 235}, {api.Gate{L: 2, R: 2, C: 1}, 121},
		{api.Gate{L: 0, R: 1, C: 1}, p - 21}, {api.Gate{L: 1, R: 1, C: 1, A: p - 1}, 12}, {api.Gate{L: 1, R: 1, A: 1, B: 1, D: 6}, 0},
	} {
		if got := circuit.Layer([]api.Gate{c.g}, in); !slices.Equal(got, []uint64{c.want}) {
			t.Errorf("case %d: %v, want %d", i, got, c.want)
		}
	}
}

// P16.1, P3: layers of any size, over any number of values.
func TestLayer(t *testing.T) {
	next := generator(6)
	for _, n := range []int{1, 2, 3, 9, most, 200} {
		for _, size := range []int{0, 1, 2, 7, most, 150} {
			in := columns(next, 1, n)[0]
			var l []api.Gate
			var want []uint64
			for range size {
				l = append(l, gate(next, n))
				want = append(want, valueOf(l[len(l)-1], in))
			}
			if got := circuit.Layer(l, in); !slices.Equal(got, want) {
				t.Errorf("the values of %d gates over %d values are %v, want %v", size, n, got, want)
			}
		}
	}
	if got := circuit.Layer(nil, nil); len(got) != 0 {
		t.Errorf("Layer of no gates and no values = %v", got)
	}
}

// P16.1, P3: the values of a row begin with its inputs.
func TestRow(t *testing.T) {
	next := generator(7)
	for _, c := range circuits() {
		for range 5 {
			in := inputsOf(columns(next, c.Inputs, 1), 0)
			if got, want := circuit.Row(c, in), rowOf(c, in); !equal(got, want) {
				t.Errorf("Row(%v, %v) = %v, want %v", c, in, got, want)
			}
		}
	}
}

// P16.1, P4: the tables, the sums and the first wrong row, for all numbers of rows up to 256.
func TestTables(t *testing.T) {
	next := generator(8)
	for _, c := range circuits() {
		for log := range 9 {
			cols := columns(next, c.Inputs, 1<<log)
			check(t, c, cols, expect(c, cols))
		}
	}
}

// P16.1, P4: the largest number of rows.
func TestMostRows(t *testing.T) {
	next := generator(9)
	for _, c := range []api.Circuit{circuitOf(next, 2, 3, 2, 3), circuitOf(next, 1, 1, 1)} {
		cols := columns(next, c.Inputs, maxRows)
		check(t, c, cols, expect(c, cols))
	}
}

// chain returns the circuit with the most inputs, layers and gates in which gate i of every layer adds i to the value of
// gate (or input) i + 1 of the previous layer, or 0 after the last one. Only the last output is 0, and not a sum.
func chain() api.Circuit {
	c := api.Circuit{Inputs: most, Sums: most - 1}
	for range most {
		l := make([]api.Gate, most)
		for i := range l {
			l[i] = api.Gate{L: (i + 1) % most, A: 1, D: uint64(i)}
		}
		c.Layers = append(c.Layers, l)
	}
	c.Layers[most-1][most-1] = api.Gate{L: most - 1, R: most - 1}
	return c
}

// P16.1, P4: the sums of the largest circuit over the largest number of rows, and the tables of its first layer.
func TestLargestCircuit(t *testing.T) {
	c := chain()
	cols := make([][]uint64, most)
	for i := range cols {
		cols[i] = make([]uint64, maxRows)
		for j := range cols[i] {
			cols[i][j] = uint64(1000*j + i)
		}
	}
	got, err := circuit.Sums(c, cols)
	if err != api.OK || len(got) != most-1 {
		t.Fatalf("Sums = %d sums, %d", len(got), err)
	}
	// After 64 layers each value has come round to its place and has been increased by 0 + 1 + ... + 63.
	for i, sum := range got {
		if want := uint64(1000*(maxRows*(maxRows-1)/2) + maxRows*(i+63*64/2)); sum != want {
			t.Errorf("sum %d is %d, want %d", i, sum, want)
		}
	}
	if row, wrong := circuit.Zeros(c, cols); row != 0 || wrong {
		t.Errorf("Zeros = %d, %v", row, wrong)
	}
	tables, err := circuit.Tables(api.Circuit{Inputs: most, Layers: c.Layers[:1]}, cols)
	if err != api.OK || len(tables) != 2 || len(tables[0]) != most*maxRows || len(tables[1]) != most*maxRows {
		t.Fatalf("Tables = %d tables, %d", len(tables), err)
	}
	for k, v := range tables[1] {
		i, j := k%most, k/most
		if in := tables[0][k]; in != uint64(1000*j+i) || v != uint64(1000*j+(i+1)%most+i) {
			t.Fatalf("gate and input %d of row %d are %d and %d", i, j, v, in)
		}
	}
}

// P16.1, P4: columns that do not fit a circuit.
func TestColumnsThatDoNotFit(t *testing.T) {
	next := generator(10)
	for _, c := range circuits() {
		l := [][][]uint64{nil, {}, columns(next, c.Inputs-1, 4), columns(next, c.Inputs+1, 4), columns(next, 2*c.Inputs, 4)}
		for _, rows := range []int{0, 3, 5, 6, 7, 12, 100, 255} {
			l = append(l, columns(next, c.Inputs, rows))
		}
		for _, rows := range []int{maxRows - 1, maxRows + 1, 2 * maxRows} {
			l = append(l, slices.Repeat([][]uint64{make([]uint64, rows)}, c.Inputs))
		}
		for i := range min(c.Inputs, 9) {
			for _, rows := range []int{0, 1, 3, 5, 8} {
				uneven := columns(next, c.Inputs, 4)
				if uneven[i] = make([]uint64, rows); c.Inputs > 1 {
					l = append(l, uneven)
				}
			}
		}
		for _, cols := range l {
			refused(t, c, cols, api.ErrArg)
			if row, wrong := circuit.Zeros(c, cols); row != 0 || wrong {
				t.Errorf("Zeros = %d, %v for columns that do not fit", row, wrong)
			}
		}
	}
}

// P16.1, P4: the lowest wrong row is found wherever it is and whatever follows; sums need not be zero.
func TestZeros(t *testing.T) {
	// Inputs 0 and 1 are the outputs that must be zero, and input 2 is a sum.
	c := api.Circuit{Inputs: 3, Layers: [][]api.Gate{{{L: 2, A: 1}, {L: 0, A: 1}, {R: 1, B: 1}}}, Sums: 1}
	for log := range 8 {
		rows := 1 << log
		free := make([]uint64, rows)
		for j := range free {
			free[j] = uint64(j + 1)
		}
		zeros := make([]uint64, rows)
		if row, wrong := circuit.Zeros(c, [][]uint64{zeros, zeros, free}); row != 0 || wrong {
			t.Errorf("Zeros of %d correct rows = %d, %v", rows, row, wrong)
		}
		for j := range rows {
			single := slices.Clone(zeros)
			single[j] = []uint64{1, p - 1, 1 << 32}[j%3]
			more := slices.Clone(zeros)
			for m := j; m < rows; m += 1 + m%5 {
				more[m] = 5
			}
			for i, cols := range [][][]uint64{{single, zeros, free}, {zeros, single, zeros}, {more, single, free}, {zeros, more, free}, {single, more, free}} {
				if row, wrong := circuit.Zeros(c, cols); row != j || !wrong {
					t.Errorf("case %d: Zeros of %d rows = %d, %v, want %d", i, rows, row, wrong, j)
				}
			}
		}
	}
}

// P16.1: only the outputs from c.Sums on must be zero.
func TestSumsNeedNotBeZero(t *testing.T) {
	c := circuitOf(generator(11), 0, 1, 5)
	for i := range c.Layers[0] {
		c.Layers[0][i] = api.Gate{D: uint64(i + 1)}
	}
	for sums := range 6 {
		c.Sums = sums
		want := expected{tables: [][]uint64{{9}, {1, 2, 3, 4, 5, 0, 0, 0}}, sums: []uint64{1, 2, 3, 4, 5}[:sums], wrong: sums < 5}
		check(t, c, [][]uint64{{9}}, want)
	}
}

// P16.1: the examples of the chapter.
func TestExamples(t *testing.T) {
	c := example()
	check(t, c, [][]uint64{{3}, {4}}, expected{tables: [][]uint64{{3, 4}, {23}}, sums: []uint64{23}})
	check(t, c, [][]uint64{{3, 0}, {4, 9}}, expected{tables: [][]uint64{{3, 4, 0, 9}, {23, 5}}, sums: []uint64{28}})
	if got := circuit.Row(c, []uint64{3, 4}); !equal(got, [][]uint64{{3, 4}, {23}}) {
		t.Errorf("Row = %v", got)
	}
	// One output instead of one sum: 3 * 4 + 2 * 3 + 5 is not zero, and neither is 5.
	c.Sums = 0
	check(t, c, [][]uint64{{3, 0}, {4, 9}}, expected{tables: [][]uint64{{3, 4, 0, 9}, {23, 5}}, wrong: true})
}
