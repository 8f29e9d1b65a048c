package commit_test

import (
	"math"
	"slices"
	"sync"
	"testing"

	"attestor/api"
	"attestor/commit"
	"attestor/ext"
	"attestor/field"
	"attestor/mle"
	"attestor/reedsolomon"
)

// P11.2: the openings of all small tables are accepted.
func TestCompleteness(t *testing.T) {
	for _, x := range openings() {
		root, c := x.claim(t)
		check(t, root, x.s, c, api.OK, "true value")
	}
}

// P11.2: at the vertices the values are the elements of the table.
func TestVertices(t *testing.T) {
	for seed, s := range shapesOf(4) {
		x := openingOf(s, uint64(seed))
		for i, v := range x.t {
			for k := range x.w.P {
				x.w.P[k] = ext.FromInt(int64(i >> k & 1))
			}
			root, c := x.claim(t)
			if c.V != ext.FromBase(v) {
				t.Fatalf("element %d is %d, the value is %v", i, v, c.V)
			}
			check(t, root, s, c, api.OK, "vertex")
		}
	}
}

// P11.1, P11.2: larger tables, up to the largest, with the default shape and with the fewest rows and columns.
func TestLargeTables(t *testing.T) {
	var l []api.Shape
	for log := 6; log <= 16; log++ {
		l = append(l, commit.Default(log))
	}
	for _, blowup := range blowups() {
		cols := longest / blowup
		l = append(l, api.Shape{Rows: blowup, Cols: cols, Blowup: blowup, Tests: 64}, api.Shape{Rows: longest, Cols: 1, Blowup: blowup, Tests: blowup})
	}
	for seed, s := range l {
		x := openingOf(s, uint64(seed))
		root, c := x.claim(t)
		check(t, root, s, c, api.OK, "true value")
		if !slices.Equal(c.O.Random, combination(x.t, s, x.randomWeight())) {
			t.Errorf("%v: Random is not the combination of the rows", s)
		}
		other := changed(c, func(c *api.Opened) { c.O.Columns[s.Tests-1][s.Rows-1] ^= 1 })
		check(t, root, s, other, api.ErrPath, "changed column")
		other = changed(c, func(c *api.Opened) { c.O.Row[s.Cols-1] = ext.Add(c.O.Row[s.Cols-1], ext.FromInt(1)) })
		check(t, root, s, other, api.ErrColumn, "changed Row")
		other = changed(c, func(c *api.Opened) { c.V = ext.Neg(c.V) })
		check(t, root, s, other, api.ErrValue, "changed value")
	}
}

// bindingOpenings returns openings whose columns differ from each other.
func bindingOpenings() []opening {
	var l []opening
	for _, log := range []int{1, 3, 4} {
		for _, s := range shapesOf(log) {
			if s.Cols > 1 {
				l = append(l, openingOf(s, uint64(len(l))))
			}
		}
	}
	return l
}

// P11.3: no element of a column can be changed.
func TestColumnsAreBound(t *testing.T) {
	for _, x := range bindingOpenings() {
		root, c := x.claim(t)
		for k, column := range c.O.Columns {
			for i, v := range column {
				for _, other := range []uint64{field.Add(v, 1), field.Neg(v), field.Add(v, 1<<56), 0} {
					broken := changed(c, func(c *api.Opened) { c.O.Columns[k][i] = other })
					check(t, root, x.s, broken, api.ErrPath, "changed column")
				}
			}
		}
	}
}

// P11.3: no digest can be changed, left out or added, and no root is that of the table but one.
func TestDigestsAreBound(t *testing.T) {
	for _, x := range bindingOpenings() {
		root, c := x.claim(t)
		for i := range root {
			other := root
			other[i] ^= 1 << (i % 8)
			check(t, other, x.s, c, api.ErrPath, "changed root")
		}
		check(t, api.Digest{}, x.s, c, api.ErrPath, "no root")
		for k := range c.O.Path.Nodes {
			for _, i := range []int{0, 15, 31} {
				broken := changed(c, func(c *api.Opened) { c.O.Path.Nodes[k][i] ^= 128 })
				check(t, root, x.s, broken, api.ErrPath, "changed digest")
			}
			broken := changed(c, func(c *api.Opened) { c.O.Path.Nodes = slices.Delete(c.O.Path.Nodes, k, k+1) })
			check(t, root, x.s, broken, api.ErrPath, "missing digest")
		}
		broken := changed(c, func(c *api.Opened) { c.O.Path.Nodes = append(c.O.Path.Nodes, root) })
		check(t, root, x.s, broken, api.ErrPath, "additional digest")
	}
}

// P11.3: columns are bound to their indices, and openings to their tables.
func TestIndicesAreBound(t *testing.T) {
	for _, x := range bindingOpenings() {
		root, c := x.claim(t)
		if x.s.Tests > 1 {
			broken := changed(c, func(c *api.Opened) { slices.Reverse(c.O.Columns) })
			check(t, root, x.s, broken, api.ErrPath, "exchanged columns")
		}
		n := x.s.Blowup * x.s.Cols
		for seed := range uint64(4) {
			idx := chosen(n, x.s.Tests, seed+100)
			if !slices.Equal(idx, x.w.Index) {
				broken := changed(c, func(c *api.Opened) { c.At.Index = idx })
				check(t, root, x.s, broken, api.ErrPath, "other indices")
			}
		}
		for i := range x.t {
			other := slices.Clone(x.t)
			other[i] = field.Add(other[i], 1)
			otherRoot, err := commit.Root(other, x.s)
			if err != api.OK || otherRoot == root {
				t.Errorf("%v: the root does not depend on element %d, %v", x.s, i, err)
			}
			check(t, otherRoot, x.s, c, api.ErrPath, "root of another table")
		}
	}
}

// P11.3: the root depends on the arrangement.
func TestRootsOfShapes(t *testing.T) {
	l := random(64, 1)
	seen := map[api.Digest]api.Shape{}
	for _, s := range shapesOf(6) {
		if s.Tests != 1 {
			continue
		}
		root, err := commit.Root(l, s)
		if other, ok := seen[root]; ok || err != api.OK {
			t.Errorf("%v has the root of %v, %v", s, other, err)
		}
		seen[root] = s
		s.Tests = 2
		if again, err := commit.Root(l, s); again != root || err != api.OK {
			t.Errorf("the root for %v depends on the number of tests", s)
		}
	}
}

// vanishing returns a row of k elements whose codeword of length n is zero exactly at the indices idx, fewer than k.
func vanishing(k int, n int, idx []int) []api.Ext {
	row := make([]api.Ext, k)
	row[0] = api.Ext{A: 3, B: 5}
	w := field.Pow(7, (p-1)/uint64(n))
	for _, i := range idx {
		x := field.Pow(w, uint64(i))
		for j := k - 1; j > 0; j-- {
			row[j] = ext.Sub(row[j-1], ext.MulBase(row[j], x))
		}
		row[0] = ext.Neg(ext.MulBase(row[0], x))
	}
	return row
}

// plus returns the sum of a and c times b, element by element.
func plus(a []api.Ext, c api.Ext, b []api.Ext) []api.Ext {
	sum := make([]api.Ext, len(a))
	for i, x := range a {
		sum[i] = ext.Add(x, ext.Mul(c, b[i]))
	}
	return sum
}

// agreements returns the indices at which the codeword of a row has the sums of the true columns, weighted by weight.
func agreements(t *testing.T, x opening, row []api.Ext, weight func(i int) api.Ext) []int {
	t.Helper()
	word, err := reedsolomon.EncodeExt(row, x.s.Blowup)
	if err != api.OK {
		t.Fatalf("EncodeExt: %v", err)
	}
	rows := codewords(x.t, x.s)
	var l []int
	for j, symbol := range word {
		var sum api.Ext
		for i, v := range column(rows, j) {
			sum = ext.Add(sum, ext.MulBase(weight(i), v))
		}
		if symbol == sum {
			l = append(l, j)
		}
	}
	return l
}

// within reports whether all elements of idx are in l.
func within(idx []int, l []int) bool {
	return !slices.ContainsFunc(idx, func(j int) bool { return !slices.Contains(l, j) })
}

// checkFalseRow opens x with a false Row and with a false Random that are right at the indices roots only.
func checkFalseRow(t *testing.T, x opening, roots []int) {
	t.Helper()
	root, c := x.claim(t)
	delta := vanishing(x.s.Cols, x.s.Blowup*x.s.Cols, roots)
	row, random := plus(c.O.Row, ext.FromInt(1), delta), plus(c.O.Random, ext.FromInt(1), delta)
	for _, agree := range [][]int{agreements(t, x, row, x.rowWeight()), agreements(t, x, random, x.randomWeight())} {
		if len(agree) >= x.s.Cols || !within(roots, agree) {
			t.Errorf("%v: a false combination agrees at %v", x.s, agree)
		}
	}
	falseRow := changed(c, func(c *api.Opened) { c.O.Row = row })
	falseRandom := changed(c, func(c *api.Opened) { c.O.Random = random })
	if !within(x.w.Index, roots) {
		check(t, root, x.s, falseRow, api.ErrColumn, "false Row")
		check(t, root, x.s, falseRandom, api.ErrColumn, "false Random")
		return
	}
	// The opened columns miss the error: what is left to check is the value of the false row.
	check(t, root, x.s, falseRandom, api.OK, "false Random that the opened columns miss")
	check(t, root, x.s, falseRow, api.ErrValue, "false Row that the opened columns miss, with the true value")
	a := len(x.w.P)
	for 1<<a > x.s.Cols {
		a--
	}
	falseRow.V = mle.Eval(row, x.w.P[:a])
	check(t, root, x.s, falseRow, api.OK, "false Row that the opened columns miss, with its value")
}

// P11.4: a false combination agrees with fewer columns than the rows have elements, and is rejected if another column is
// among the opened ones, but only then.
func TestDistance(t *testing.T) {
	for _, log := range []int{0, 1, 2, 4} {
		for seed, s := range shapesOf(log) {
			x := openingOf(s, uint64(seed))
			n := s.Blowup * s.Cols
			for count := range s.Cols {
				checkFalseRow(t, x, chosen(n, count, uint64(seed+count)))
			}
			for _, count := range []int{s.Tests - 1, s.Tests} {
				if count < s.Cols {
					checkFalseRow(t, x, x.w.Index[:count])
					checkFalseRow(t, x, x.w.Index[s.Tests-count:])
				}
			}
		}
	}
}

// P11.4: false combinations of zero rows are rejected whichever component they have.
func TestZeroTable(t *testing.T) {
	for seed, s := range shapesOf(3) {
		x := openingOf(s, uint64(seed))
		clear(x.t)
		root, c := x.claim(t)
		check(t, root, s, c, api.OK, "zero table")
		for _, delta := range []api.Ext{{A: 1}, {B: 1}, {A: p - 1, B: 1}} {
			check(t, root, s, changed(c, func(c *api.Opened) { c.O.Row[0] = delta }), api.ErrColumn, "Row of a zero table")
			check(t, root, s, changed(c, func(c *api.Opened) { c.O.Random[0] = delta }), api.ErrColumn, "Random of a zero table")
		}
	}
}

// P11.4: a combination with wrong weights is false.
func TestWeights(t *testing.T) {
	one := ext.FromInt(1)
	for seed, s := range shapesOf(5) {
		if s.Rows == 1 {
			continue
		}
		x := openingOf(s, uint64(seed))
		root, c := x.claim(t)
		check(t, root, s, changed(c, func(c *api.Opened) { c.At.Rho = ext.Add(c.At.Rho, one) }), api.ErrColumn, "other Rho")
		a := 0
		for 1<<a < s.Cols {
			a++
		}
		for k := range x.w.P {
			broken := changed(c, func(c *api.Opened) { c.At.P[k] = ext.Add(c.At.P[k], one) })
			want := api.ErrColumn
			if k < a {
				want = api.ErrValue
			}
			check(t, root, s, broken, want, "other coordinate")
		}
		broken := changed(c, func(c *api.Opened) { c.O.Row, c.O.Random = c.O.Random, c.O.Row })
		check(t, root, s, broken, api.ErrColumn, "exchanged rows")
	}
}

// P11.5: with the true combinations only the true value is accepted.
func TestValues(t *testing.T) {
	for _, x := range openings() {
		root, c := x.claim(t)
		for _, delta := range []api.Ext{{A: 1}, {B: 1}, {A: p - 1}, {A: 1 << 32, B: 7}, ext.Neg(c.V), c.V} {
			if !ext.IsZero(delta) {
				check(t, root, x.s, changed(c, func(c *api.Opened) { c.V = ext.Add(c.V, delta) }), api.ErrValue, "other value")
			}
		}
	}
}

// P11.6: the encoded rows and the combined rows of a + c b are those of a plus c times those of b.
func TestLinearity(t *testing.T) {
	for seed, s := range append(shapesOf(4), commit.Default(10)) {
		x := openingOf(s, uint64(seed))
		a, b := x.t, random(len(x.t), uint64(seed)+50)
		for _, c := range []uint64{0, 1, p - 1, 1 << 32, 0x0123456789abcdef} {
			combined := func(a []uint64, b []uint64) []uint64 {
				sum := make([]uint64, len(a))
				for i, v := range a {
					sum[i] = field.Add(v, field.Mul(c, b[i]))
				}
				return sum
			}
			rows, _ := commit.Codewords(combined(a, b), s)
			rowsA, _ := commit.Codewords(a, s)
			rowsB, err := commit.Codewords(b, s)
			for i := range rowsA {
				if err != api.OK || !slices.Equal(rows[i], combined(rowsA[i], rowsB[i])) {
					t.Fatalf("%v: encoded row %d is not linear in the table, %v", s, i, err)
				}
			}
			o, _ := commit.Open(combined(a, b), s, x.w)
			oA, _ := commit.Open(a, s, x.w)
			oB, err := commit.Open(b, s, x.w)
			if err != api.OK || !slices.Equal(o.Row, plus(oA.Row, ext.FromBase(c), oB.Row)) || !slices.Equal(o.Random, plus(oA.Random, ext.FromBase(c), oB.Random)) {
				t.Fatalf("%v: the combined rows are not linear in the table, %v", s, err)
			}
		}
	}
}

// outcome is what all functions return for some arguments.
type outcome struct {
	valid bool
	shape api.Shape
	rows  [][]uint64
	root  api.Digest
	o     api.Proximity
	err   [4]api.Errno
}

// outcomeOf calls all functions.
func outcomeOf(l []uint64, s api.Shape, c api.Opened) outcome {
	x := outcome{valid: commit.Valid(s, c.Log), shape: commit.Default(c.Log)}
	x.rows, x.err[0] = commit.Codewords(l, s)
	x.root, x.err[1] = commit.Root(l, s)
	x.o, x.err[2] = commit.Open(l, s, c.At)
	x.err[3] = commit.Verify(x.root, s, c)
	return x
}

// equal reports whether two outcomes are equal.
func (x outcome) equal(y outcome) bool {
	return x.valid == y.valid && x.shape == y.shape && x.root == y.root && x.err == y.err && same(x.o, y.o) &&
		slices.EqualFunc(x.rows, y.rows, slices.Equal[[]uint64])
}

// P1: every call returns, and nothing but an error if there is one.
func TestCallsReturn(t *testing.T) {
	odd := []int{math.MinInt, -65536, -1, 0, 1, 2, 3, 4, 16, 65536, 1 << 32, 1 << 62, math.MaxInt}
	ats := []api.OpenAt{{}, {P: randomExt(2, 1), Index: []int{0}}, {P: make([]api.Ext, 17), Index: []int{math.MinInt, math.MaxInt}}}
	opened := []api.Proximity{{}, {Row: make([]api.Ext, 2), Random: make([]api.Ext, 2), Columns: [][]uint64{{1, 2}}}, {Columns: make([][]uint64, 4)}}
	tables := [][]uint64{nil, {1}, {1, 2, 3, 4}, {p, 1, 2, math.MaxUint64}, make([]uint64, 5)}
	for _, rows := range odd {
		for _, cols := range odd {
			for i, count := range odd {
				s := api.Shape{Rows: rows, Cols: cols, Blowup: odd[(i*5+3)%len(odd)], Tests: count}
				for k, l := range tables {
					c := api.Opened{At: ats[(i+k)%3], Log: odd[(i+3*k)%len(odd)], O: opened[(i+2*k)%3]}
					x := outcomeOf(l, s, c)
					if x.err[0] != api.OK && len(x.rows) != 0 || x.err[1] != api.OK && x.root != (api.Digest{}) || x.err[2] != api.OK && !isZero(x.o) {
						t.Errorf("%v, %v, %v: %v", l, s, c, x)
					}
				}
			}
		}
	}
}

// P1: openings without anything, with nil slices and with more than there should be are refused without a panic.
func TestOddOpenings(t *testing.T) {
	x := openingOf(api.Shape{Rows: 4, Cols: 4, Blowup: 4, Tests: 3}, 1)
	root, c := x.claim(t)
	check(t, root, x.s, api.Opened{}, api.ErrArg, "nothing")
	check(t, root, api.Shape{}, api.Opened{}, api.ErrArg, "nothing and no shape")
	check(t, root, x.s, api.Opened{At: c.At, Log: 4, V: c.V}, api.ErrArg, "no opening")
	check(t, root, x.s, api.Opened{Log: 4, V: c.V, O: c.O}, api.ErrArg, "no point")
	check(t, root, x.s, changed(c, func(c *api.Opened) { c.O.Columns = make([][]uint64, 3) }), api.ErrArg, "nil columns")
	check(t, root, x.s, changed(c, func(c *api.Opened) { c.O.Path = api.Opening{} }), api.ErrPath, "no path")
	check(t, root, x.s, changed(c, func(c *api.Opened) { c.O.Path.Nodes = make([]api.Digest, 1000) }), api.ErrPath, "long path")
}

// P2: equal arguments have equal results, whatever was called before and is called at the same time.
func TestResultsRepeat(t *testing.T) {
	l := openings()
	call := func(x opening) outcome {
		return outcomeOf(x.t, x.s, api.Opened{At: x.w, Log: x.log, V: extension(x.t, x.w.P)})
	}
	var first []outcome
	for _, x := range l {
		first = append(first, call(x))
	}
	var wait sync.WaitGroup
	for range 4 {
		wait.Go(func() {
			for i, want := range slices.Backward(first) {
				if !call(l[i]).equal(want) {
					t.Errorf("%v has other results", l[i].s)
				}
			}
		})
	}
	wait.Wait()
}

// spare returns a copy of l with capacity behind it, and the memory that it lies in.
func spare[T any](l []T, behind T) ([]T, []T) {
	memory := append(slices.Clone(l), slices.Repeat([]T{behind}, 5)...)
	return memory[:len(l)], memory
}

// copies is an opening whose slices have memory behind them, with this memory.
type copies struct {
	x      opening
	c      api.Opened
	words  [][]uint64
	points [][]api.Ext
	idx    []int
	nodes  []api.Digest
}

// copied returns copies of x and c.
func copied(x opening, c api.Opened) copies {
	y := copies{x: x, words: make([][]uint64, 1+len(c.O.Columns)), points: make([][]api.Ext, 3)}
	y.x.t, y.words[0] = spare(x.t, 7)
	c.O.Columns = slices.Clone(c.O.Columns)
	for k, column := range c.O.Columns {
		c.O.Columns[k], y.words[k+1] = spare(column, 8)
	}
	c.At.P, y.points[0] = spare(c.At.P, api.Ext{A: 9})
	c.O.Row, y.points[1] = spare(c.O.Row, api.Ext{A: 10})
	c.O.Random, y.points[2] = spare(c.O.Random, api.Ext{A: 11})
	c.At.Index, y.idx = spare(c.At.Index, -1)
	c.O.Path.Nodes, y.nodes = spare(c.O.Path.Nodes, api.Digest{12})
	y.c = c
	return y
}

// unchanged reports whether y and z have the same memory behind their slices.
func (y copies) unchanged(z copies) bool {
	return slices.EqualFunc(y.words, z.words, slices.Equal[[]uint64]) && slices.EqualFunc(y.points, z.points, slices.Equal[[]api.Ext]) &&
		slices.Equal(y.idx, z.idx) && slices.Equal(y.nodes, z.nodes)
}

// P2: arguments and the memory behind them stay as they are, and a change of a result changes no argument.
func TestArgumentsStay(t *testing.T) {
	for _, x := range openings() {
		root, c := x.claim(t)
		y, z := copied(x, c), copied(x, c)
		first := outcomeOf(y.x.t, x.s, y.c)
		check(t, root, x.s, y.c, api.OK, "copies")
		second := outcomeOf(y.x.t, x.s, y.c)
		for _, l := range slices.Concat(first.rows, first.o.Columns) {
			clear(l[:cap(l)])
		}
		for _, l := range [][]api.Ext{first.o.Row, first.o.Random} {
			clear(l[:cap(l)])
		}
		clear(first.o.Path.Nodes[:cap(first.o.Path.Nodes)])
		if !y.unchanged(z) {
			t.Errorf("%v: an argument was modified, or shares memory with a result", x.s)
		}
		if !second.equal(outcomeOf(x.t, x.s, c)) {
			t.Errorf("%v: a result shares memory with another one", x.s)
		}
	}
}

// P2: no two slices of one result share memory.
func TestResultsAreSeparate(t *testing.T) {
	for _, x := range openings() {
		rows, _ := commit.Codewords(x.t, x.s)
		o, _ := commit.Open(x.t, x.s, x.w)
		for _, l := range [][][]uint64{rows, o.Columns} {
			for i, a := range l {
				want := slices.Clone(l)
				for k, b := range l {
					want[k] = slices.Clone(b)
				}
				clear(a[:cap(a)])
				clear(want[i])
				if !slices.EqualFunc(l, want, slices.Equal[[]uint64]) {
					t.Errorf("%v: slice %d of a result shares memory with another one", x.s, i)
				}
			}
		}
		random := slices.Clone(o.Random)
		clear(o.Row[:cap(o.Row)])
		if !slices.Equal(o.Random, random) {
			t.Errorf("%v: Row and Random share memory", x.s)
		}
	}
}
