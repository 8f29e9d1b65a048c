package commit_test

import (
	"crypto/sha256"
	"encoding/binary"
	"math"
	"slices"
	"testing"

	"attestor/api"
	"attestor/commit"
	"attestor/ext"
	"attestor/field"
	"attestor/merkle"
)

const (
	p       = uint64(api.Prime)
	longest = 65536
)

// blowups returns all blowups.
func blowups() []int { return []int{2, 4, 8, 16} }

// sequence returns a function that returns words without a pattern, always the same ones for the same seed.
func sequence(seed uint64) func() uint64 {
	x := seed
	return func() uint64 {
		x = x*6364136223846793005 + 1442695040888963407
		return x ^ x>>29
	}
}

// random returns n field elements without a pattern.
func random(n int, seed uint64) []uint64 {
	next := sequence(seed)
	l := make([]uint64, n)
	for i := range l {
		l[i] = next() % p
	}
	return l
}

// randomExt returns n elements of the extension field without a pattern.
func randomExt(n int, seed uint64) []api.Ext {
	a, b := random(n, seed), random(n, seed+1000)
	l := make([]api.Ext, n)
	for i := range l {
		l[i] = api.Ext{A: a[i], B: b[i]}
	}
	return l
}

// integers returns the elements of integers.
func integers(l ...int64) []api.Ext {
	out := make([]api.Ext, len(l))
	for i, n := range l {
		out[i] = ext.FromInt(n)
	}
	return out
}

// chosen returns count indices less than n in increasing order, without a pattern.
func chosen(n int, count int, seed uint64) []int {
	l := make([]int, n)
	for i := range l {
		l[i] = i
	}
	next := sequence(seed)
	for i := range count {
		j := i + int(next()>>1%uint64(n-i))
		l[i], l[j] = l[j], l[i]
	}
	slices.Sort(l[:count])
	return l[:count]
}

// shapesOf returns the valid shapes for a logarithm, with at most four numbers of tests for each arrangement.
func shapesOf(log int) []api.Shape {
	var l []api.Shape
	for a := range log + 1 {
		for _, blowup := range blowups() {
			n := blowup << a
			if n > longest {
				continue
			}
			tests := []int{1, min(3, n), min(1<<a, 64), min(n, 64)}
			slices.Sort(tests)
			for _, count := range slices.Compact(tests) {
				l = append(l, api.Shape{Rows: 1 << (log - a), Cols: 1 << a, Blowup: blowup, Tests: count})
			}
		}
	}
	return l
}

// opening is a table with its shape and what is opened of it.
type opening struct {
	t   []uint64
	s   api.Shape
	log int
	w   api.OpenAt
}

// openingOf returns a table without a pattern of this shape, with a point, a challenge and indices without a pattern.
func openingOf(s api.Shape, seed uint64) opening {
	log := 0
	for 1<<log < s.Rows*s.Cols {
		log++
	}
	return opening{t: random(1<<log, seed), s: s, log: log, w: api.OpenAt{
		P: randomExt(log, seed+1), Rho: randomExt(1, seed+2)[0], Index: chosen(s.Blowup*s.Cols, s.Tests, seed+3),
	}}
}

// openings returns openings of all shapes of small tables, some of them with tables, points or challenges of 0, 1 and -1.
func openings() []opening {
	var l []opening
	for log := range 6 {
		for _, s := range shapesOf(log) {
			seed := uint64(len(l))
			x := openingOf(s, seed)
			switch seed % 5 {
			case 1:
				x.w.P = integers(0, 1, -1, 1, 0)[:log]
			case 2:
				x.w.Rho = integers(0, 1, -1)[seed/5%3]
			case 3:
				x.t = slices.Repeat([]uint64{p - 1}, 1<<log)
			}
			l = append(l, x)
		}
	}
	return l
}

// value is the value of a polynomial at x, by Horner's rule.
func value(l []uint64, x uint64) uint64 {
	sum := uint64(0)
	for i := len(l) - 1; i >= 0; i-- {
		sum = field.Add(field.Mul(sum, x), l[i])
	}
	return sum
}

// codewords returns the encoded rows: the values of the rows at the powers of the root of unity.
func codewords(t []uint64, s api.Shape) [][]uint64 {
	n := s.Blowup * s.Cols
	w := field.Pow(7, (p-1)/uint64(n))
	l := make([][]uint64, s.Rows)
	for i := range l {
		for j := range n {
			l[i] = append(l[i], value(t[i*s.Cols:(i+1)*s.Cols], field.Pow(w, uint64(j))))
		}
	}
	return l
}

// column returns the symbols of the encoded rows with the index j.
func column(rows [][]uint64, j int) []uint64 {
	var l []uint64
	for _, row := range rows {
		l = append(l, row[j])
	}
	return l
}

// leaf returns the bytes of a column.
func leaf(column []uint64) []byte {
	var b []byte
	for _, x := range column {
		b = binary.LittleEndian.AppendUint64(b, x)
	}
	return b
}

// leaves returns the leaves of the hash tree: the bytes of all columns.
func leaves(t []uint64, s api.Shape) [][]byte {
	rows := codewords(t, s)
	var l [][]byte
	for j := range s.Blowup * s.Cols {
		l = append(l, leaf(column(rows, j)))
	}
	return l
}

// eq returns the weight of element i of a table at the point q: the product of q[k] or 1 - q[k] for each bit k of i.
func eq(i int, q []api.Ext) api.Ext {
	product := ext.FromInt(1)
	for k, x := range q {
		if i>>k&1 == 0 {
			x = ext.Sub(ext.FromInt(1), x)
		}
		product = ext.Mul(product, x)
	}
	return product
}

// extension returns the value of the multilinear extension of t at q.
func extension(t []uint64, q []api.Ext) api.Ext {
	var sum api.Ext
	for i, x := range t {
		sum = ext.Add(sum, ext.MulBase(eq(i, q), x))
	}
	return sum
}

// combination returns the sum of the rows of a table, each multiplied by the weight for its index.
func combination(t []uint64, s api.Shape, weight func(i int) api.Ext) []api.Ext {
	sum := make([]api.Ext, s.Cols)
	for i := range s.Rows {
		for j := range sum {
			sum[j] = ext.Add(sum[j], ext.MulBase(weight(i), t[i*s.Cols+j]))
		}
	}
	return sum
}

// rowWeight returns the function from the index of a row to its row weight.
func (x opening) rowWeight() func(i int) api.Ext {
	a := 0
	for 1<<a < x.s.Cols {
		a++
	}
	return func(i int) api.Ext { return eq(i, x.w.P[a:]) }
}

// randomWeight returns the function from the index of a row to its random weight.
func (x opening) randomWeight() func(i int) api.Ext {
	return func(i int) api.Ext { return ext.Pow(x.w.Rho, uint64(i)) }
}

// claim returns the opening of the table with the value of its multilinear extension, and the root.
func (x opening) claim(t *testing.T) (api.Digest, api.Opened) {
	t.Helper()
	root, err := commit.Root(x.t, x.s)
	if err != api.OK {
		t.Fatalf("Root for %v: %v", x.s, err)
	}
	o, err := commit.Open(x.t, x.s, x.w)
	if err != api.OK {
		t.Fatalf("Open for %v: %v", x.s, err)
	}
	return root, api.Opened{At: x.w, Log: x.log, V: extension(x.t, x.w.P), O: o}
}

// check fails the test if Verify returns something else.
func check(t *testing.T, root api.Digest, s api.Shape, c api.Opened, want api.Errno, what string) {
	t.Helper()
	if err := commit.Verify(root, s, c); err != want {
		t.Errorf("%v, %s: Verify returns %v, want %v", s, what, err, want)
	}
}

// same reports whether two openings are equal.
func same(a api.Proximity, b api.Proximity) bool {
	return slices.Equal(a.Row, b.Row) && slices.Equal(a.Random, b.Random) && slices.Equal(a.Path.Nodes, b.Path.Nodes) &&
		slices.EqualFunc(a.Columns, b.Columns, slices.Equal[[]uint64])
}

// isZero reports whether an opening is the zero value.
func isZero(o api.Proximity) bool { return same(o, api.Proximity{}) }

// numbers returns numbers of rows and columns, most of which are in no valid shape.
func numbers() []int {
	l := []int{math.MinInt, -65536, -4, -2, -1, 0, 3, 5, 6, 7, 12, 24, 65535, 65537, math.MaxInt}
	for k := range 63 {
		l = append(l, 1<<k)
	}
	return l
}

// K1: exactly the shapes of the chapter are valid, each for one logarithm.
func TestValid(t *testing.T) {
	logOf := map[api.Shape]int{}
	for log := range 17 {
		for a := range log + 1 {
			for _, blowup := range blowups() {
				for count := 1; count <= 64 && count <= blowup<<a && blowup<<a <= 65536; count++ {
					logOf[api.Shape{Rows: 1 << (log - a), Cols: 1 << a, Blowup: blowup, Tests: count}] = log
				}
			}
		}
	}
	for _, rows := range numbers() {
		for _, cols := range numbers() {
			for _, blowup := range []int{math.MinInt, -4, -2, 0, 1, 2, 3, 4, 6, 8, 12, 15, 16, 17, 32, 64, 1 << 62, math.MaxInt} {
				for _, count := range []int{math.MinInt, -1, 0, 1, 2, 3, 4, 5, 8, 9, 16, 17, 32, 33, 63, 64, 65, 128, math.MaxInt} {
					s := api.Shape{Rows: rows, Cols: cols, Blowup: blowup, Tests: count}
					log, ok := logOf[s]
					if ok && !commit.Valid(s, log) {
						t.Errorf("%v is not valid for %d", s, log)
					}
					for _, other := range []int{math.MinInt, -1, 0, 1, 2, 7, 15, 16, 17, 32, 62, 63, 64, math.MaxInt} {
						if commit.Valid(s, other) && (!ok || other != log) {
							t.Errorf("%v is valid for %d", s, other)
						}
					}
				}
			}
		}
	}
}

// K1: a valid shape of each logarithm is valid for no other.
func TestValidLogs(t *testing.T) {
	for log := range 17 {
		for _, s := range shapesOf(log) {
			for other := -3; other <= 70; other++ {
				if commit.Valid(s, other) != (other == log) {
					t.Errorf("%v is valid for %d: %v", s, other, other != log)
				}
			}
		}
	}
}

// K1: Default is nearly square, and valid.
func TestDefault(t *testing.T) {
	for log, want := range []api.Shape{
		{Rows: 1, Cols: 1, Blowup: 4, Tests: 4}, {Rows: 1, Cols: 2, Blowup: 4, Tests: 8},
		{Rows: 2, Cols: 2, Blowup: 4, Tests: 8}, {Rows: 2, Cols: 4, Blowup: 4, Tests: 16},
		{Rows: 4, Cols: 4, Blowup: 4, Tests: 16}, {Rows: 4, Cols: 8, Blowup: 4, Tests: 16},
		{Rows: 8, Cols: 8, Blowup: 4, Tests: 16}, {Rows: 8, Cols: 16, Blowup: 4, Tests: 16},
		{Rows: 16, Cols: 16, Blowup: 4, Tests: 16}, {Rows: 16, Cols: 32, Blowup: 4, Tests: 16},
		{Rows: 32, Cols: 32, Blowup: 4, Tests: 16}, {Rows: 32, Cols: 64, Blowup: 4, Tests: 16},
		{Rows: 64, Cols: 64, Blowup: 4, Tests: 16}, {Rows: 64, Cols: 128, Blowup: 4, Tests: 16},
		{Rows: 128, Cols: 128, Blowup: 4, Tests: 16}, {Rows: 128, Cols: 256, Blowup: 4, Tests: 16},
		{Rows: 256, Cols: 256, Blowup: 4, Tests: 16},
	} {
		if got := commit.Default(log); got != want || !commit.Valid(got, log) {
			t.Errorf("Default(%d) = %v, want %v", log, got, want)
		}
	}
	for _, log := range []int{math.MinInt, -16, -2, -1, 17, 18, 32, 63, 64, 65, math.MaxInt} {
		if got := commit.Default(log); got != (api.Shape{}) {
			t.Errorf("Default(%d) = %v", log, got)
		}
	}
}

// K2: the encoded rows and their root.
func TestCommitment(t *testing.T) {
	for _, x := range openings() {
		got, err := commit.Codewords(x.t, x.s)
		if want := codewords(x.t, x.s); err != api.OK || !slices.EqualFunc(got, want, slices.Equal[[]uint64]) {
			t.Errorf("Codewords(%v, %v) = %v, %v, want %v", x.t, x.s, got, err, want)
		}
		want, _ := merkle.Root(leaves(x.t, x.s))
		if root, err := commit.Root(x.t, x.s); err != api.OK || root != want {
			t.Errorf("Root(%v, %v) = %v, %v, want %v", x.t, x.s, root, err, want)
		}
	}
}

// K2: the root of a single element, with the hash inputs written out.
func TestRootOfOneElement(t *testing.T) {
	leaf := sha256.Sum256([]byte{0, 0x08, 0x07, 0x06, 0x05, 0x04, 0x03, 0x02, 0x01})
	want := api.Digest(sha256.Sum256(slices.Concat([]byte{1}, leaf[:], leaf[:])))
	got, err := commit.Root([]uint64{0x0102030405060708}, api.Shape{Rows: 1, Cols: 1, Blowup: 2, Tests: 1})
	if err != api.OK || got != want {
		t.Errorf("Root = %v, %v, want %v", got, err, want)
	}
}

// K3: the combined rows, the opened columns and their path.
func TestOpen(t *testing.T) {
	for _, x := range openings() {
		rows := codewords(x.t, x.s)
		want := api.Proximity{Row: combination(x.t, x.s, x.rowWeight()), Random: combination(x.t, x.s, x.randomWeight())}
		for _, j := range x.w.Index {
			want.Columns = append(want.Columns, column(rows, j))
		}
		want.Path, _ = merkle.Open(leaves(x.t, x.s), x.w.Index)
		if got, err := commit.Open(x.t, x.s, x.w); err != api.OK || !same(got, want) {
			t.Errorf("Open(%v, %v, %v) = %v, %v, want %v", x.t, x.s, x.w, got, err, want)
		}
	}
}

// refuse fails the test if one of the functions that take a table does not return ErrArg alone.
func refuse(t *testing.T, l []uint64, s api.Shape, w api.OpenAt) {
	t.Helper()
	if rows, err := commit.Codewords(l, s); len(rows) != 0 || err != api.ErrArg {
		t.Errorf("Codewords of %d elements for %v: %d rows, %v", len(l), s, len(rows), err)
	}
	if root, err := commit.Root(l, s); root != (api.Digest{}) || err != api.ErrArg {
		t.Errorf("Root of %d elements for %v: %v, %v", len(l), s, root, err)
	}
	refuseOpen(t, l, s, w)
}

// refuseOpen fails the test if Open does not return ErrArg alone.
func refuseOpen(t *testing.T, l []uint64, s api.Shape, w api.OpenAt) {
	t.Helper()
	if o, err := commit.Open(l, s, w); !isZero(o) || err != api.ErrArg {
		t.Errorf("Open of %d elements for %v, %v: %v, %v", len(l), s, w, o, err)
	}
}

// wrongShapes returns shapes that are not valid for tables with 16 elements.
func wrongShapes() []api.Shape {
	return []api.Shape{
		{}, {Rows: 4, Cols: 4, Blowup: 4}, {Rows: 4, Cols: 4, Tests: 3}, {Rows: 4, Blowup: 4, Tests: 3},
		{Cols: 4, Blowup: 4, Tests: 3}, {Rows: 4, Cols: 4, Blowup: 4, Tests: -1}, {Rows: 4, Cols: 4, Blowup: 4, Tests: 17},
		{Rows: 4, Cols: 4, Blowup: 16, Tests: 65}, {Rows: 1, Cols: 16, Blowup: 8, Tests: 65},
		{Rows: 4, Cols: 4, Blowup: 1, Tests: 3}, {Rows: 4, Cols: 4, Blowup: 3, Tests: 3}, {Rows: 4, Cols: 4, Blowup: 32, Tests: 3},
		{Rows: 4, Cols: 4, Blowup: -4, Tests: 3}, {Rows: 4, Cols: 2, Blowup: 4, Tests: 3}, {Rows: 4, Cols: 8, Blowup: 4, Tests: 3},
		{Rows: 2, Cols: 4, Blowup: 4, Tests: 3}, {Rows: -4, Cols: -4, Blowup: 4, Tests: 3}, {Rows: 3, Cols: 5, Blowup: 4, Tests: 3},
		{Rows: 16, Cols: 1, Blowup: 2, Tests: 3}, {Rows: 1 << 62, Cols: 1 << 6, Blowup: 2, Tests: 1},
	}
}

// K2, K3: tables and shapes that do not fit are refused.
func TestTableErrors(t *testing.T) {
	w := openingOf(api.Shape{Rows: 4, Cols: 4, Blowup: 4, Tests: 3}, 1).w
	for _, s := range wrongShapes() {
		refuse(t, random(16, 1), s, w)
	}
	for _, s := range []api.Shape{{Rows: 4, Cols: 4, Blowup: 4, Tests: 3}, {Rows: 1, Cols: 16, Blowup: 2, Tests: 3}, {Rows: 16, Cols: 1, Blowup: 16, Tests: 3}} {
		for _, n := range []int{0, 1, 2, 3, 4, 5, 7, 8, 9, 12, 15, 17, 18, 20, 24, 31, 32, 64, longest} {
			refuse(t, random(n, 1), s, w)
		}
		for i := range 16 {
			for _, wrong := range []uint64{p, p + 1, math.MaxUint64} {
				l := random(16, 1)
				l[i] = wrong
				refuse(t, l, s, w)
			}
		}
	}
	// These rows and columns make up as many elements as the table has, which are no power of two or too many.
	refuse(t, random(12, 1), api.Shape{Rows: 3, Cols: 4, Blowup: 4, Tests: 3}, w)
	refuse(t, random(12, 1), api.Shape{Rows: 4, Cols: 3, Blowup: 4, Tests: 3}, w)
	refuse(t, random(36, 1), api.Shape{Rows: 6, Cols: 6, Blowup: 4, Tests: 3}, w)
	refuse(t, nil, api.Shape{Rows: 0, Cols: 0, Blowup: 4, Tests: 1}, w)
	refuse(t, nil, api.Shape{Rows: 0, Cols: 4, Blowup: 4, Tests: 3}, w)
	refuse(t, random(2*longest, 1), api.Shape{Rows: 512, Cols: 256, Blowup: 4, Tests: 3}, w)
	refuse(t, random(longest, 1), api.Shape{Rows: 1, Cols: longest, Blowup: 2, Tests: 3}, w)
	refuse(t, random(longest, 1), api.Shape{Rows: 2, Cols: longest / 2, Blowup: 4, Tests: 3}, w)
	refuse(t, random(longest, 1), api.Shape{Rows: 8, Cols: longest / 8, Blowup: 16, Tests: 3}, w)
}

// wrongAts returns changes of a valid api.OpenAt for 16 codeword symbols, 4 coordinates and 3 tests that make it invalid.
func wrongAts() map[string]func(w *api.OpenAt) {
	m := map[string]func(w *api.OpenAt){
		"no point":          func(w *api.OpenAt) { w.P = nil },
		"short point":       func(w *api.OpenAt) { w.P = w.P[:3] },
		"long point":        func(w *api.OpenAt) { w.P = append(w.P, api.Ext{}) },
		"very long point":   func(w *api.OpenAt) { w.P = make([]api.Ext, 64) },
		"A of Rho":          func(w *api.OpenAt) { w.Rho.A = p },
		"B of Rho":          func(w *api.OpenAt) { w.Rho.B = math.MaxUint64 },
		"no index":          func(w *api.OpenAt) { w.Index = nil },
		"two indices":       func(w *api.OpenAt) { w.Index = []int{2, 5} },
		"four indices":      func(w *api.OpenAt) { w.Index = []int{2, 5, 6, 7} },
		"equal first":       func(w *api.OpenAt) { w.Index = []int{2, 2, 5} },
		"equal last":        func(w *api.OpenAt) { w.Index = []int{2, 5, 5} },
		"equal numbers":     func(w *api.OpenAt) { w.Index = []int{5, 5, 5} },
		"decreasing":        func(w *api.OpenAt) { w.Index = []int{5, 2, 7} },
		"decreasing last":   func(w *api.OpenAt) { w.Index = []int{2, 7, 5} },
		"negative":          func(w *api.OpenAt) { w.Index = []int{-1, 2, 5} },
		"least":             func(w *api.OpenAt) { w.Index = []int{math.MinInt, 2, 5} },
		"no column":         func(w *api.OpenAt) { w.Index = []int{2, 5, 16} },
		"largest":           func(w *api.OpenAt) { w.Index = []int{2, 5, math.MaxInt} },
		"large in between":  func(w *api.OpenAt) { w.Index = []int{2, 16, 5} },
		"negative and none": func(w *api.OpenAt) { w.Index = []int{-2, -1, 0} },
	}
	for k, name := range []string{"coordinate 0", "coordinate 1", "coordinate 2", "coordinate 3"} {
		m["A of "+name] = func(w *api.OpenAt) { w.P[k].A = p }
		m["B of "+name] = func(w *api.OpenAt) { w.P[k].B = p + 1 }
	}
	return m
}

// changedAt returns a change of a copy of w.
func changedAt(w api.OpenAt, change func(w *api.OpenAt)) api.OpenAt {
	w.P, w.Index = slices.Clone(w.P), slices.Clone(w.Index)
	change(&w)
	return w
}

// K3, K4: points, challenges and indices that are not valid are refused.
func TestAtErrors(t *testing.T) {
	x := openingOf(api.Shape{Rows: 4, Cols: 4, Blowup: 4, Tests: 3}, 1)
	root, c := x.claim(t)
	for name, change := range wrongAts() {
		w := changedAt(x.w, change)
		refuseOpen(t, x.t, x.s, w)
		c.At = w
		check(t, root, x.s, c, api.ErrArg, name)
	}
	for _, index := range [][]int{{0, 1, 2}, {0, 7, 15}, {13, 14, 15}} {
		x.w.Index = index
		root, c := x.claim(t)
		check(t, root, x.s, c, api.OK, "indices at the ends")
	}
}

// changed returns a change of a copy of c.
func changed(c api.Opened, change func(c *api.Opened)) api.Opened {
	c.At = changedAt(c.At, func(*api.OpenAt) {})
	c.O.Row, c.O.Random = slices.Clone(c.O.Row), slices.Clone(c.O.Random)
	c.O.Path.Nodes = slices.Clone(c.O.Path.Nodes)
	c.O.Columns = slices.Clone(c.O.Columns)
	for k, column := range c.O.Columns {
		c.O.Columns[k] = slices.Clone(column)
	}
	change(&c)
	return c
}

// wrongSizes returns changes of a valid opening after which Verify returns ErrArg because something is missing, is too
// much, or is no element.
func wrongSizes() map[string]func(c *api.Opened) {
	return map[string]func(c *api.Opened){
		"no Row":         func(c *api.Opened) { c.O.Row = nil },
		"short Row":      func(c *api.Opened) { c.O.Row = c.O.Row[1:] },
		"long Row":       func(c *api.Opened) { c.O.Row = append(c.O.Row, api.Ext{}) },
		"double Row":     func(c *api.Opened) { c.O.Row = slices.Concat(c.O.Row, c.O.Row) },
		"A in Row":       func(c *api.Opened) { c.O.Row[0].A = p },
		"B in Row":       func(c *api.Opened) { c.O.Row[len(c.O.Row)-1].B = math.MaxUint64 },
		"no Random":      func(c *api.Opened) { c.O.Random = nil },
		"short Random":   func(c *api.Opened) { c.O.Random = c.O.Random[1:] },
		"long Random":    func(c *api.Opened) { c.O.Random = append(c.O.Random, api.Ext{}) },
		"double Random":  func(c *api.Opened) { c.O.Random = slices.Concat(c.O.Random, c.O.Random) },
		"A in Random":    func(c *api.Opened) { c.O.Random[len(c.O.Random)-1].A = math.MaxUint64 },
		"B in Random":    func(c *api.Opened) { c.O.Random[0].B = p },
		"no columns":     func(c *api.Opened) { c.O.Columns = nil },
		"one column":     func(c *api.Opened) { c.O.Columns = c.O.Columns[:len(c.O.Columns)-1] },
		"a column more":  func(c *api.Opened) { c.O.Columns = append(c.O.Columns, c.O.Columns[0]) },
		"nil column":     func(c *api.Opened) { c.O.Columns[0] = nil },
		"short column":   func(c *api.Opened) { c.O.Columns[0] = c.O.Columns[0][1:] },
		"long column":    func(c *api.Opened) { c.O.Columns[len(c.O.Columns)-1] = append(c.O.Columns[len(c.O.Columns)-1], 0) },
		"p in a column":  func(c *api.Opened) { c.O.Columns[0][0] = p },
		"no element":     func(c *api.Opened) { c.O.Columns[len(c.O.Columns)-1][len(c.O.Columns[0])-1] = math.MaxUint64 },
		"A of V":         func(c *api.Opened) { c.V.A = p },
		"B of V":         func(c *api.Opened) { c.V.B = math.MaxUint64 },
		"smaller Log":    func(c *api.Opened) { c.Log-- },
		"greater Log":    func(c *api.Opened) { c.Log++ },
		"Log 17":         func(c *api.Opened) { c.Log = 17 },
		"negative Log":   func(c *api.Opened) { c.Log = -1 },
		"very large Log": func(c *api.Opened) { c.Log = math.MaxInt },
		"no Rho":         func(c *api.Opened) { c.At.Rho.A = p },
	}
}

// K4, 1: openings with the wrong sizes and with words that are no elements are refused.
func TestOpenedErrors(t *testing.T) {
	for seed, s := range []api.Shape{
		{Rows: 4, Cols: 4, Blowup: 4, Tests: 3}, {Rows: 1, Cols: 1, Blowup: 2, Tests: 1}, {Rows: 1, Cols: 8, Blowup: 2, Tests: 16},
		{Rows: 16, Cols: 1, Blowup: 16, Tests: 16}, {Rows: 2, Cols: 2, Blowup: 8, Tests: 1},
	} {
		root, c := openingOf(s, uint64(seed)).claim(t)
		check(t, root, s, c, api.OK, "unchanged")
		for name, change := range wrongSizes() {
			check(t, root, s, changed(c, change), api.ErrArg, name)
		}
	}
}

// K4, 1: shapes that are not valid for the table are refused.
func TestShapeErrors(t *testing.T) {
	x := openingOf(api.Shape{Rows: 4, Cols: 4, Blowup: 4, Tests: 3}, 1)
	root, c := x.claim(t)
	for _, s := range wrongShapes() {
		check(t, root, s, c, api.ErrArg, "wrong shape")
	}
	// The opening has other sizes than these shapes.
	for _, s := range []api.Shape{
		{Rows: 2, Cols: 8, Blowup: 4, Tests: 3}, {Rows: 8, Cols: 2, Blowup: 4, Tests: 3}, {Rows: 4, Cols: 4, Blowup: 4, Tests: 2},
		{Rows: 4, Cols: 4, Blowup: 4, Tests: 4}, {Rows: 16, Cols: 1, Blowup: 16, Tests: 3}, {Rows: 1, Cols: 16, Blowup: 2, Tests: 3},
	} {
		check(t, root, s, c, api.ErrArg, "other shape")
	}
	// With another blowup the tree has other leaves.
	for _, blowup := range []int{8, 16} {
		check(t, root, api.Shape{Rows: 4, Cols: 4, Blowup: blowup, Tests: 3}, c, api.ErrPath, "other blowup")
	}
}

// K4: of several errors, the first one in the list is returned.
func TestErrorOrder(t *testing.T) {
	arg := func(c *api.Opened) { c.At.Rho.B = p }
	path := func(c *api.Opened) { c.O.Path.Nodes = c.O.Path.Nodes[1:] }
	columns := func(c *api.Opened) { c.O.Random[1] = ext.Add(c.O.Random[1], ext.FromInt(1)) }
	wrongValue := func(c *api.Opened) { c.V = ext.Add(c.V, ext.FromInt(1)) }
	steps := []func(c *api.Opened){arg, path, columns, wrongValue}
	errors := []api.Errno{api.ErrArg, api.ErrPath, api.ErrColumn, api.ErrValue, api.OK}
	x := openingOf(api.Shape{Rows: 4, Cols: 4, Blowup: 4, Tests: 3}, 1)
	root, c := x.claim(t)
	for set := range 16 {
		first := len(steps)
		broken := changed(c, func(c *api.Opened) {
			for k := len(steps) - 1; k >= 0; k-- {
				if set>>k&1 == 1 {
					steps[k](c)
					first = k
				}
			}
		})
		check(t, root, x.s, broken, errors[first], "several errors")
	}
}

// The example of the chapter.
func TestExample(t *testing.T) {
	s := api.Shape{Rows: 2, Cols: 2, Blowup: 2, Tests: 2}
	l := []uint64{1, 2, 3, 4}
	w := api.OpenAt{P: integers(2, 3), Rho: ext.FromInt(10), Index: []int{0, 2}}
	o, err := commit.Open(l, s, w)
	if err != api.OK || !slices.Equal(o.Row, integers(7, 8)) || !slices.Equal(o.Random, integers(31, 42)) {
		t.Fatalf("Open = %v, %v", o, err)
	}
	// The rows 1 + 2 X and 3 + 4 X have the values 3 and 7 at 1, and -1 and -1 at -1.
	if want := [][]uint64{{3, 7}, {p - 1, p - 1}}; !slices.EqualFunc(o.Columns, want, slices.Equal[[]uint64]) {
		t.Errorf("Columns = %v, want %v", o.Columns, want)
	}
	root, _ := commit.Root(l, s)
	check(t, root, s, api.Opened{At: w, Log: 2, V: ext.FromInt(9), O: o}, api.OK, "the value 9")
	check(t, root, s, api.Opened{At: w, Log: 2, V: ext.FromInt(8), O: o}, api.ErrValue, "the value 8")
}
