package reading_test

import (
	"bytes"
	"math"
	"math/bits"
	"slices"
	"testing"

	"attestor/api"
	"attestor/field"
	"attestor/reading"
)

const (
	p       = uint64(api.Prime)
	longest = 65536 // readings, and elements of a column
)

// generator returns a function that returns numbers without a pattern, always the same for the same seed.
func generator(seed uint64) func(limit int) int {
	x := seed
	return func(limit int) int {
		x = x*6364136223846793005 + 1442695040888963407
		return int((x >> 33) % uint64(limit))
	}
}

// randomReadings returns n valid readings without a pattern.
func randomReadings(n int, seed uint64) []api.Reading {
	next := generator(seed)
	l := make([]api.Reading, n)
	for i := range l {
		l[i] = api.Reading{Who: next(16), When: next(256), Kind: next(16), Value: next(256)}
	}
	return l
}

// randomStream returns a stream of n readings without a pattern, some of them retracted.
func randomStream(n int, seed uint64) api.Stream {
	next := generator(seed + 1000)
	s := api.Stream{L: randomReadings(n, seed), Gone: make([]bool, n)}
	for i := range s.Gone {
		s.Gone[i] = next(3) == 0
	}
	return s
}

// constant returns a stream of n equal readings, all of them retracted or none.
func constant(r api.Reading, gone bool, n int) api.Stream {
	return api.Stream{L: slices.Repeat([]api.Reading{r}, n), Gone: slices.Repeat([]bool{gone}, n)}
}

// corners returns the readings whose fields are 0 or as large as they may be.
func corners() []api.Reading {
	var l []api.Reading
	for i := range 16 {
		l = append(l, api.Reading{Who: i & 1 * 15, When: i >> 1 & 1 * 255, Kind: i >> 2 & 1 * 15, Value: i >> 3 & 1 * 255})
	}
	return l
}

// streams returns valid streams with up to a few hundred readings.
func streams() []api.Stream {
	l := []api.Stream{{}, {L: []api.Reading{}, Gone: []bool{}}, {L: corners(), Gone: make([]bool, 16)}}
	for _, n := range []int{1, 2, 3, 4, 7, 8, 9, 300} {
		l = append(l, randomStream(n, uint64(n)), constant(corners()[15], false, n), constant(corners()[15], true, n))
		l = append(l, constant(api.Reading{}, false, n), constant(api.Reading{Who: 1, When: 2, Kind: 3, Value: 4}, n%2 == 0, n))
	}
	return l
}

// invalidReadings returns readings of which one field, or all of them, is too small or too large.
func invalidReadings() []api.Reading {
	var l []api.Reading
	for _, x := range []int{math.MinInt, math.MinInt + 1, -1 << 32, -256, -255, -16, -1, 256, 257, 511, 512, 1 << 32, 1<<32 + 5, math.MaxInt} {
		l = append(l, api.Reading{Who: x}, api.Reading{When: x}, api.Reading{Kind: x}, api.Reading{Value: x})
		l = append(l, api.Reading{Who: x, When: x, Kind: x, Value: x}, api.Reading{Who: 15, When: 255, Kind: 15, Value: x})
	}
	for _, x := range []int{16, 17, 31, 32, 255} {
		l = append(l, api.Reading{Who: x}, api.Reading{Kind: x}, api.Reading{Who: 3, When: x, Kind: x, Value: x})
	}
	return l
}

// same reports whether two streams are equal.
func same(a api.Stream, b api.Stream) bool {
	return slices.Equal(a.L, b.L) && slices.Equal(a.Gone, b.Gone)
}

// isZero reports whether s is the zero stream.
func isZero(s api.Stream) bool { return len(s.L) == 0 && len(s.Gone) == 0 }

// describe returns a short description of a stream.
func describe(s api.Stream) any {
	if len(s.L) > 20 {
		return len(s.L)
	}
	return s
}

func checkStream(t *testing.T, call string, got api.Stream, err api.Errno, want api.Stream) {
	t.Helper()
	if err != api.OK || !same(got, want) {
		t.Fatalf("%s = %v, %v, want %v", call, describe(got), err, describe(want))
	}
}

func refused(t *testing.T, call string, got api.Stream, err api.Errno, want api.Errno) {
	t.Helper()
	if err != want || !isZero(got) {
		t.Fatalf("%s = %v, %v, want the zero stream and %v", call, describe(got), err, want)
	}
}

func checkColumns(t *testing.T, call string, got [][]uint64, err api.Errno, want [][]uint64) {
	t.Helper()
	if err != api.OK || len(got) != len(want) {
		t.Fatalf("%s: %d columns, %v, want %d", call, len(got), err, len(want))
	}
	for c := range want {
		if !slices.Equal(got[c], want[c]) {
			t.Fatalf("%s: column %d is wrong", call, c)
		}
	}
}

// L1: readings are valid if each field is in its range, at whose ends it changes.
func TestValid(t *testing.T) {
	around := []int{-257, -256, -16, -2, -1, 0, 1, 2, 7, 14, 15, 16, 17, 128, 254, 255, 256, 257}
	for _, who := range around {
		for _, when := range around {
			for _, kind := range around {
				for _, value := range around {
					r := api.Reading{Who: who, When: when, Kind: kind, Value: value}
					want := 0 <= who && who <= 15 && 0 <= when && when <= 255 && 0 <= kind && kind <= 15 && 0 <= value && value <= 255
					if got := reading.Valid(r); got != want {
						t.Fatalf("Valid(%v) = %v", r, got)
					}
				}
			}
		}
	}
	for _, r := range invalidReadings() {
		if reading.Valid(r) {
			t.Errorf("Valid(%v) = true", r)
		}
	}
	for _, r := range append(corners(), randomReadings(100, 1)...) {
		if !reading.Valid(r) {
			t.Errorf("Valid(%v) = false", r)
		}
	}
}

// L1: Take appends the reading, which is live.
func TestTake(t *testing.T) {
	for _, s := range streams() {
		for _, r := range append(corners(), randomReadings(3, 2)...) {
			want := api.Stream{L: append(slices.Clone(s.L), r), Gone: append(slices.Clone(s.Gone), false)}
			got, err := reading.Take(s, r)
			checkStream(t, "Take", got, err, want)
		}
	}
}

// L1: Take refuses readings that are not valid, and this first.
func TestTakeOfInvalidReadings(t *testing.T) {
	for _, s := range append(streams(), randomStream(longest, 3)) {
		for _, r := range invalidReadings() {
			got, err := reading.Take(s, r)
			refused(t, "Take of an invalid reading", got, err, api.ErrArg)
		}
	}
}

// L1: a stream takes 65536 readings but not one more, whether or not they are live.
func TestTakeOfTooManyReadings(t *testing.T) {
	r := api.Reading{Who: 9, When: 8, Kind: 7, Value: 6}
	for _, gone := range []bool{false, true} {
		full, err := reading.Take(constant(corners()[5], gone, longest-1), r)
		want := constant(corners()[5], gone, longest)
		want.L[longest-1], want.Gone[longest-1] = r, false
		checkStream(t, "the last Take", full, err, want)
		got, err := reading.Take(full, r)
		refused(t, "Take after the last one", got, err, api.ErrBig)
	}
}

// L1: Retract retracts one reading.
func TestRetract(t *testing.T) {
	for _, s := range append(streams(), constant(corners()[3], false, longest)) {
		for i := 0; i < len(s.L); i += 1 + len(s.L)/50 {
			got, err := reading.Retract(s, i)
			if s.Gone[i] {
				refused(t, "Retract of a retracted reading", got, err, api.ErrSpent)
				continue
			}
			want := api.Stream{L: s.L, Gone: slices.Clone(s.Gone)}
			want.Gone[i] = true
			checkStream(t, "Retract", got, err, want)
		}
	}
}

// L1: there are no readings before the first one and behind the last one.
func TestRetractOfNoReading(t *testing.T) {
	for _, s := range append(streams(), randomStream(longest, 4)) {
		n := len(s.L)
		for _, i := range []int{math.MinInt, -longest, -n - 1, -2, -1, n, n + 1, 2*n + 1, longest, 1 << 32, math.MaxInt} {
			got, err := reading.Retract(s, i)
			refused(t, "Retract of no reading", got, err, api.ErrNone)
		}
	}
}

// L1: Live returns the readings that are not retracted, in order.
func TestLive(t *testing.T) {
	for _, s := range append(streams(), randomStream(longest, 5)) {
		var want []api.Reading
		for i, r := range s.L {
			if !s.Gone[i] {
				want = append(want, r)
			}
		}
		if got := reading.Live(s); !slices.Equal(got, want) {
			t.Errorf("Live(%v) has %d readings, want %d", describe(s), len(got), len(want))
		}
	}
}

// columnsOf returns the columns of a stream by their definition.
func columnsOf(s api.Stream, log int) [][]uint64 {
	cols := make([][]uint64, 5)
	for c := range cols {
		cols[c] = make([]uint64, 1<<log)
	}
	for i, r := range s.L {
		cols[api.Who][i], cols[api.When][i] = uint64(r.Who), uint64(r.When)
		cols[api.Kind][i], cols[api.Value][i] = uint64(r.Kind), uint64(r.Value)
		if !s.Gone[i] {
			cols[api.Live][i] = 1
		}
	}
	return cols
}

// bitsOf returns the helper columns of a stream by their definition.
func bitsOf(s api.Stream, log int) [][]uint64 {
	bits := make([][]uint64, 24)
	for c := range bits {
		bits[c] = make([]uint64, 1<<log)
	}
	for i, r := range s.L {
		for k := range 4 {
			bits[k][i] = uint64(r.Who / (1 << k) % 2)
			bits[12+k][i] = uint64(r.Kind / (1 << k) % 2)
		}
		for k := range 8 {
			bits[4+k][i] = uint64(r.When / (1 << k) % 2)
			bits[16+k][i] = uint64(r.Value / (1 << k) % 2)
		}
	}
	return bits
}

// L2: the columns and the bits of streams of all lengths that fit.
func TestColumnsAndBits(t *testing.T) {
	for log := range 17 {
		l := []api.Stream{randomStream(1<<log, 6), randomStream(1<<log/3, 7), randomStream(1<<log-1, 8)}
		for _, s := range append(l, streams()...) {
			if len(s.L) > 1<<log || log > 12 && len(s.L) < 300 {
				continue
			}
			cols, err := reading.Columns(s, log)
			checkColumns(t, "Columns", cols, err, columnsOf(s, log))
			bits, err := reading.Bits(s, log)
			checkColumns(t, "Bits", bits, err, bitsOf(s, log))
		}
	}
}

// L2: each value of each field, in a column of its own and in its bits.
func TestValuesOfFields(t *testing.T) {
	s := api.Stream{}
	for x := range 256 {
		s.L = append(s.L, api.Reading{Who: x % 16, When: x, Kind: x / 16, Value: 255 - x})
		s.Gone = append(s.Gone, x%5 == 0)
	}
	cols, err := reading.Columns(s, 8)
	checkColumns(t, "Columns", cols, err, columnsOf(s, 8))
	bits, err := reading.Bits(s, 8)
	checkColumns(t, "Bits", bits, err, bitsOf(s, 8))
}

// refusedColumns checks that neither Columns nor Bits accepts s and log.
func refusedColumns(t *testing.T, s api.Stream, log int, want api.Errno) {
	t.Helper()
	if cols, err := reading.Columns(s, log); len(cols) != 0 || err != want {
		t.Errorf("Columns(%v, %d): %d columns, %v, want %v", describe(s), log, len(cols), err, want)
	}
	if bits, err := reading.Bits(s, log); len(bits) != 0 || err != want {
		t.Errorf("Bits(%v, %d): %d columns, %v, want %v", describe(s), log, len(bits), err, want)
	}
}

// L2: the logarithm is 0 to 16, and this is checked first; a stream may have as many readings as there are rows.
func TestColumnsErrors(t *testing.T) {
	for _, s := range append(streams(), randomStream(longest, 9)) {
		for _, log := range []int{math.MinInt, -64, -2, -1, 17, 18, 62, 63, 64, 1 << 32, math.MaxInt} {
			refusedColumns(t, s, log, api.ErrArg)
		}
	}
	for log := range 16 {
		for _, n := range []int{1<<log + 1, 2 << log, longest} {
			refusedColumns(t, constant(api.Reading{}, true, n), log, api.ErrBig)
			refusedColumns(t, randomStream(n, 10), log, api.ErrBig)
		}
	}
}

// randomColumns returns count columns of n elements without a pattern.
func randomColumns(count int, n int, seed uint64) [][]uint64 {
	next := generator(seed)
	cols := make([][]uint64, count)
	for c := range cols {
		for range n {
			cols[c] = append(cols[c], field.Mul(uint64(next(1<<31))<<32, uint64(next(1<<31))))
		}
	}
	return cols
}

// tableOf returns the table of columns by its definition, element by element.
func tableOf(cols [][]uint64) []uint64 {
	w := 1 << bits.Len(uint(len(cols)-1))
	var t []uint64
	for i := range cols[0] {
		for c := range w {
			if c < len(cols) {
				t = append(t, cols[c][i])
			} else {
				t = append(t, 0)
			}
		}
	}
	return t
}

// checkTable checks the table of columns.
func checkTable(t *testing.T, cols [][]uint64) {
	t.Helper()
	if got, err := reading.Table(cols); err != api.OK || !slices.Equal(got, tableOf(cols)) {
		t.Errorf("Table of %d columns of %d elements has %d elements, %v, or wrong ones", len(cols), len(cols[0]), len(got), err)
	}
}

// L3: tables of 1 to 64 columns, of all lengths.
func TestTable(t *testing.T) {
	for count := 1; count <= 64; count++ {
		for _, n := range []int{1, 2, 4, 32} {
			checkTable(t, randomColumns(count, n, uint64(count+n)))
		}
	}
	for log := range 17 {
		for _, count := range []int{1, 2, 3, 5} {
			checkTable(t, randomColumns(count, 1<<log, uint64(log)))
		}
	}
	checkTable(t, slices.Repeat(randomColumns(1, longest, 11), 64))
	for _, x := range []uint64{0, 1, 1 << 63, p - 2, p - 1} {
		checkTable(t, [][]uint64{{1, x}, {x, x}, {x, 2}})
	}
}

// refusedTable checks that the columns are not joined.
func refusedTable(t *testing.T, what string, cols [][]uint64) {
	t.Helper()
	if got, err := reading.Table(cols); err != api.ErrArg || len(got) != 0 {
		t.Errorf("Table of %s has %d elements, %v, want none and ErrArg", what, len(got), err)
	}
}

// L3: there is at least one column and at most 64, and the length of the columns is one of tables.
func TestTableSizes(t *testing.T) {
	refusedTable(t, "no columns", nil)
	refusedTable(t, "no columns", [][]uint64{})
	for _, count := range []int{65, 66, 127, 128, 256} {
		for _, n := range []int{1, 2, 64} {
			refusedTable(t, "too many columns", randomColumns(count, n, 1))
		}
	}
	for _, count := range []int{1, 2, 5, 64} {
		for _, n := range []int{0, 3, 5, 6, 7, 9, 12, 15, 17, 24, 96, 1000, 65535, 65537, 65536 + 32768, 131072, 1 << 18} {
			refusedTable(t, "columns of a wrong length", slices.Repeat([][]uint64{make([]uint64, n)}, count))
		}
		refusedTable(t, "nil columns", make([][]uint64, count))
	}
}

// L3: the columns have the same length.
func TestTableOfUnequalColumns(t *testing.T) {
	for _, count := range []int{2, 3, 5, 64} {
		for _, n := range []int{1, 2, 4, 16} {
			for _, other := range []int{0, 1, 2, 3, 4, 8, 15, 16, 17, 32} {
				if other == n {
					continue
				}
				for _, c := range []int{0, 1, count / 2, count - 1} {
					cols := randomColumns(count, n, 2)
					cols[c] = make([]uint64, other)
					refusedTable(t, "columns of two lengths", cols)
				}
			}
		}
	}
}

// L3: each element of each column is valid.
func TestTableOfInvalidElements(t *testing.T) {
	for _, count := range []int{1, 2, 3, 5, 64} {
		for _, n := range []int{1, 2, 8} {
			for c := range count {
				for i := range n {
					for _, x := range []uint64{p, p + 1, 1<<64 - 1} {
						cols := randomColumns(count, n, 3)
						cols[c][i] = x
						refusedTable(t, "columns with an invalid element", cols)
					}
				}
			}
		}
	}
	cols := randomColumns(2, longest, 4)
	cols[1][longest-1] = p
	refusedTable(t, "long columns with an invalid element", cols)
}

// L4: the bytes of a reading.
func TestEncode(t *testing.T) {
	for _, r := range append(corners(), randomReadings(1000, 12)...) {
		want := []byte{byte(r.Who + 16*r.Kind), byte(r.When), byte(r.Value)}
		if got := reading.Encode(r); !bytes.Equal(got, want) {
			t.Errorf("Encode(%v) = %v, want %v", r, got, want)
		}
	}
}

// L4: a reading has three bytes, neither fewer nor more.
func TestDecode(t *testing.T) {
	long := bytes.Repeat([]byte{1, 2, 3}, 100)
	for n := range 300 {
		r, err := reading.Decode(long[:n])
		if n == 3 {
			if want := (api.Reading{Who: 1, When: 2, Kind: 0, Value: 3}); r != want || err != api.OK {
				t.Errorf("Decode of 1 2 3 is %v, %v", r, err)
			}
			continue
		}
		if r != (api.Reading{}) || err != api.ErrForm {
			t.Errorf("Decode of %d bytes is %v, %v, want the zero reading and ErrForm", n, r, err)
		}
	}
	if r, err := reading.Decode(nil); r != (api.Reading{}) || err != api.ErrForm {
		t.Errorf("Decode of nil is %v, %v", r, err)
	}
}

// The examples of the chapter.
func TestExamples(t *testing.T) {
	r := api.Reading{Who: 1, When: 2, Kind: 3, Value: 4}
	if got := reading.Encode(r); !bytes.Equal(got, []byte{0x31, 0x02, 0x04}) {
		t.Errorf("Encode = %x", got)
	}
	if got, err := reading.Decode([]byte{0x31, 0x02, 0x04}); got != r || err != api.OK {
		t.Errorf("Decode = %v, %v", got, err)
	}
	second := api.Reading{Who: 5, When: 6, Kind: 7, Value: 8}
	s, _ := reading.Take(api.Stream{}, r)
	s, _ = reading.Take(s, second)
	s, err := reading.Retract(s, 0)
	if got := reading.Live(s); err != api.OK || !slices.Equal(got, []api.Reading{second}) {
		t.Errorf("Live = %v, %v", got, err)
	}
	if got, err := reading.Table([][]uint64{{1, 2}, {3, 4}, {5, 6}}); err != api.OK || !slices.Equal(got, []uint64{1, 3, 5, 0, 2, 4, 6, 0}) {
		t.Errorf("Table = %v, %v", got, err)
	}
}
