package reading_test

import (
	"bytes"
	"math"
	"slices"
	"sync"
	"testing"

	"attestor/api"
	"attestor/ext"
	"attestor/mle"
	"attestor/reading"
)

// randomPoint returns a point with n coordinates without a pattern.
func randomPoint(n int, seed uint64) []api.Ext {
	next := generator(seed)
	l := make([]api.Ext, n)
	for i := range l {
		l[i] = api.Ext{A: uint64(next(1<<31))<<32 + uint64(next(1<<31)), B: uint64(next(1<<31))<<32 + 5}
	}
	return l
}

// P12.2: after any readings and retractions, a stream has all the readings in order, and those that were retracted are
// not live. No reading is retracted twice.
func TestHistories(t *testing.T) {
	for seed := range uint64(20) {
		next := generator(seed)
		var s api.Stream
		var want api.Stream
		for range 200 {
			var err api.Errno
			if i := next(len(want.L) + 5); next(3) > 0 {
				r := randomReadings(1, uint64(i))[0]
				s, err = reading.Take(s, r)
				want.L, want.Gone = append(want.L, r), append(want.Gone, false)
			} else if i < len(want.L) && !want.Gone[i] {
				s, err = reading.Retract(s, i)
				want.Gone[i] = true
			} else if i < len(want.L) {
				none, err := reading.Retract(s, i)
				refused(t, "Retract of a retracted reading", none, err, api.ErrSpent)
			} else {
				none, err := reading.Retract(s, i)
				refused(t, "Retract of no reading", none, err, api.ErrNone)
			}
			checkStream(t, "a stream", s, err, want)
		}
	}
}

// P12.2: a retraction removes exactly one reading from Live, and a second one of the same reading fails.
func TestRetractionsAreSingle(t *testing.T) {
	for _, s := range streams() {
		for i := range s.L {
			if s.Gone[i] {
				continue
			}
			before := 0
			for _, gone := range s.Gone[:i] {
				if !gone {
					before++
				}
			}
			after, err := reading.Retract(s, i)
			want := slices.Delete(slices.Clone(reading.Live(s)), before, before+1)
			if got := reading.Live(after); err != api.OK || !slices.Equal(got, want) {
				t.Errorf("without reading %d of %v: %v, %v", i, describe(s), got, err)
			}
			none, err := reading.Retract(after, i)
			refused(t, "a second Retract", none, err, api.ErrSpent)
		}
	}
}

// P12.2: a reading that was taken last is the last one of Live.
func TestTakenReadingsAreLive(t *testing.T) {
	for _, s := range streams() {
		for _, r := range corners() {
			after, err := reading.Take(s, r)
			if got, want := reading.Live(after), append(slices.Clone(reading.Live(s)), r); err != api.OK || !slices.Equal(got, want) {
				t.Errorf("Live after Take of %v: %v, %v, want %v", r, got, err, want)
			}
		}
	}
}

// P12.2: streams that continue the same stream differently do not disturb each other.
func TestStreamsBranch(t *testing.T) {
	for _, s := range streams() {
		var results, wants []api.Stream
		for _, r := range corners() {
			got, err := reading.Take(s, r)
			want := api.Stream{L: append(slices.Clone(s.L), r), Gone: append(slices.Clone(s.Gone), false)}
			checkStream(t, "Take", got, err, want)
			next, err := reading.Retract(got, len(s.L))
			retracted := api.Stream{L: want.L, Gone: append(slices.Clone(s.Gone), true)}
			checkStream(t, "Retract", next, err, retracted)
			results, wants = append(results, got, next), append(wants, want, retracted)
		}
		for i, want := range wants {
			if !same(results[i], want) {
				t.Errorf("branch %d of %v is %v", i, describe(s), describe(results[i]))
			}
		}
	}
}

// P12.3: the rows in which the column Live is 1 are the live readings, in order.
func TestColumnsDetermineReadings(t *testing.T) {
	for _, s := range append(streams(), randomStream(longest, 21)) {
		for _, log := range []int{16, 9, 4, 2, 0} {
			if len(s.L) > 1<<log {
				continue
			}
			cols, err := reading.Columns(s, log)
			if err != api.OK || len(cols) != 5 {
				t.Fatalf("Columns: %d, %v", len(cols), err)
			}
			var l []api.Reading
			for i, live := range cols[4] {
				if live == 1 {
					l = append(l, api.Reading{Who: int(cols[0][i]), When: int(cols[1][i]), Kind: int(cols[2][i]), Value: int(cols[3][i])})
				} else if live != 0 {
					t.Fatalf("element %d of Live is %d", i, live)
				}
			}
			if !slices.Equal(l, reading.Live(s)) {
				t.Errorf("%v, %d: the columns determine %d other readings", describe(s), log, len(l))
			}
		}
	}
}

// P12.3: the bits are 0 or 1, and the weighted sums of those of a column are its elements.
func TestBitsDetermineColumns(t *testing.T) {
	for _, s := range append(streams(), randomStream(longest, 22)) {
		for _, log := range []int{16, 9, 4, 2, 0} {
			if len(s.L) > 1<<log {
				continue
			}
			cols, _ := reading.Columns(s, log)
			rest, err := reading.Bits(s, log)
			if err != api.OK || len(rest) != 24 {
				t.Fatalf("Bits: %d, %v", len(rest), err)
			}
			for c, width := range []int{4, 8, 4, 8} {
				sums := make([]uint64, 1<<log)
				for k, column := range rest[:width] {
					for i, x := range column {
						if x > 1 {
							t.Fatalf("bit %d of element %d of column %d is %d", k, i, c, x)
						}
						sums[i] += x << k
					}
				}
				if rest = rest[width:]; !slices.Equal(sums, cols[c]) {
					t.Errorf("%v, %d: the bits determine another column %d", describe(s), log, c)
				}
			}
		}
	}
}

// P12.3: a retraction changes one element of the column Live, and no other one.
func TestRetractionChangesLive(t *testing.T) {
	for _, s := range streams() {
		for i := range s.L {
			after, err := reading.Retract(s, i)
			if err != api.OK {
				continue
			}
			want, _ := reading.Columns(s, 9)
			want[4][i] = 0
			cols, err := reading.Columns(after, 9)
			checkColumns(t, "Columns", cols, err, want)
			wantBits, _ := reading.Bits(s, 9)
			bits, err := reading.Bits(after, 9)
			checkColumns(t, "Bits", bits, err, wantBits)
		}
	}
}

// checkExtension checks the multilinear extension of the table of columns at a point, whose first w coordinates belong to
// the columns.
func checkExtension(t *testing.T, cols [][]uint64, w int, point []api.Ext) {
	t.Helper()
	table, err := reading.Table(cols)
	if err != api.OK || len(table) != 1<<len(point) {
		t.Fatalf("Table of %d columns of %d elements: %d elements, %v", len(cols), len(cols[0]), len(table), err)
	}
	sum := api.Ext{}
	for c, column := range cols {
		sum = ext.Add(sum, ext.Mul(mle.EqIndex(c, point[:w]), mle.Eval(mle.Lift(column), point[w:])))
	}
	if got := mle.Eval(mle.Lift(table), point); got != sum {
		t.Errorf("%d columns of %d elements: the value at %v is %v, want %v", len(cols), len(cols[0]), point, got, sum)
	}
}

// P12.4: the value of the table is the sum of those of the columns, weighted by the equality polynomials.
func TestExtensionsOfTables(t *testing.T) {
	for count := 1; count <= 64; count++ {
		w := 0
		for 1<<w < count {
			w++
		}
		for log := range 6 {
			cols := randomColumns(count, 1<<log, uint64(count+log))
			checkExtension(t, cols, w, randomPoint(w+log, uint64(count*log)))
			checkExtension(t, cols, w, make([]api.Ext, w+log))
			checkExtension(t, cols, w, slices.Repeat([]api.Ext{{A: 1}}, w+log))
			checkExtension(t, cols, w, slices.Repeat([]api.Ext{{A: p - 1, B: 3}}, w+log))
		}
	}
}

// P12.4: the same for all columns of an epoch.
func TestExtensionsOfEpochs(t *testing.T) {
	for _, log := range []int{0, 3, 9, 13} {
		s := randomStream(1<<log*2/3, uint64(log))
		cols, _ := reading.Columns(s, log)
		bits, err := reading.Bits(s, log)
		if err != api.OK {
			t.Fatalf("Bits: %v", err)
		}
		checkExtension(t, cols, 3, randomPoint(3+log, 23))
		checkExtension(t, append(cols, bits...), 5, randomPoint(5+log, 24))
	}
}

// P12.5: every three bytes are the encoding of one valid reading, and no other reading has them: since there are as many
// valid readings as there are three bytes, it is enough that each of them comes back from a valid reading.
func TestEncodingsAreReadings(t *testing.T) {
	b := make([]byte, 3)
	for n := range 1 << 24 {
		b[0], b[1], b[2] = byte(n), byte(n>>8), byte(n>>16)
		r, err := reading.Decode(b)
		if err != api.OK || !reading.Valid(r) {
			t.Fatalf("Decode(%v) = %v, %v", b, r, err)
		}
		if back := reading.Encode(r); !bytes.Equal(back, b) {
			t.Fatalf("%v are decoded as %v, which is encoded as %v", b, r, back)
		}
	}
}

// P12.5: a reading comes back from its encoding.
func TestReadingsComeBack(t *testing.T) {
	check := func(r api.Reading) {
		t.Helper()
		if back, err := reading.Decode(reading.Encode(r)); back != r || err != api.OK {
			t.Fatalf("%v comes back as %v, %v", r, back, err)
		}
	}
	for who := range 16 {
		for kind := range 16 {
			for when := range 256 {
				check(api.Reading{Who: who, When: when, Kind: kind, Value: 255 - when})
				check(api.Reading{Who: who, When: 7 * when % 256, Kind: kind, Value: when})
			}
		}
	}
}

// outcome is what all functions return for some arguments.
type outcome struct {
	valid   bool
	streams [2]api.Stream
	live    []api.Reading
	lists   [2][][]uint64
	table   []uint64
	code    []byte
	r       api.Reading
	err     [6]api.Errno
}

// outcomeOf calls all functions. Those that take columns take the columns of s.
func outcomeOf(s api.Stream, r api.Reading, i int, log int) outcome {
	x := outcome{valid: reading.Valid(r), live: reading.Live(s), code: reading.Encode(r)}
	x.streams[0], x.err[0] = reading.Take(s, r)
	x.streams[1], x.err[1] = reading.Retract(s, i)
	x.lists[0], x.err[2] = reading.Columns(s, log)
	x.lists[1], x.err[3] = reading.Bits(s, log)
	x.table, x.err[4] = reading.Table(x.lists[0])
	x.r, x.err[5] = reading.Decode(x.code)
	return x
}

// equal reports whether two outcomes are equal.
func (x outcome) equal(y outcome) bool {
	return x.valid == y.valid && x.r == y.r && x.err == y.err && slices.EqualFunc(x.streams[:], y.streams[:], same) &&
		slices.Equal(x.live, y.live) && slices.Equal(x.table, y.table) && bytes.Equal(x.code, y.code) &&
		slices.EqualFunc(x.lists[0], y.lists[0], slices.Equal[[]uint64]) &&
		slices.EqualFunc(x.lists[1], y.lists[1], slices.Equal[[]uint64])
}

// P1: every call returns, and nothing but an error if there is one, also for streams and readings that are not valid.
func TestCallsReturn(t *testing.T) {
	odd := []int{math.MinInt, -65536, -1, 0, 1, 2, 3, 15, 16, 17, 64, 65536, 1 << 32, math.MaxInt}
	l := append(streams(), api.Stream{L: corners()}, api.Stream{Gone: make([]bool, 5)}, api.Stream{L: invalidReadings(), Gone: []bool{true}})
	l = append(l, api.Stream{L: corners()[:2], Gone: []bool{true, true, true, true}}, api.Stream{L: make([]api.Reading, longest+1)})
	for k, s := range l {
		for j, r := range append(invalidReadings(), corners()...) {
			x := outcomeOf(s, r, odd[(j+k)%len(odd)], odd[(2*j+k)%len(odd)])
			if x.err[0] != api.OK && !isZero(x.streams[0]) || x.err[1] != api.OK && !isZero(x.streams[1]) {
				t.Errorf("%v, %v: a stream with an error", describe(s), r)
			}
			if x.err[2] != api.OK && len(x.lists[0]) != 0 || x.err[3] != api.OK && len(x.lists[1]) != 0 || x.err[4] != api.OK && len(x.table) != 0 {
				t.Errorf("%v, %v: columns with an error", describe(s), r)
			}
		}
	}
}

// P2: equal arguments have equal results, whatever was called before and is called at the same time.
func TestResultsRepeat(t *testing.T) {
	l := streams()
	call := func(k int) outcome { return outcomeOf(l[k], corners()[k%16], k%3, 9-k%6) }
	var first []outcome
	for k := range l {
		first = append(first, call(k))
	}
	var wait sync.WaitGroup
	for range 4 {
		wait.Go(func() {
			for k, want := range slices.Backward(first) {
				if !call(k).equal(want) {
					t.Errorf("%v has other results", describe(l[k]))
				}
			}
		})
	}
	wait.Wait()
}

// The document's rules: nil and empty slices are interchangeable.
func TestEmptySlices(t *testing.T) {
	none, empty := api.Stream{}, api.Stream{L: []api.Reading{}, Gone: []bool{}}
	if !outcomeOf(none, corners()[15], 0, 3).equal(outcomeOf(empty, corners()[15], 0, 3)) {
		t.Error("the empty stream without slices has other results")
	}
}

// spare returns a copy of l with capacity behind it, and the memory that it lies in.
func spare[T any](l []T, behind T) ([]T, []T) {
	memory := append(slices.Clone(l), slices.Repeat([]T{behind}, 5)...)
	return memory[:len(l)], memory
}

// wipe sets l and the capacity behind it to x.
func wipe[T any](l []T, x T) {
	for i := range l[:cap(l)] {
		l[:cap(l)][i] = x
	}
}

// wipeAll wipes all results.
func (x outcome) wipeAll() {
	for _, s := range x.streams {
		wipe(s.L, api.Reading{Who: 77})
		wipe(s.Gone, true)
	}
	wipe(x.live, api.Reading{Who: 78})
	for _, column := range slices.Concat(x.lists[0], x.lists[1], [][]uint64{x.table}) {
		wipe(column, 79)
	}
	wipe(x.code, 80)
}

// P2: arguments and the memory behind them stay as they are, and a change of a result changes neither an argument nor
// another result.
func TestArgumentsStay(t *testing.T) {
	for k, s := range streams() {
		var copied api.Stream
		var readings []api.Reading
		var flags []bool
		copied.L, readings = spare(s.L, api.Reading{Who: 81})
		copied.Gone, flags = spare(s.Gone, k%2 == 0)
		wantReadings, wantFlags := slices.Clone(readings), slices.Clone(flags)
		r, i := corners()[k%16], k%3
		first, second := outcomeOf(copied, r, i, 9), outcomeOf(copied, r, i, 9)
		first.wipeAll()
		if !slices.Equal(readings, wantReadings) || !slices.Equal(flags, wantFlags) {
			t.Errorf("%v was modified, or shares memory with a result", describe(s))
		}
		if !second.equal(outcomeOf(s, r, i, 9)) {
			t.Errorf("%v: results share memory, or depend on what lies behind the arguments", describe(s))
		}
	}
}

// P2: Table and Decode do not modify their arguments, and do not share memory with them.
func TestColumnsAndBytesStay(t *testing.T) {
	for _, count := range []int{1, 2, 3, 64} {
		want := randomColumns(count, 8, 25)
		var cols, memory, behind [][]uint64
		for _, column := range want {
			l, m := spare(column, 82)
			cols, memory, behind = append(cols, l), append(memory, m), append(behind, slices.Clone(m))
		}
		table, _ := reading.Table(cols)
		wipe(table, 83)
		if !slices.EqualFunc(memory, behind, slices.Equal[[]uint64]) || len(cols) != count {
			t.Errorf("%d columns were modified", count)
		}
	}
	b := []byte{1, 2, 3}
	if reading.Decode(b); !bytes.Equal(b, []byte{1, 2, 3}) {
		t.Errorf("the bytes are %v", b)
	}
}

// P2: no two columns of one result share memory.
func TestResultsAreSeparate(t *testing.T) {
	s := randomStream(7, 26)
	cols, _ := reading.Columns(s, 3)
	bits, _ := reading.Bits(s, 3)
	for _, l := range [][][]uint64{cols, bits} {
		for c := range l {
			want := make([][]uint64, len(l))
			for k := range l {
				want[k] = slices.Clone(l[k])
			}
			wipe(l[c], 84)
			wipe(want[c], 84)
			if !slices.EqualFunc(l, want, slices.Equal[[]uint64]) {
				t.Errorf("column %d shares memory with another one", c)
			}
		}
	}
}
