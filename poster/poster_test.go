package poster

import (
	"math"
	"math/big"
	"math/rand"
	"slices"
	"sync"
	"testing"

	"pontage/api"
)

const max64 = math.MaxUint64

// number returns the integer with the given limbs, the least significant first.
func number(limbs ...uint64) api.Uint256 {
	var n api.Uint256
	copy(n[:], limbs)
	return n
}

func maximum() api.Uint256 { return number(max64, max64, max64, max64) }

func toBig(n api.Uint256) *big.Int {
	result := new(big.Int)
	for i := len(n) - 1; i >= 0; i-- {
		result.Lsh(result, 64)
		result.Or(result, new(big.Int).SetUint64(n[i]))
	}
	return result
}

func fromBig(n *big.Int) api.Uint256 {
	var result api.Uint256
	rest := new(big.Int).Set(n)
	for i := range result {
		result[i] = new(big.Int).And(rest, new(big.Int).SetUint64(max64)).Uint64()
		rest.Rsh(rest, 64)
	}
	return result
}

func plus(l ...api.Uint256) *big.Int {
	sum := new(big.Int)
	for _, n := range l {
		sum.Add(sum, toBig(n))
	}
	return sum
}

func fits(n *big.Int) bool { return n.Sign() >= 0 && n.BitLen() <= 256 }

// entry returns an entry with small amounts.
func entry(a api.Address, due, costs, rewards, paid, since uint64) api.Poster {
	return api.Poster{
		Address: a, Due: number(due), Costs: number(costs), Rewards: number(rewards), Paid: number(paid), DebtSince: since,
	}
}

// table returns k entries without amounts, whose addresses are 10, 20 and so on.
func table(k int) []api.Poster {
	l := make([]api.Poster, k)
	for i := range l {
		l[i].Address = api.Address(10 * (i + 1))
	}
	return l
}

// invalidTables returns tables each of which breaks one condition, in its first or
// its last entry.
func invalidTables() [][]api.Poster {
	good := entry(10, 5, 6, 3, 4, 2)
	late := func(p api.Poster) []api.Poster { return []api.Poster{good, {Address: 11}, p} }
	return [][]api.Poster{
		table(api.MaxPosters + 1),
		table(1000),
		{{}},
		{{}, good},
		{good, {}},
		{good, good},
		{{Address: 11}, good},
		{good, {Address: 12}, {Address: 11}},
		{good, {Address: 12}, {Address: 12}},
		{{Address: max64}, good},
		{entry(10, 6, 6, 3, 4, 2)},
		{entry(10, 4, 6, 3, 4, 2)},
		{entry(10, 5, 7, 3, 4, 2)},
		{entry(10, 5, 6, 4, 4, 2)},
		{entry(10, 5, 6, 3, 3, 2)},
		{entry(10, 5, 3, 1, 3, 2)},
		{entry(10, 3, 5, 3, 1, 2)},
		{entry(10, 5, 6, 3, 4, 0)},
		{entry(10, 0, 5, 3, 8, 1)},
		{entry(10, 0, 0, 0, 0, 1)},
		{entry(10, 0, 0, 0, 0, max64)},
		late(entry(12, 1, 0, 0, 0, 1)),
		late(entry(12, 1, 1, 0, 0, 0)),
		late(entry(12, 0, 1, 0, 1, 7)),
		late(entry(12, 0, 0, 0, 1, 0)),
		// The sums agree modulo 2^256, but not as integers.
		{{Address: 10, Due: number(1), Paid: maximum(), DebtSince: 1}},
		{{Address: 10, Costs: number(1), Rewards: maximum()}},
		{{Address: 10, Due: number(5), Paid: maximum(), Costs: number(4), DebtSince: 1}},
		// They differ in the most significant limb only.
		{{Address: 10, Due: number(1, 0, 0, 1), Costs: number(1, 0, 0, 2), DebtSince: 1}},
	}
}

// ample returns a valid entry whose amounts but one are the greatest ones.
func ample() api.Poster {
	return api.Poster{Address: 5, Due: maximum(), Paid: maximum(), Costs: maximum(), Rewards: maximum(), DebtSince: 1}
}

func expectValid(t *testing.T, l []api.Poster, want bool) {
	t.Helper()
	if got := Valid(l); got != want {
		t.Errorf("Valid(%v) = %t, want %t", l, got, want)
	}
}

func expectFind(t *testing.T, l []api.Poster, a api.Address, want int) {
	t.Helper()
	if got := Find(l, a); got != want {
		t.Errorf("Find(%v, %d) = %d, want %d", l, a, got, want)
	}
}

func expectTotal(t *testing.T, l []api.Poster, want api.Uint256, wantCode api.Errno) {
	t.Helper()
	if got, code := TotalDue(l); got != want || code != wantCode {
		t.Errorf("TotalDue(%v) = %v, %d, want %v, %d", l, got, code, want, wantCode)
	}
}

// expectTable checks the result of a call: want, or no table beside an error.
func expectTable(t *testing.T, call string, got []api.Poster, code api.Errno, want []api.Poster, wantCode api.Errno) {
	t.Helper()
	if wantCode != api.OK {
		want = nil
	}
	if !slices.Equal(got, want) || code != wantCode {
		t.Errorf("%s = %v, %d, want %v, %d", call, got, code, want, wantCode)
	}
}

func expectAdd(t *testing.T, l []api.Poster, a api.Address, want []api.Poster, wantCode api.Errno) {
	t.Helper()
	before := slices.Clone(l)
	got, code := Add(l, a)
	expectTable(t, "Add", got, code, want, wantCode)
	expectTable(t, "argument of Add", l, api.OK, before, api.OK)
}

func expectAccrue(t *testing.T, l []api.Poster, a api.Address, cost, reward api.Uint256, report uint64, want []api.Poster, wantCode api.Errno) {
	t.Helper()
	before := slices.Clone(l)
	got, code := Accrue(l, a, cost, reward, report)
	expectTable(t, "Accrue", got, code, want, wantCode)
	expectTable(t, "argument of Accrue", l, api.OK, before, api.OK)
}

func expectSettle(t *testing.T, l []api.Poster, a api.Address, n api.Uint256, want []api.Poster, wantCode api.Errno) {
	t.Helper()
	before := slices.Clone(l)
	got, code := Settle(l, a, n)
	expectTable(t, "Settle", got, code, want, wantCode)
	expectTable(t, "argument of Settle", l, api.OK, before, api.OK)
}

// validModel evaluates the conditions of P16.1 with unbounded integers.
func validModel(l []api.Poster) bool {
	for i, p := range l {
		if p.Address == 0 || i > 0 && l[i-1].Address >= p.Address {
			return false
		}
		if plus(p.Due, p.Paid).Cmp(plus(p.Costs, p.Rewards)) != 0 {
			return false
		}
		if (p.DebtSince == 0) != (toBig(p.Due).Sign() == 0) {
			return false
		}
	}
	return len(l) <= 64
}

// expectAccrueModel compares Accrue with unbounded integers, for a valid table and
// a report that is not 0.
func expectAccrueModel(t *testing.T, l []api.Poster, a api.Address, cost, reward api.Uint256, report uint64) {
	t.Helper()
	index := slices.IndexFunc(l, func(p api.Poster) bool { return p.Address == a })
	if index < 0 {
		expectAccrue(t, l, a, cost, reward, report, nil, api.ErrNotFound)
		return
	}
	p := l[index]
	due, costs, rewards := plus(p.Due, cost, reward), plus(p.Costs, cost), plus(p.Rewards, reward)
	if !fits(due) || !fits(costs) || !fits(rewards) {
		expectAccrue(t, l, a, cost, reward, report, nil, api.ErrOverflow)
		return
	}
	if p.Due == (api.Uint256{}) && due.Sign() != 0 {
		p.DebtSince = report
	}
	p.Due, p.Costs, p.Rewards = fromBig(due), fromBig(costs), fromBig(rewards)
	want := slices.Clone(l)
	want[index] = p
	expectAccrue(t, l, a, cost, reward, report, want, api.OK)
	expectValid(t, want, true)
}

// expectSettleModel compares Settle with unbounded integers, for a valid table.
func expectSettleModel(t *testing.T, l []api.Poster, a api.Address, n api.Uint256) {
	t.Helper()
	index := slices.IndexFunc(l, func(p api.Poster) bool { return p.Address == a })
	if index < 0 {
		expectSettle(t, l, a, n, nil, api.ErrNotFound)
		return
	}
	p := l[index]
	due, paid := new(big.Int).Sub(toBig(p.Due), toBig(n)), plus(p.Paid, n)
	switch {
	case due.Sign() < 0:
		expectSettle(t, l, a, n, nil, api.ErrInsufficientFunds)
		return
	case !fits(paid):
		expectSettle(t, l, a, n, nil, api.ErrOverflow)
		return
	case due.Sign() == 0:
		p.DebtSince = 0
	}
	p.Due, p.Paid = fromBig(due), fromBig(paid)
	want := slices.Clone(l)
	want[index] = p
	expectSettle(t, l, a, n, want, api.OK)
	expectValid(t, want, true)
}

// randomAmount returns amounts of every bit length, of which some are near the end
// of the range.
func randomAmount(random *rand.Rand) api.Uint256 {
	n := number(random.Uint64(), random.Uint64(), random.Uint64(), random.Uint64())
	n = fromBig(new(big.Int).Rsh(toBig(n), uint(random.Intn(257))))
	if random.Intn(3) == 0 {
		return fromBig(new(big.Int).Sub(toBig(maximum()), toBig(n)))
	}
	return n
}

// randomEntry returns a valid entry with random amounts.
func randomEntry(random *rand.Rand, a api.Address) api.Poster {
	for {
		p := api.Poster{Address: a, Due: randomAmount(random), Costs: randomAmount(random), Rewards: randomAmount(random)}
		if random.Intn(3) == 0 {
			p.Due = api.Uint256{}
		}
		paid := plus(p.Costs, p.Rewards)
		paid.Sub(paid, toBig(p.Due))
		if !fits(paid) {
			continue
		}
		p.Paid = fromBig(paid)
		if p.Due != (api.Uint256{}) {
			p.DebtSince = 1 + random.Uint64()>>(1+random.Intn(63))
		}
		return p
	}
}

// randomTable returns a valid table of a random length.
func randomTable(random *rand.Rand) []api.Poster {
	l := make([]api.Poster, random.Intn(8))
	var a api.Address
	for i := range l {
		a += 1 + api.Address(random.Intn(3))
		l[i] = randomEntry(random, a)
	}
	return l
}

func TestChapterExamples(t *testing.T) {
	added, code := Add(nil, 7)
	expectTable(t, "Add(nil, 7)", added, code, []api.Poster{{Address: 7}}, api.OK)
	accrued, code := Accrue(added, 7, number(50), number(2), 1)
	expectTable(t, "Accrue", accrued, code, []api.Poster{entry(7, 52, 50, 2, 0, 1)}, api.OK)
	expectSettle(t, accrued, 7, number(53), nil, api.ErrInsufficientFunds)
}

// P16.1

func TestValidTables(t *testing.T) {
	for _, l := range [][]api.Poster{
		nil,
		{},
		{{Address: 1}},
		{{Address: max64}},
		{{Address: 1}, {Address: 2}, {Address: max64}},
		{entry(1, 5, 6, 3, 4, 2)},
		{entry(1, 5, 6, 3, 4, max64)},
		{entry(1, 9, 6, 3, 0, 1)},
		{entry(1, 0, 6, 3, 9, 0)},
		{entry(1, 3, 0, 3, 0, 1), entry(2, 3, 3, 0, 0, 1)},
		// Their sums have 257 bits.
		{ample()},
		{{Address: 1, Due: maximum(), Paid: number(1), Costs: number(1), Rewards: maximum(), DebtSince: 1}},
		{{Address: 1, Due: number(1), Paid: maximum(), Costs: number(0, 0, 0, 1<<63), Rewards: number(0, 0, 0, 1<<63), DebtSince: 1}},
		table(api.MaxPosters - 1),
		table(api.MaxPosters),
	} {
		expectValid(t, l, true)
	}
}

func TestInvalidTables(t *testing.T) {
	for _, l := range invalidTables() {
		expectValid(t, l, false)
		expectTotal(t, l, api.Uint256{}, api.ErrInvalidArgument)
	}
}

func TestValidEachEntry(t *testing.T) {
	for i := range api.MaxPosters {
		l := table(api.MaxPosters)
		l[i].DebtSince = 1
		expectValid(t, l, false)
		l[i] = api.Poster{Address: l[i].Address, Due: number(1), DebtSince: 1}
		expectValid(t, l, false)
		l[i] = api.Poster{}
		expectValid(t, l, false)
	}
	for i := range api.MaxPosters - 1 {
		l := table(api.MaxPosters)
		l[i].Address = l[i+1].Address
		expectValid(t, l, false)
		l[i].Address++
		expectValid(t, l, false)
	}
}

func TestValidAgainstUnboundedIntegers(t *testing.T) {
	random := rand.New(rand.NewSource(16))
	valid := 0
	for range 8_000 {
		l := randomTable(random)
		expectValid(t, l, true)
		if len(l) == 0 {
			continue
		}
		p := &l[random.Intn(len(l))]
		switch random.Intn(6) {
		case 0:
			p.Due = randomAmount(random)
		case 1:
			p.Costs[random.Intn(4)] ^= 1 << random.Intn(64)
		case 2:
			p.Paid[random.Intn(4)]++
		case 3:
			p.DebtSince = random.Uint64() % 2
		case 4:
			p.Address = api.Address(random.Intn(20))
		case 5:
			p.Costs, p.Rewards = p.Rewards, p.Costs
		}
		expectValid(t, l, validModel(l))
		if validModel(l) {
			valid++
		}
	}
	if valid < 500 || valid > 7_500 {
		t.Errorf("%d of the changed tables are valid: the test says little", valid)
	}
}

func TestFind(t *testing.T) {
	l := []api.Poster{entry(3, 5, 6, 3, 4, 2), {Address: 7}, {Address: max64}}
	expectFind(t, l, 3, 0)
	expectFind(t, l, 7, 1)
	expectFind(t, l, max64, 2)
	for _, a := range []api.Address{0, 1, 2, 4, 6, 8, max64 - 1} {
		expectFind(t, l, a, -1)
	}
	expectFind(t, nil, 0, -1)
	expectFind(t, []api.Poster{}, 1, -1)
	for i := range api.MaxPosters {
		expectFind(t, table(api.MaxPosters), api.Address(10*(i+1)), i)
		expectFind(t, table(api.MaxPosters), api.Address(10*i+5), -1)
	}
}

// TestFindInAnInvalidTable takes lists that are no poster tables: Find has no such
// condition.
func TestFindInAnInvalidTable(t *testing.T) {
	l := []api.Poster{{Address: 9, DebtSince: 4}, {Address: 3}, {}, {Address: 9}, {Address: 3}, {}}
	expectFind(t, l, 9, 0)
	expectFind(t, l, 3, 1)
	expectFind(t, l, 0, 2)
	expectFind(t, l, 4, -1)
	expectFind(t, table(1000), 10_000, 999)
	expectFind(t, table(1000), 10_001, -1)
}

func TestTotalDue(t *testing.T) {
	expectTotal(t, nil, number(), api.OK)
	expectTotal(t, table(api.MaxPosters), number(), api.OK)
	expectTotal(t, []api.Poster{entry(1, 5, 6, 3, 4, 2)}, number(5), api.OK)
	expectTotal(t, []api.Poster{entry(1, 5, 6, 3, 4, 2), {Address: 2}, entry(3, 30, 30, 0, 0, 1)}, number(35), api.OK)
}

func TestTotalDueOverflow(t *testing.T) {
	one := entry(7, 1, 1, 0, 0, 1)
	most := api.Poster{Address: 6, Due: maximum(), Costs: maximum(), DebtSince: 1}
	almost := most
	almost.Due[0]--
	almost.Costs[0]--
	expectTotal(t, []api.Poster{most}, maximum(), api.OK)
	expectTotal(t, []api.Poster{almost, one}, maximum(), api.OK)
	expectTotal(t, []api.Poster{most, one}, number(), api.ErrOverflow)
	expectTotal(t, []api.Poster{ample(), most, one}, number(), api.ErrOverflow)
	// A later sum would fit again if the first one wrapped round.
	expectTotal(t, []api.Poster{most, one, entry(8, 3, 3, 0, 0, 1)}, number(), api.ErrOverflow)
	// The table is checked before the sum.
	expectTotal(t, []api.Poster{most, one, {Address: 7}}, number(), api.ErrInvalidArgument)
	expectTotal(t, []api.Poster{most, one, {Address: 8, DebtSince: 1}}, number(), api.ErrInvalidArgument)
}

func TestTotalDueAgainstUnboundedIntegers(t *testing.T) {
	random := rand.New(rand.NewSource(161))
	for range 5_000 {
		l := randomTable(random)
		sum := new(big.Int)
		for _, p := range l {
			sum.Add(sum, toBig(p.Due))
		}
		if fits(sum) {
			expectTotal(t, l, fromBig(sum), api.OK)
		} else {
			expectTotal(t, l, number(), api.ErrOverflow)
		}
	}
}

// P16.2

func TestAddInserts(t *testing.T) {
	low, high := entry(3, 5, 6, 3, 4, 2), entry(9, 1, 1, 0, 0, 8)
	expectAdd(t, nil, 1, []api.Poster{{Address: 1}}, api.OK)
	expectAdd(t, []api.Poster{}, max64, []api.Poster{{Address: max64}}, api.OK)
	expectAdd(t, []api.Poster{low, high}, 1, []api.Poster{{Address: 1}, low, high}, api.OK)
	expectAdd(t, []api.Poster{low, high}, 4, []api.Poster{low, {Address: 4}, high}, api.OK)
	expectAdd(t, []api.Poster{low, high}, 8, []api.Poster{low, {Address: 8}, high}, api.OK)
	expectAdd(t, []api.Poster{low, high}, 10, []api.Poster{low, high, {Address: 10}}, api.OK)
	expectAdd(t, []api.Poster{low, high}, max64, []api.Poster{low, high, {Address: max64}}, api.OK)
}

func TestAddAtEveryPlace(t *testing.T) {
	for _, length := range []int{1, 2, 7, api.MaxPosters - 1} {
		for place := range length + 1 {
			l := table(length)
			want := slices.Concat(l[:place], []api.Poster{{Address: api.Address(10*place + 5)}}, l[place:])
			expectAdd(t, l, api.Address(10*place+5), want, api.OK)
			expectValid(t, want, true)
		}
	}
}

func TestAddFillsTheTable(t *testing.T) {
	random := rand.New(rand.NewSource(162))
	var l []api.Poster
	for _, i := range random.Perm(api.MaxPosters) {
		l, _ = Add(l, api.Address(10*(i+1)))
	}
	expectTable(t, "adding all", l, api.OK, table(api.MaxPosters), api.OK)
	expectAdd(t, l, 5, nil, api.ErrCapacity)
}

func TestAddErrors(t *testing.T) {
	full := table(api.MaxPosters)
	expectAdd(t, nil, 0, nil, api.ErrInvalidArgument)
	expectAdd(t, table(3), 0, nil, api.ErrInvalidArgument)
	expectAdd(t, full, 0, nil, api.ErrInvalidArgument)
	for i, p := range full {
		expectAdd(t, table(i+1), p.Address, nil, api.ErrDuplicate)
		expectAdd(t, full, p.Address, nil, api.ErrDuplicate)
		expectAdd(t, full, p.Address-1, nil, api.ErrCapacity)
		expectAdd(t, full, p.Address+1, nil, api.ErrCapacity)
	}
	expectAdd(t, full, max64, nil, api.ErrCapacity)
	for _, l := range invalidTables() {
		for _, a := range []api.Address{0, 5, 10, 11, max64} {
			expectAdd(t, l, a, nil, api.ErrInvalidArgument)
		}
	}
}

func TestAccrueOrdinary(t *testing.T) {
	l := []api.Poster{{Address: 3}, entry(5, 5, 6, 3, 4, 2), entry(9, 0, 6, 3, 9, 0)}
	replaced := func(i int, p api.Poster) []api.Poster {
		changed := slices.Clone(l)
		changed[i] = p
		return changed
	}
	expectAccrue(t, l, 3, number(50), number(2), 7, replaced(0, entry(3, 52, 50, 2, 0, 7)), api.OK)
	expectAccrue(t, l, 3, number(50), number(), max64, replaced(0, entry(3, 50, 50, 0, 0, max64)), api.OK)
	expectAccrue(t, l, 3, number(), number(2), 1, replaced(0, entry(3, 2, 0, 2, 0, 1)), api.OK)
	expectAccrue(t, l, 5, number(50), number(2), 7, replaced(1, entry(5, 57, 56, 5, 4, 2)), api.OK)
	expectAccrue(t, l, 5, number(50), number(2), 1, replaced(1, entry(5, 57, 56, 5, 4, 2)), api.OK)
	expectAccrue(t, l, 9, number(1), number(2), 7, replaced(2, entry(9, 3, 7, 5, 9, 7)), api.OK)
}

// TestAccrueNothing keeps an entry as it is: a debt of 0 has not begun.
func TestAccrueNothing(t *testing.T) {
	l := []api.Poster{{Address: 3}, entry(5, 5, 6, 3, 4, 2), entry(9, 0, 6, 3, 9, 0)}
	for _, p := range l {
		expectAccrue(t, l, p.Address, number(), number(), 7, l, api.OK)
	}
	expectAccrue(t, []api.Poster{ample()}, 5, number(), number(), 7, []api.Poster{ample()}, api.OK)
}

func TestAccrueOverflow(t *testing.T) {
	empty := []api.Poster{{Address: 5}}
	expectAccrue(t, empty, 5, maximum(), number(), 1, []api.Poster{{Address: 5, Due: maximum(), Costs: maximum(), DebtSince: 1}}, api.OK)
	expectAccrue(t, empty, 5, number(), maximum(), 1, []api.Poster{{Address: 5, Due: maximum(), Rewards: maximum(), DebtSince: 1}}, api.OK)
	expectAccrue(t, empty, 5, maximum(), number(1), 1, nil, api.ErrOverflow)
	expectAccrue(t, empty, 5, number(1), maximum(), 1, nil, api.ErrOverflow)
	expectAccrue(t, empty, 5, maximum(), maximum(), 1, nil, api.ErrOverflow)
	expectAccrue(t, []api.Poster{ample()}, 5, number(1), number(), 1, nil, api.ErrOverflow)
	expectAccrue(t, []api.Poster{ample()}, 5, number(), number(1), 1, nil, api.ErrOverflow)
}

// TestAccrueOverflowOfOneTotal takes entries of which only the one named amount is
// at its end.
func TestAccrueOverflowOfOneTotal(t *testing.T) {
	costs := []api.Poster{{Address: 5, Costs: maximum(), Paid: maximum()}}
	rewards := []api.Poster{{Address: 5, Rewards: maximum(), Paid: maximum()}}
	due := []api.Poster{{Address: 5, Due: maximum(), Costs: number(max64, max64, max64, max64-1), Rewards: number(0, 0, 0, 1), DebtSince: 4}}
	expectAccrue(t, costs, 5, number(1), number(), 3, nil, api.ErrOverflow)
	expectAccrue(t, costs, 5, number(), number(1), 3, []api.Poster{{Address: 5, Due: number(1), Costs: maximum(), Rewards: number(1), Paid: maximum(), DebtSince: 3}}, api.OK)
	expectAccrue(t, costs, 5, number(), maximum(), 3, []api.Poster{{Address: 5, Due: maximum(), Costs: maximum(), Rewards: maximum(), Paid: maximum(), DebtSince: 3}}, api.OK)
	expectAccrue(t, rewards, 5, number(), number(1), 3, nil, api.ErrOverflow)
	expectAccrue(t, rewards, 5, number(1), number(), 3, []api.Poster{{Address: 5, Due: number(1), Costs: number(1), Rewards: maximum(), Paid: maximum(), DebtSince: 3}}, api.OK)
	expectAccrue(t, due, 5, number(1), number(), 3, nil, api.ErrOverflow)
	expectAccrue(t, due, 5, number(), number(1), 3, nil, api.ErrOverflow)
}

func TestAccrueErrors(t *testing.T) {
	l := []api.Poster{{Address: 3}, entry(5, 5, 6, 3, 4, 2)}
	expectAccrue(t, l, 3, number(1), number(), 0, nil, api.ErrInvalidArgument)
	expectAccrue(t, l, 3, number(), number(), 0, nil, api.ErrInvalidArgument)
	expectAccrue(t, l, 5, maximum(), number(), 0, nil, api.ErrInvalidArgument)
	expectAccrue(t, nil, 3, number(), number(), 0, nil, api.ErrInvalidArgument)
	expectAccrue(t, nil, 3, number(), number(), 1, nil, api.ErrNotFound)
	for _, a := range []api.Address{0, 1, 2, 4, 6, max64} {
		expectAccrue(t, l, a, number(1), number(1), 0, nil, api.ErrInvalidArgument)
		expectAccrue(t, l, a, number(1), number(1), 1, nil, api.ErrNotFound)
		expectAccrue(t, l, a, maximum(), maximum(), 1, nil, api.ErrNotFound)
	}
	for _, l := range invalidTables() {
		for _, a := range []api.Address{0, 5, 10, 11, max64} {
			expectAccrue(t, l, a, number(1), number(1), 1, nil, api.ErrInvalidArgument)
			expectAccrue(t, l, a, maximum(), maximum(), 0, nil, api.ErrInvalidArgument)
		}
	}
}

func TestSettleOrdinary(t *testing.T) {
	l := []api.Poster{{Address: 3}, entry(5, 5, 6, 3, 4, 2), entry(9, 7, 7, 0, 0, max64)}
	replaced := func(i int, p api.Poster) []api.Poster {
		changed := slices.Clone(l)
		changed[i] = p
		return changed
	}
	expectSettle(t, l, 5, number(1), replaced(1, entry(5, 4, 6, 3, 5, 2)), api.OK)
	expectSettle(t, l, 5, number(4), replaced(1, entry(5, 1, 6, 3, 8, 2)), api.OK)
	expectSettle(t, l, 5, number(5), replaced(1, entry(5, 0, 6, 3, 9, 0)), api.OK)
	expectSettle(t, l, 5, number(6), nil, api.ErrInsufficientFunds)
	expectSettle(t, l, 9, number(7), replaced(2, entry(9, 0, 7, 0, 7, 0)), api.OK)
	expectSettle(t, l, 9, number(8), nil, api.ErrInsufficientFunds)
	expectSettle(t, l, 9, maximum(), nil, api.ErrInsufficientFunds)
	expectSettle(t, l, 3, number(1), nil, api.ErrInsufficientFunds)
	for _, p := range l {
		expectSettle(t, l, p.Address, number(), l, api.OK)
	}
}

func TestSettleLimits(t *testing.T) {
	debt := api.Poster{Address: 5, Due: maximum(), Costs: maximum(), DebtSince: 3}
	expectSettle(t, []api.Poster{debt}, 5, maximum(), []api.Poster{{Address: 5, Costs: maximum(), Paid: maximum()}}, api.OK)
	expectSettle(t, []api.Poster{ample()}, 5, number(1), nil, api.ErrOverflow)
	expectSettle(t, []api.Poster{ample()}, 5, maximum(), nil, api.ErrOverflow)
	full := []api.Poster{{Address: 9, Due: number(5), Costs: maximum(), Rewards: number(3), Paid: number(max64-2, max64, max64, max64), DebtSince: 2}}
	expectSettle(t, full, 9, number(2), []api.Poster{{Address: 9, Due: number(3), Costs: maximum(), Rewards: number(3), Paid: maximum(), DebtSince: 2}}, api.OK)
	expectSettle(t, full, 9, number(3), nil, api.ErrOverflow)
	expectSettle(t, full, 9, number(5), nil, api.ErrOverflow)
	// The debt is checked before the total of the payments.
	expectSettle(t, full, 9, number(6), nil, api.ErrInsufficientFunds)
	expectSettle(t, full, 9, maximum(), nil, api.ErrInsufficientFunds)
}

func TestSettleErrors(t *testing.T) {
	l := []api.Poster{{Address: 3}, entry(5, 5, 6, 3, 4, 2)}
	expectSettle(t, nil, 3, number(), nil, api.ErrNotFound)
	for _, a := range []api.Address{0, 1, 2, 4, 6, max64} {
		expectSettle(t, l, a, number(), nil, api.ErrNotFound)
		expectSettle(t, l, a, number(1), nil, api.ErrNotFound)
		expectSettle(t, l, a, maximum(), nil, api.ErrNotFound)
	}
	for _, l := range invalidTables() {
		for _, a := range []api.Address{0, 5, 10, 11, max64} {
			expectSettle(t, l, a, number(), nil, api.ErrInvalidArgument)
			expectSettle(t, l, a, maximum(), nil, api.ErrInvalidArgument)
		}
	}
}

func TestChangesAgainstUnboundedIntegers(t *testing.T) {
	random := rand.New(rand.NewSource(163))
	for range 8_000 {
		l := randomTable(random)
		a := api.Address(random.Intn(12))
		if len(l) > 0 && random.Intn(4) > 0 {
			p := l[random.Intn(len(l))]
			a = p.Address
			expectSettleModel(t, l, a, p.Due)
			expectSettleModel(t, l, a, fromBig(new(big.Int).Rsh(toBig(p.Due), 1)))
		}
		expectAccrueModel(t, l, a, randomAmount(random), randomAmount(random), 1+random.Uint64()>>1)
		expectAccrueModel(t, l, a, number(random.Uint64()%2), number(random.Uint64()%2), 1)
		expectSettleModel(t, l, a, randomAmount(random))
	}
}

// TestAgeOfADebt follows a debt through payments and reports: its age stays until
// it is paid in full.
func TestAgeOfADebt(t *testing.T) {
	l, _ := Add([]api.Poster{{Address: 3}}, 7)
	expectAge := func(want uint64) {
		t.Helper()
		if got := l[Find(l, 7)].DebtSince; got != want {
			t.Errorf("the debt of %v has begun with report %d, want %d", l, got, want)
		}
		expectValid(t, l, true)
	}
	l, _ = Accrue(l, 7, number(10), number(1), 4)
	expectAge(4)
	l, _ = Settle(l, 7, number(10))
	expectAge(4)
	l, _ = Accrue(l, 7, number(10), number(1), 6)
	expectAge(4)
	l, _ = Settle(l, 7, number(12))
	expectAge(0)
	l, _ = Accrue(l, 7, number(), number(), 7)
	expectAge(0)
	l, _ = Accrue(l, 7, number(3), number(), 8)
	expectAge(8)
	expectTable(t, "the table", l, api.OK, []api.Poster{{Address: 3}, entry(7, 3, 23, 2, 22, 8)}, api.OK)
}

// General rules

// R4
func TestNoSharedMemory(t *testing.T) {
	backing := []api.Poster{{Address: 3}, entry(5, 5, 6, 3, 4, 2), {Address: 99}, {Address: 98}}
	before := slices.Clone(backing)
	l := backing[:2]
	for name, change := range map[string]func() ([]api.Poster, api.Errno){
		"Add last":       func() ([]api.Poster, api.Errno) { return Add(l, 7) },
		"Add first":      func() ([]api.Poster, api.Errno) { return Add(l, 1) },
		"Accrue":         func() ([]api.Poster, api.Errno) { return Accrue(l, 5, number(1), number(1), 9) },
		"Accrue nothing": func() ([]api.Poster, api.Errno) { return Accrue(l, 5, number(), number(), 9) },
		"Settle":         func() ([]api.Poster, api.Errno) { return Settle(l, 5, number(1)) },
		"Settle nothing": func() ([]api.Poster, api.Errno) { return Settle(l, 5, number()) },
		"failing Settle": func() ([]api.Poster, api.Errno) { return Settle(l, 5, number(9)) },
		"failing Accrue": func() ([]api.Poster, api.Errno) { return Accrue(l, 5, number(1), maximum(), 9) },
		"failing Add":    func() ([]api.Poster, api.Errno) { return Add(l, 3) },
	} {
		result, _ := change()
		result = append(result, api.Poster{Address: 77})
		for i := range result {
			result[i] = api.Poster{Address: 66, DebtSince: 66}
		}
		if !slices.Equal(backing, before) {
			t.Fatalf("%s: the argument and what follows it are %v, want %v", name, backing, before)
		}
	}
}

// R4
func TestResultsAreIndependent(t *testing.T) {
	l := []api.Poster{{Address: 3}, entry(5, 5, 6, 3, 4, 2)}
	first, _ := Settle(l, 5, number(2))
	second, _ := Settle(l, 5, number(2))
	first[0], first[1] = api.Poster{}, api.Poster{}
	expectTable(t, "the second result", second, api.OK, []api.Poster{{Address: 3}, entry(5, 3, 6, 3, 6, 2)}, api.OK)
}

// R5
func TestConcurrentCalls(t *testing.T) {
	shared := []api.Poster{{Address: 3}, entry(5, 5, 6, 3, 4, 2)}
	var group sync.WaitGroup
	for worker := range uint64(8) {
		group.Go(func() {
			for n := range uint64(200) {
				expectAccrueModel(t, shared, 3, number(n), number(worker), n+1)
				expectSettleModel(t, shared, 5, number(n%8))
				expectAdd(t, shared, 9, append(slices.Clone(shared), api.Poster{Address: 9}), api.OK)
				expectTotal(t, shared, number(5), api.OK)
			}
		})
	}
	group.Wait()
}
