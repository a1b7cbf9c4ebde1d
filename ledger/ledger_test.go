package ledger

import (
	"encoding/binary"
	"maps"
	"math"
	"math/big"
	"math/rand"
	"slices"
	"sync"
	"testing"

	"pontage/api"
)

const max64 = math.MaxUint64

// number returns the integer with the given limbs, the least significant first.
func number(limbs ...uint64) api.Uint256 {
	var n api.Uint256
	copy(n[:], limbs)
	return n
}

func maximum() api.Uint256 { return number(max64, max64, max64, max64) }

func account(a api.Address, balance api.Uint256, nonce uint64) api.Account {
	return api.Account{Address: a, Balance: balance, Nonce: nonce}
}

func vaults(network, infra, pool, burn uint64) [4]api.Uint256 {
	return [4]api.Uint256{number(network), number(infra), number(pool), number(burn)}
}

// notVaults are numbers that are no vaults, next to the vaults and at the ends of
// the range.
func notVaults() []int {
	return []int{math.MinInt, math.MinInt + 1, -4, -1, 0, 5, 6, 1<<8 + 1, 1<<32 + 1, math.MaxInt}
}

// loaded returns a ledger with the given accounts and vaults.
func loaded(t *testing.T, v [4]api.Uint256, l ...api.Account) *Ledger {
	t.Helper()
	ledger, code := Load(l, v)
	if ledger == nil || code != api.OK {
		t.Fatalf("Load(%v, %v) = %v, %d", l, v, ledger, code)
	}
	return ledger
}

func expectCode(t *testing.T, call string, got, want api.Errno) {
	t.Helper()
	if got != want {
		t.Errorf("%s = %d, want %d", call, got, want)
	}
}

// expectState checks everything that a ledger shows: it consists of the accounts
// l, sorted and without empty ones, and of the vaults v.
func expectState(t *testing.T, ledger *Ledger, v [4]api.Uint256, l ...api.Account) {
	t.Helper()
	if got := ledger.Accounts(); !slices.Equal(got, l) {
		t.Errorf("Accounts() = %v, want %v", got, l)
	}
	if got := ledger.Vaults(); got != v {
		t.Errorf("Vaults() = %v, want %v", got, v)
	}
	sum := new(big.Int)
	for i, amount := range v {
		if got := ledger.Vault(i + 1); got != amount {
			t.Errorf("Vault(%d) = %v, want %v", i+1, got, amount)
		}
		sum.Add(sum, toBig(amount))
	}
	for _, want := range l {
		if got := ledger.Balance(want.Address); got != want.Balance {
			t.Errorf("Balance(%d) = %v, want %v", want.Address, got, want.Balance)
		}
		if got := ledger.Nonce(want.Address); got != want.Nonce {
			t.Errorf("Nonce(%d) = %d, want %d", want.Address, got, want.Nonce)
		}
		sum.Add(sum, toBig(want.Balance))
	}
	if got := toBig(ledger.Supply()); got.Cmp(sum) != 0 {
		t.Errorf("Supply() = %d, want %d", got, sum)
	}
}

func toBig(n api.Uint256) *big.Int {
	var data []byte
	for i := len(n) - 1; i >= 0; i-- {
		data = binary.BigEndian.AppendUint64(data, n[i])
	}
	return new(big.Int).SetBytes(data)
}

func fromBig(n *big.Int) api.Uint256 {
	var a api.Uint256
	data := n.FillBytes(make([]byte, 32))
	for i := range a {
		a[i] = binary.BigEndian.Uint64(data[24-8*i:])
	}
	return a
}

func TestChapterExamples(t *testing.T) {
	ledger := New()
	expectCode(t, "Mint(5, 10)", ledger.Mint(5, number(10)), api.OK)
	expectCode(t, "Transfer(5, 6, 11)", ledger.Transfer(5, 6, number(11)), api.ErrInsufficientFunds)

	ledger = New()
	expectCode(t, "Mint(5, 10)", ledger.Mint(5, number(10)), api.OK)
	expectCode(t, "PayVault(5, VaultPool, 4)", ledger.PayVault(5, api.VaultPool, number(4)), api.OK)
	if got := ledger.Supply(); got != number(10) {
		t.Errorf("Supply() = %v, want 10", got)
	}
}

// P11.1

func TestNewLedgerIsEmpty(t *testing.T) {
	ledger := New()
	expectState(t, ledger, vaults(0, 0, 0, 0))
	for _, a := range []api.Address{0, 1, 5, api.BridgeAddress} {
		if ledger.Balance(a) != number() || ledger.Nonce(a) != 0 {
			t.Errorf("account %d of a new ledger: %v, %d", a, ledger.Balance(a), ledger.Nonce(a))
		}
	}
	if New() == ledger {
		t.Error("New returned the same ledger twice")
	}
}

func TestUnusedAddressesAreEmpty(t *testing.T) {
	ledger := loaded(t, vaults(1, 2, 3, 4), account(5, number(10), 7))
	for _, a := range []api.Address{0, 1, 4, 6, 1<<32 + 5, api.BridgeAddress} {
		if ledger.Balance(a) != number() || ledger.Nonce(a) != 0 {
			t.Errorf("unused account %d: %v, %d", a, ledger.Balance(a), ledger.Nonce(a))
		}
	}
}

func TestVaultNumbers(t *testing.T) {
	ledger := loaded(t, vaults(1, 2, 3, 4))
	for i, v := range []int{api.VaultNetwork, api.VaultInfra, api.VaultPool, api.VaultBurn} {
		if got, want := ledger.Vault(v), number(uint64(i+1)); got != want {
			t.Errorf("Vault(%d) = %v, want %v", v, got, want)
		}
	}
	for _, v := range notVaults() {
		if got := ledger.Vault(v); got != number() {
			t.Errorf("Vault(%d) = %v, want 0", v, got)
		}
	}
}

// Vaults does not depend on the order in which the vaults were paid.
func TestVaultsAreInOrder(t *testing.T) {
	ledger := loaded(t, vaults(0, 0, 0, 0), account(5, number(10), 0))
	for _, v := range []int{api.VaultBurn, api.VaultNetwork, api.VaultPool, api.VaultInfra} {
		expectCode(t, "PayVault", ledger.PayVault(5, v, number(uint64(v))), api.OK)
	}
	expectState(t, ledger, vaults(1, 2, 3, 4))
}

func TestSupplyCountsAccountsAndVaults(t *testing.T) {
	ledger := loaded(t, vaults(1, 20, 300, 4000), account(1, number(50000), 9), account(2, number(), 9), account(3, number(600000, 7), 0))
	if got, want := ledger.Supply(), number(654321, 7); got != want {
		t.Errorf("Supply() = %v, want %v", got, want)
	}
}

func TestAccountsAreSortedByAddress(t *testing.T) {
	ledger := New()
	var want []api.Account
	addresses := []api.Address{1, 2, 3, 9, 10, 255, 256, 1 << 31, 1<<32 + 1, 1 << 63, 1<<63 + 2, max64 - 1, max64}
	for i := range addresses {
		// A permutation that is neither ascending nor descending.
		a := addresses[5*i%len(addresses)]
		expectCode(t, "Mint", ledger.Mint(a, number(uint64(a))), api.OK)
		want = append(want, account(addresses[i], number(uint64(addresses[i])), 0))
	}
	expectState(t, ledger, vaults(0, 0, 0, 0), want...)
}

func TestManyAccounts(t *testing.T) {
	const count = 20000
	ledger := New()
	var want []api.Account
	for i := range uint64(count) {
		expectCode(t, "Mint", ledger.Mint(api.Address(count-i), number(count-i)), api.OK)
		want = append(want, account(api.Address(i+1), number(i+1), 0))
	}
	expectState(t, ledger, vaults(0, 0, 0, 0), want...)
}

func TestAccountsListsBalancesAndNonces(t *testing.T) {
	ledger := New()
	ledger.Mint(7, number(1))
	ledger.IncrementNonce(6)
	ledger.Mint(5, number(0, 0, 0, 1))
	ledger.IncrementNonce(5)
	expectState(t, ledger, vaults(0, 0, 0, 0), account(5, number(0, 0, 0, 1), 1), account(6, number(), 1), account(7, number(1), 0))
}

// Accounts without balance and nonce are not listed, whichever call emptied them
// or left them empty.
func TestAccountsOmitsEmptyAccounts(t *testing.T) {
	ledger := New()
	for a := api.Address(1); a <= 4; a++ {
		ledger.Mint(a, number(8))
	}
	ledger.IncrementNonce(4)
	expectCode(t, "Mint of 0", ledger.Mint(9, number()), api.OK)
	expectCode(t, "Transfer of 0", ledger.Transfer(10, 11, number()), api.OK)
	expectCode(t, "Transfer of 0 to itself", ledger.Transfer(10, 10, number()), api.OK)
	expectCode(t, "PayVault of 0", ledger.PayVault(12, api.VaultPool, number()), api.OK)
	expectCode(t, "Withdraw of 0", ledger.Withdraw(13, number()), api.OK)
	expectCode(t, "Transfer of all", ledger.Transfer(1, 20, number(8)), api.OK)
	expectCode(t, "PayVault of all", ledger.PayVault(2, api.VaultPool, number(8)), api.OK)
	expectCode(t, "Withdraw of all", ledger.Withdraw(3, number(8)), api.OK)
	expectCode(t, "Withdraw of all", ledger.Withdraw(4, number(8)), api.OK)
	expectState(t, ledger, vaults(0, 0, 8, 0), account(4, number(), 1), account(20, number(8), 0))
	expectCode(t, "Mint", ledger.Mint(1, number(3)), api.OK)
	expectState(t, ledger, vaults(0, 0, 8, 0), account(1, number(3), 0), account(4, number(), 1), account(20, number(8), 0))
}

// changes are calls that change a ledger with at least 5 in account 5, account 6
// and vault 3.
func changes() []func(*Ledger) api.Errno {
	return []func(*Ledger) api.Errno{
		func(l *Ledger) api.Errno { return l.Mint(5, number(1)) },
		func(l *Ledger) api.Errno { return l.Mint(8, number(1)) },
		func(l *Ledger) api.Errno { return l.Transfer(5, 6, number(2)) },
		func(l *Ledger) api.Errno { return l.Transfer(5, 9, number(2)) },
		func(l *Ledger) api.Errno { return l.PayVault(5, api.VaultBurn, number(1)) },
		func(l *Ledger) api.Errno { return l.Withdraw(6, number(5)) },
		func(l *Ledger) api.Errno { return l.WithdrawVault(api.VaultPool, number(5)) },
		func(l *Ledger) api.Errno { return l.IncrementNonce(5) },
		func(l *Ledger) api.Errno { return l.IncrementNonce(10) },
	}
}

func TestCopyIsIndependent(t *testing.T) {
	before := []api.Account{account(5, number(5), 1), account(6, number(5), 0)}
	for i, change := range changes() {
		original := loaded(t, vaults(1, 2, 5, 4), before...)
		copied := original.Copy()
		expectState(t, copied, vaults(1, 2, 5, 4), before...)
		expectCode(t, "change of the copy", change(copied), api.OK)
		expectState(t, original, vaults(1, 2, 5, 4), before...)

		copied = original.Copy()
		expectCode(t, "change of the original", change(original), api.OK)
		expectState(t, copied, vaults(1, 2, 5, 4), before...)
		if slices.Equal(original.Accounts(), before) && original.Vaults() == vaults(1, 2, 5, 4) {
			t.Errorf("change %d changed nothing", i)
		}
	}
}

func TestCopyOfEmptyLedgerIsIndependent(t *testing.T) {
	original := New()
	copied := original.Copy()
	expectCode(t, "Mint to the copy", copied.Mint(5, number(1)), api.OK)
	expectCode(t, "Mint to the original", original.Mint(6, number(2)), api.OK)
	expectState(t, copied, vaults(0, 0, 0, 0), account(5, number(1), 0))
	expectState(t, original, vaults(0, 0, 0, 0), account(6, number(2), 0))
}

func TestCopyKeepsTheSupply(t *testing.T) {
	copied := loaded(t, vaults(1, 0, 0, 0), account(5, fromBig(new(big.Int).Sub(toBig(maximum()), big.NewInt(1))), 0)).Copy()
	expectCode(t, "Mint beyond the limit", copied.Mint(6, number(1)), api.ErrOverflow)
	expectCode(t, "WithdrawVault", copied.WithdrawVault(api.VaultNetwork, number(1)), api.OK)
	expectCode(t, "Mint up to the limit", copied.Mint(6, number(1)), api.OK)
}

// P11.2

func TestMint(t *testing.T) {
	ledger := loaded(t, vaults(1, 2, 3, 4), account(5, number(10), 3))
	expectCode(t, "Mint to a used address", ledger.Mint(5, number(1, 1)), api.OK)
	expectCode(t, "Mint to a new address", ledger.Mint(1, number(7)), api.OK)
	expectCode(t, "Mint to the greatest address", ledger.Mint(api.BridgeAddress, number(8)), api.OK)
	want := []api.Account{account(1, number(7), 0), account(5, number(11, 1), 3), account(max64, number(8), 0)}
	expectState(t, ledger, vaults(1, 2, 3, 4), want...)
	expectCode(t, "Mint to address 0", ledger.Mint(0, number(1)), api.ErrInvalidArgument)
	expectCode(t, "Mint of 0 to address 0", ledger.Mint(0, number()), api.ErrInvalidArgument)
	expectState(t, ledger, vaults(1, 2, 3, 4), want...)
}

func TestMintLimitsTheSupply(t *testing.T) {
	nearly := fromBig(new(big.Int).Sub(toBig(maximum()), big.NewInt(10)))
	want := []api.Account{account(5, nearly, 0)}
	ledger := loaded(t, vaults(1, 2, 3, 3), want...)
	for _, n := range []api.Uint256{number(2), number(3), number(0, 0, 0, 1), maximum()} {
		expectCode(t, "Mint beyond the limit", ledger.Mint(5, n), api.ErrOverflow)
		expectCode(t, "Mint beyond the limit to another address", ledger.Mint(6, n), api.ErrOverflow)
		expectCode(t, "Mint beyond the limit to address 0", ledger.Mint(0, n), api.ErrInvalidArgument)
		expectState(t, ledger, vaults(1, 2, 3, 3), want...)
	}
	expectCode(t, "Mint up to the limit", ledger.Mint(6, number(1)), api.OK)
	expectCode(t, "Mint of 0 at the limit", ledger.Mint(7, number()), api.OK)
	expectCode(t, "Mint at the limit", ledger.Mint(7, number(1)), api.ErrOverflow)
	expectState(t, ledger, vaults(1, 2, 3, 3), append(want, account(6, number(1), 0))...)
}

func TestMintOfTheWholeRange(t *testing.T) {
	ledger := New()
	expectCode(t, "Mint", ledger.Mint(5, maximum()), api.OK)
	expectCode(t, "Mint again", ledger.Mint(5, maximum()), api.ErrOverflow)
	expectState(t, ledger, vaults(0, 0, 0, 0), account(5, maximum(), 0))
}

// Transfers and payments leave the room for minting as it is; withdrawals make
// room for the amount that they subtract.
func TestMintAfterOtherCalls(t *testing.T) {
	ledger := New()
	expectCode(t, "Mint", ledger.Mint(5, maximum()), api.OK)
	expectCode(t, "Transfer", ledger.Transfer(5, 6, number(20)), api.OK)
	expectCode(t, "PayVault", ledger.PayVault(5, api.VaultInfra, number(20)), api.OK)
	expectCode(t, "Mint", ledger.Mint(7, number(1)), api.ErrOverflow)
	expectCode(t, "Withdraw", ledger.Withdraw(6, number(3)), api.OK)
	expectCode(t, "Mint", ledger.Mint(7, number(4)), api.ErrOverflow)
	expectCode(t, "WithdrawVault", ledger.WithdrawVault(api.VaultInfra, number(4)), api.OK)
	expectCode(t, "Mint", ledger.Mint(7, number(8)), api.ErrOverflow)
	expectCode(t, "Mint", ledger.Mint(7, number(7)), api.OK)
	expectCode(t, "Mint", ledger.Mint(7, number(1)), api.ErrOverflow)
	rest := fromBig(new(big.Int).Sub(toBig(maximum()), big.NewInt(40)))
	expectState(t, ledger, vaults(0, 16, 0, 0), account(5, rest, 0), account(6, number(17), 0), account(7, number(7), 0))
}

func TestTransfer(t *testing.T) {
	ledger := loaded(t, vaults(1, 2, 3, 4), account(5, number(0, 1), 3), account(6, number(10), 4))
	expectCode(t, "Transfer", ledger.Transfer(5, 6, number(1)), api.OK)
	expectState(t, ledger, vaults(1, 2, 3, 4), account(5, number(max64), 3), account(6, number(11), 4))
	expectCode(t, "Transfer to a new address", ledger.Transfer(6, api.BridgeAddress, number(4)), api.OK)
	expectState(t, ledger, vaults(1, 2, 3, 4), account(5, number(max64), 3), account(6, number(7), 4), account(max64, number(4), 0))
	expectCode(t, "Transfer of all", ledger.Transfer(5, 6, number(max64)), api.OK)
	expectState(t, ledger, vaults(1, 2, 3, 4), account(5, number(), 3), account(6, number(6, 1), 4), account(max64, number(4), 0))
}

func TestTransferToItself(t *testing.T) {
	want := []api.Account{account(5, number(10), 0), account(6, maximum(), 2)}
	want[1].Balance[0] -= 10
	ledger := loaded(t, vaults(0, 0, 0, 0), want...)
	for _, a := range want {
		for _, n := range []api.Uint256{number(), number(1), number(10), a.Balance} {
			expectCode(t, "Transfer to itself", ledger.Transfer(a.Address, a.Address, n), api.OK)
		}
		expectState(t, ledger, vaults(0, 0, 0, 0), want...)
	}
	expectCode(t, "Transfer of too much to itself", ledger.Transfer(5, 5, number(11)), api.ErrInsufficientFunds)
	expectCode(t, "Transfer of nothing to itself", ledger.Transfer(7, 7, number(1)), api.ErrInsufficientFunds)
	expectState(t, ledger, vaults(0, 0, 0, 0), want...)
}

func TestTransferRejects(t *testing.T) {
	want := []api.Account{account(5, number(10), 3), account(6, number(20), 0)}
	ledger := loaded(t, vaults(30, 30, 30, 30), want...)
	for _, n := range []api.Uint256{number(), number(1), number(11), maximum()} {
		expectCode(t, "Transfer from address 0", ledger.Transfer(0, 6, n), api.ErrInvalidArgument)
		expectCode(t, "Transfer to address 0", ledger.Transfer(5, 0, n), api.ErrInvalidArgument)
		expectCode(t, "Transfer between addresses 0", ledger.Transfer(0, 0, n), api.ErrInvalidArgument)
	}
	for _, n := range []api.Uint256{number(11), number(0, 1), number(10, 0, 0, 1), maximum()} {
		expectCode(t, "Transfer of too much", ledger.Transfer(5, 6, n), api.ErrInsufficientFunds)
		expectCode(t, "Transfer of too much to a new address", ledger.Transfer(5, 7, n), api.ErrInsufficientFunds)
	}
	expectCode(t, "Transfer from an unused address", ledger.Transfer(7, 6, number(1)), api.ErrInsufficientFunds)
	expectState(t, ledger, vaults(30, 30, 30, 30), want...)
}

func TestPayVault(t *testing.T) {
	ledger := loaded(t, vaults(0, 20, 30, 40), account(5, number(10), 3), account(6, number(0, 0, 1), 0))
	expectCode(t, "PayVault network", ledger.PayVault(5, api.VaultNetwork, number(1)), api.OK)
	expectCode(t, "PayVault infra", ledger.PayVault(5, api.VaultInfra, number(2)), api.OK)
	expectCode(t, "PayVault pool", ledger.PayVault(5, api.VaultPool, number(3)), api.OK)
	expectCode(t, "PayVault burn", ledger.PayVault(5, api.VaultBurn, number(4)), api.OK)
	expectState(t, ledger, vaults(1, 22, 33, 44), account(5, number(), 3), account(6, number(0, 0, 1), 0))
	expectCode(t, "PayVault of all", ledger.PayVault(6, api.VaultBurn, number(0, 0, 1)), api.OK)
	expectState(t, ledger, [4]api.Uint256{number(1), number(22), number(33), number(44, 0, 1)}, account(5, number(), 3))
}

func TestPayVaultRejects(t *testing.T) {
	want := []api.Account{account(5, number(10), 3)}
	ledger := loaded(t, vaults(30, 30, 30, 30), want...)
	for _, n := range []api.Uint256{number(), number(1), number(11), maximum()} {
		for _, v := range notVaults() {
			expectCode(t, "PayVault of no vault", ledger.PayVault(5, v, n), api.ErrInvalidArgument)
			expectCode(t, "PayVault from address 0 to no vault", ledger.PayVault(0, v, n), api.ErrInvalidArgument)
		}
		for v := api.VaultNetwork; v <= api.VaultBurn; v++ {
			expectCode(t, "PayVault from address 0", ledger.PayVault(0, v, n), api.ErrInvalidArgument)
		}
	}
	for v := api.VaultNetwork; v <= api.VaultBurn; v++ {
		expectCode(t, "PayVault of too much", ledger.PayVault(5, v, number(11)), api.ErrInsufficientFunds)
		expectCode(t, "PayVault of far too much", ledger.PayVault(5, v, maximum()), api.ErrInsufficientFunds)
		expectCode(t, "PayVault from an unused address", ledger.PayVault(6, v, number(1)), api.ErrInsufficientFunds)
	}
	expectState(t, ledger, vaults(30, 30, 30, 30), want...)
}

func TestWithdraw(t *testing.T) {
	ledger := loaded(t, vaults(1, 2, 3, 4), account(5, number(0, 1), 3), account(6, number(10), 0))
	expectCode(t, "Withdraw", ledger.Withdraw(5, number(1)), api.OK)
	expectCode(t, "Withdraw of 0", ledger.Withdraw(6, number()), api.OK)
	expectState(t, ledger, vaults(1, 2, 3, 4), account(5, number(max64), 3), account(6, number(10), 0))
	expectCode(t, "Withdraw of all", ledger.Withdraw(5, number(max64)), api.OK)
	expectCode(t, "Withdraw of all", ledger.Withdraw(6, number(10)), api.OK)
	expectState(t, ledger, vaults(1, 2, 3, 4), account(5, number(), 3))
}

func TestWithdrawRejects(t *testing.T) {
	want := []api.Account{account(5, number(10), 3)}
	ledger := loaded(t, vaults(30, 30, 30, 30), want...)
	for _, n := range []api.Uint256{number(), number(1), maximum()} {
		expectCode(t, "Withdraw from address 0", ledger.Withdraw(0, n), api.ErrInvalidArgument)
	}
	for _, n := range []api.Uint256{number(11), number(0, 0, 0, 1), maximum()} {
		expectCode(t, "Withdraw of too much", ledger.Withdraw(5, n), api.ErrInsufficientFunds)
		expectCode(t, "Withdraw from an unused address", ledger.Withdraw(6, n), api.ErrInsufficientFunds)
	}
	expectState(t, ledger, vaults(30, 30, 30, 30), want...)
}

func TestWithdrawVault(t *testing.T) {
	want := account(5, number(100), 3)
	ledger := loaded(t, [4]api.Uint256{number(10), number(20), number(0, 1), number(40)}, want)
	expectCode(t, "WithdrawVault network", ledger.WithdrawVault(api.VaultNetwork, number(1)), api.OK)
	expectCode(t, "WithdrawVault infra", ledger.WithdrawVault(api.VaultInfra, number(20)), api.OK)
	expectCode(t, "WithdrawVault pool", ledger.WithdrawVault(api.VaultPool, number(1)), api.OK)
	expectCode(t, "WithdrawVault burn", ledger.WithdrawVault(api.VaultBurn, number()), api.OK)
	expectState(t, ledger, [4]api.Uint256{number(9), {}, number(max64), number(40)}, want)
}

func TestWithdrawVaultRejects(t *testing.T) {
	want := account(5, number(100), 3)
	ledger := loaded(t, vaults(10, 20, 0, 40), want)
	for _, n := range []api.Uint256{number(), number(1), maximum()} {
		for _, v := range notVaults() {
			expectCode(t, "WithdrawVault of no vault", ledger.WithdrawVault(v, n), api.ErrInvalidArgument)
		}
	}
	for i, balance := range []uint64{10, 20, 0, 40} {
		expectCode(t, "WithdrawVault of too much", ledger.WithdrawVault(i+1, number(balance+1)), api.ErrInsufficientFunds)
		expectCode(t, "WithdrawVault of far too much", ledger.WithdrawVault(i+1, maximum()), api.ErrInsufficientFunds)
	}
	expectState(t, ledger, vaults(10, 20, 0, 40), want)
}

func TestIncrementNonce(t *testing.T) {
	ledger := loaded(t, vaults(1, 2, 3, 4), account(5, number(10), 3), account(6, number(), max64-1), account(7, number(1), max64))
	expectCode(t, "IncrementNonce", ledger.IncrementNonce(5), api.OK)
	expectCode(t, "IncrementNonce", ledger.IncrementNonce(5), api.OK)
	expectCode(t, "IncrementNonce of an unused address", ledger.IncrementNonce(api.BridgeAddress), api.OK)
	expectCode(t, "IncrementNonce to the greatest nonce", ledger.IncrementNonce(6), api.OK)
	want := []api.Account{account(5, number(10), 5), account(6, number(), max64), account(7, number(1), max64), account(max64, number(), 1)}
	expectState(t, ledger, vaults(1, 2, 3, 4), want...)
	expectCode(t, "IncrementNonce of address 0", ledger.IncrementNonce(0), api.ErrInvalidArgument)
	expectCode(t, "IncrementNonce of the greatest nonce", ledger.IncrementNonce(6), api.ErrOverflow)
	expectCode(t, "IncrementNonce of the greatest nonce", ledger.IncrementNonce(7), api.ErrOverflow)
	expectState(t, ledger, vaults(1, 2, 3, 4), want...)
}

// P11.3

func expectLoadFails(t *testing.T, want api.Errno, v [4]api.Uint256, l ...api.Account) {
	t.Helper()
	if ledger, code := Load(l, v); ledger != nil || code != want {
		t.Errorf("Load(%v, %v) = %v, %d; want nil, %d", l, v, ledger, code, want)
	}
}

func TestLoad(t *testing.T) {
	expectState(t, loaded(t, vaults(0, 0, 0, 0)), vaults(0, 0, 0, 0))
	expectState(t, loaded(t, vaults(1, 2, 3, 4)), vaults(1, 2, 3, 4))
	accounts := []api.Account{account(1, number(), 1), account(2, number(1), 0), account(9, number(0, 0, 0, 1), max64), account(10, number(8), 8), account(max64, number(7), 0)}
	expectState(t, loaded(t, vaults(4, 3, 2, 1), accounts...), vaults(4, 3, 2, 1), accounts...)
	expectState(t, loaded(t, [4]api.Uint256{number(1, 2, 3, 4), number(5, 6, 7, 8), number(9, 10, 11, 12), number(13, 14, 15, 16)}),
		[4]api.Uint256{number(1, 2, 3, 4), number(5, 6, 7, 8), number(9, 10, 11, 12), number(13, 14, 15, 16)})
}

func TestLoadRejectsUnsortedAccounts(t *testing.T) {
	one, two, three := account(1, number(1), 1), account(2, number(2), 2), account(3, number(3), 3)
	for _, l := range [][]api.Account{{two, one}, {one, three, two}, {two, one, three}, {three, two, one}, {account(1<<32, number(1), 0), one}} {
		expectLoadFails(t, api.ErrInvalidArgument, vaults(1, 2, 3, 4), l...)
	}
	for _, l := range [][]api.Account{{one, one}, {one, two, two}, {one, one, two}, {one, account(1, number(), 5)}, {account(max64, number(1), 0), account(max64, number(1), 0)}} {
		expectLoadFails(t, api.ErrInvalidArgument, vaults(1, 2, 3, 4), l...)
	}
}

func TestLoadRejectsAddressZero(t *testing.T) {
	one, zero := account(1, number(1), 1), account(0, number(1), 1)
	for _, l := range [][]api.Account{{zero}, {zero, one}, {one, zero}, {zero, zero}, {account(0, number(), 1)}, {account(0, number(1), 0)}, {account(0, number(), 0)}} {
		expectLoadFails(t, api.ErrInvalidArgument, vaults(0, 0, 0, 0), l...)
	}
}

func TestLoadRejectsEmptyAccounts(t *testing.T) {
	one, empty, three := account(1, number(1), 1), account(2, number(), 0), account(3, number(3), 3)
	for _, l := range [][]api.Account{{empty}, {one, empty}, {empty, three}, {one, empty, three}} {
		expectLoadFails(t, api.ErrInvalidArgument, vaults(1, 1, 1, 1), l...)
	}
}

func TestLoadLimitsTheSupply(t *testing.T) {
	rich, poor, none := account(5, maximum(), 0), account(6, number(1), 0), account(6, number(), 1)
	expectState(t, loaded(t, vaults(0, 0, 0, 0), rich, none), vaults(0, 0, 0, 0), rich, none)
	expectLoadFails(t, api.ErrOverflow, vaults(0, 0, 0, 0), rich, poor)
	for i := range 4 {
		var v [4]api.Uint256
		v[i] = maximum()
		expectState(t, loaded(t, v, none), v, none)
		expectLoadFails(t, api.ErrOverflow, v, poor)
		v[i] = number(1)
		expectLoadFails(t, api.ErrOverflow, v, rich)
		v[(i+1)%4] = maximum()
		expectLoadFails(t, api.ErrOverflow, v)
	}
	half := number(0, 0, 0, 1<<63)
	expectLoadFails(t, api.ErrOverflow, [4]api.Uint256{half}, account(5, half, 0))
	expectLoadFails(t, api.ErrOverflow, vaults(0, 0, 0, 0), account(5, half, 0), account(6, half, 0))
	expectLoadFails(t, api.ErrOverflow, [4]api.Uint256{half, half, half, half}, account(5, half, 0), account(6, half, 0))
}

// The chapter names the accounts before the supply.
func TestLoadReportsInvalidAccountsFirst(t *testing.T) {
	rich, poor := account(5, maximum(), 0), account(6, number(1), 0)
	for _, last := range []api.Account{poor, rich, account(0, number(1), 0), account(7, number(), 0)} {
		expectLoadFails(t, api.ErrInvalidArgument, vaults(1, 1, 1, 1), rich, poor, last)
	}
}

// A loaded ledger is a ledger like any other.
func TestLoadedLedgerChanges(t *testing.T) {
	ledger := loaded(t, vaults(0, 0, 5, 0), account(5, number(10), 0))
	expectCode(t, "Transfer", ledger.Transfer(5, 6, number(10)), api.OK)
	expectCode(t, "WithdrawVault", ledger.WithdrawVault(api.VaultPool, number(2)), api.OK)
	expectCode(t, "Withdraw", ledger.Withdraw(6, number(1)), api.OK)
	expectState(t, ledger, vaults(0, 0, 3, 0), account(6, number(9), 0))
	again := loaded(t, ledger.Vaults(), ledger.Accounts()...)
	expectState(t, again, vaults(0, 0, 3, 0), account(6, number(9), 0))
}

// P11.4, and P11.1 and P11.2 against a model with unbounded integers

// model is the ledger as the chapter specifies it, with unbounded integers.
type model struct {
	balances          map[api.Address]*big.Int
	nonces            map[api.Address]uint64
	vaults            map[int]*big.Int
	minted, withdrawn *big.Int
}

func newModel() *model {
	return &model{
		balances: map[api.Address]*big.Int{},
		nonces:   map[api.Address]uint64{},
		vaults:   map[int]*big.Int{1: {}, 2: {}, 3: {}, 4: {}},
		minted:   new(big.Int), withdrawn: new(big.Int),
	}
}

func (m *model) balance(a api.Address) *big.Int {
	if m.balances[a] == nil {
		m.balances[a] = new(big.Int)
	}
	return m.balances[a]
}

// supply is the sum of P11.1.
func (m *model) supply() *big.Int {
	sum := new(big.Int)
	for _, amount := range m.balances {
		sum.Add(sum, amount)
	}
	for _, amount := range m.vaults {
		sum.Add(sum, amount)
	}
	return sum
}

// accounts lists the accounts of P11.1.
func (m *model) accounts() []api.Account {
	used := map[api.Address]bool{}
	for a, amount := range m.balances {
		used[a] = used[a] || amount.Sign() > 0
	}
	for a, nonce := range m.nonces {
		used[a] = used[a] || nonce > 0
	}
	var l []api.Account
	for _, a := range slices.Sorted(maps.Keys(used)) {
		if used[a] {
			l = append(l, account(a, fromBig(m.balance(a)), m.nonces[a]))
		}
	}
	return l
}

// move subtracts n from one amount and adds it to another one, if there is enough.
func move(from, to *big.Int, n api.Uint256) api.Errno {
	amount := toBig(n)
	if from.Cmp(amount) < 0 {
		return api.ErrInsufficientFunds
	}
	from.Sub(from, amount)
	to.Add(to, amount)
	return api.OK
}

func (m *model) mint(a api.Address, n api.Uint256) api.Errno {
	if a == 0 {
		return api.ErrInvalidArgument
	}
	if new(big.Int).Add(m.supply(), toBig(n)).BitLen() > 256 {
		return api.ErrOverflow
	}
	m.balance(a).Add(m.balance(a), toBig(n))
	m.minted.Add(m.minted, toBig(n))
	return api.OK
}

func (m *model) transfer(a, b api.Address, n api.Uint256) api.Errno {
	if a == 0 || b == 0 {
		return api.ErrInvalidArgument
	}
	return move(m.balance(a), m.balance(b), n)
}

func (m *model) payVault(a api.Address, v int, n api.Uint256) api.Errno {
	if a == 0 || m.vaults[v] == nil {
		return api.ErrInvalidArgument
	}
	return move(m.balance(a), m.vaults[v], n)
}

func (m *model) withdraw(a api.Address, n api.Uint256) api.Errno {
	if a == 0 {
		return api.ErrInvalidArgument
	}
	return move(m.balance(a), m.withdrawn, n)
}

func (m *model) withdrawVault(v int, n api.Uint256) api.Errno {
	if m.vaults[v] == nil {
		return api.ErrInvalidArgument
	}
	return move(m.vaults[v], m.withdrawn, n)
}

func (m *model) incrementNonce(a api.Address) api.Errno {
	if a == 0 {
		return api.ErrInvalidArgument
	}
	m.nonces[a]++
	return api.OK
}

// pair is a ledger with the model that it has to agree with.
type pair struct {
	ledger *Ledger
	model  *model
}

// amountNear returns an amount at or next to a limit of the next call: the
// balance of a, that of v, the room for minting, or an end of the range.
func (p pair) amountNear(source *rand.Rand, a api.Address, v int) api.Uint256 {
	limit := []*big.Int{p.model.balance(a), toBig(p.ledger.Vault(v)), new(big.Int).Sub(toBig(maximum()), p.model.supply()), toBig(maximum()), new(big.Int)}[source.Intn(5)]
	amount := new(big.Int).Add(limit, big.NewInt(int64(source.Intn(3)-1)))
	if source.Intn(2) == 0 {
		amount.Rsh(limit, uint(source.Intn(9)))
	}
	if amount.Sign() < 0 || amount.BitLen() > 256 {
		return number()
	}
	return fromBig(amount)
}

// call makes one call to both sides and returns both codes.
func (p pair) call(source *rand.Rand) (string, api.Errno, api.Errno) {
	addresses := []api.Address{0, 1, 2, 3, 1 << 40, api.BridgeAddress}
	a, b, v := addresses[source.Intn(6)], addresses[source.Intn(6)], source.Intn(6)
	n := p.amountNear(source, a, v)
	switch source.Intn(6) {
	case 0:
		return "Mint", p.ledger.Mint(a, n), p.model.mint(a, n)
	case 1:
		return "Transfer", p.ledger.Transfer(a, b, n), p.model.transfer(a, b, n)
	case 2:
		return "PayVault", p.ledger.PayVault(a, v, n), p.model.payVault(a, v, n)
	case 3:
		return "Withdraw", p.ledger.Withdraw(a, n), p.model.withdraw(a, n)
	case 4:
		return "WithdrawVault", p.ledger.WithdrawVault(v, n), p.model.withdrawVault(v, n)
	}
	return "IncrementNonce", p.ledger.IncrementNonce(a), p.model.incrementNonce(a)
}

func (p pair) expectAgreement(t *testing.T) {
	t.Helper()
	var v [4]api.Uint256
	for i := range v {
		v[i] = fromBig(p.model.vaults[i+1])
	}
	expectState(t, p.ledger, v, p.model.accounts()...)
	difference := new(big.Int).Sub(p.model.minted, p.model.withdrawn)
	if got := toBig(p.ledger.Supply()); got.Cmp(difference) != 0 {
		t.Errorf("Supply() = %d, want %d minted - %d withdrawn", got, p.model.minted, p.model.withdrawn)
	}
}

// Supply is the difference between what was minted and what was withdrawn, after
// every call, and the ledger agrees with its specification.
func TestRandomCallsAgreeWithUnboundedIntegers(t *testing.T) {
	for seed := range int64(60) {
		source := rand.New(rand.NewSource(seed))
		both := pair{New(), newModel()}
		for range 300 {
			name, got, want := both.call(source)
			expectCode(t, name, got, want)
			both.expectAgreement(t)
			if t.Failed() {
				t.Fatalf("seed %d", seed)
			}
		}
	}
}

// A ledger may be replaced by its copy, or by one loaded from what it shows, at
// any time.
func TestRandomCallsOnReplacedLedgers(t *testing.T) {
	for seed := range int64(60) {
		source := rand.New(rand.NewSource(1000 + seed))
		both := pair{New(), newModel()}
		for i := range 200 {
			if i%2 == 0 {
				both.ledger = both.ledger.Copy()
			} else {
				both.ledger = loaded(t, both.ledger.Vaults(), both.ledger.Accounts()...)
			}
			name, got, want := both.call(source)
			expectCode(t, name, got, want)
			both.expectAgreement(t)
			if t.Failed() {
				t.Fatalf("seed %d", seed)
			}
		}
	}
}

// General rules

// R3
func TestNilLedger(t *testing.T) {
	var ledger *Ledger
	if ledger.Balance(5) != number() || ledger.Nonce(5) != 0 || ledger.Vault(api.VaultPool) != number() || ledger.Supply() != number() {
		t.Error("a nil ledger has a balance, a nonce or a supply")
	}
	if len(ledger.Accounts()) != 0 || ledger.Vaults() != vaults(0, 0, 0, 0) || ledger.Copy() != nil {
		t.Error("a nil ledger has accounts, vaults or a copy")
	}
	for _, a := range []api.Address{0, 5} {
		expectCode(t, "Mint", ledger.Mint(a, number(1)), api.ErrNilReceiver)
		expectCode(t, "Transfer", ledger.Transfer(a, 6, number(1)), api.ErrNilReceiver)
		expectCode(t, "PayVault", ledger.PayVault(a, api.VaultPool, number(1)), api.ErrNilReceiver)
		expectCode(t, "Withdraw", ledger.Withdraw(a, number(1)), api.ErrNilReceiver)
		expectCode(t, "IncrementNonce", ledger.IncrementNonce(a), api.ErrNilReceiver)
	}
	for _, v := range []int{0, api.VaultPool} {
		expectCode(t, "WithdrawVault", ledger.WithdrawVault(v, number(1)), api.ErrNilReceiver)
	}
}

// R1: no call panics on a ledger that no constructor returned.
func TestLedgerOfNoConstructor(t *testing.T) {
	for _, change := range changes() {
		ledger := &Ledger{}
		change(ledger)
		ledger.Copy().Accounts()
	}
}

// R4: a ledger keeps nothing of the arguments of Load, and changes nothing in them.
func TestLoadCopiesItsArguments(t *testing.T) {
	memory := []api.Account{account(5, number(10), 1), account(6, number(20), 0), account(7, number(30), 0)}
	before := slices.Clone(memory)
	v := vaults(1, 2, 5, 4)
	for _, change := range changes() {
		ledger := loaded(t, v, memory[:2]...)
		expectCode(t, "change", change(ledger), api.OK)
		if !slices.Equal(memory, before) || v != vaults(1, 2, 5, 4) {
			t.Fatal("a change of a ledger changed the arguments of Load")
		}
	}
	ledger := loaded(t, v, memory[:2]...)
	for i := range memory {
		memory[i] = account(9, number(99), 99)
	}
	v[2] = number(99)
	expectState(t, ledger, vaults(1, 2, 5, 4), before[:2]...)
}

// R4: results share no memory with the ledger or with each other.
func TestResultsAreNew(t *testing.T) {
	want := []api.Account{account(5, number(10), 1), account(6, number(20), 0)}
	ledger := loaded(t, vaults(1, 2, 3, 4), want...)
	first, second := ledger.Accounts(), ledger.Accounts()
	listed := ledger.Vaults()
	for i := range first {
		first[i] = account(9, number(99), 99)
	}
	_ = append(first[:1], account(9, number(99), 99))
	listed[0] = number(99)
	if !slices.Equal(second, want) {
		t.Errorf("Accounts() became %v", second)
	}
	expectState(t, ledger, vaults(1, 2, 3, 4), want...)
	ledger.Mint(5, number(1))
	if !slices.Equal(second, want) {
		t.Errorf("Accounts() became %v after Mint", second)
	}
}

// R5: ledgers do not affect each other, also if they are made at the same time.
func TestConcurrentLedgers(t *testing.T) {
	shared := []api.Account{account(5, number(10), 1), account(6, number(20), 0)}
	var group sync.WaitGroup
	for worker := range uint64(8) {
		group.Go(func() {
			empty := New()
			expectCode(t, "Mint", empty.Mint(5, number(worker+1)), api.OK)
			expectState(t, empty, vaults(0, 0, 0, 0), account(5, number(worker+1), 0))
			ledger, code := Load(shared, vaults(1, 2, 3, 4))
			expectCode(t, "Load", code, api.OK)
			expectCode(t, "Withdraw", ledger.Withdraw(6, number(worker)), api.OK)
			expectState(t, ledger, vaults(1, 2, 3, 4), shared[0], account(6, number(20-worker), 0))
		})
	}
	group.Wait()
}
