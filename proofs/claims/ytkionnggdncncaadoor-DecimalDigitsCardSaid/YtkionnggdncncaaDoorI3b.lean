/- Contracts of int256.Valid and int256.New over this translation. No conditions besides. -/
import Derived.Test.YtkionnggdncncaaDoorI3a
import Derived.Test.YtkionnggdncncaaDoorI3n
import Derived.Test.YtkionnggdncncaaDoorSxu
namespace Go.Proofs.YtkionnggdncncaaDoor
open Go.RowKit Sx
set_option maxRecDepth 100000

theorem valid_any (s : Bool) (n : Nat) (hn : n < B256) : Det Tryd.prog 26 [Ic s n] (.bool (val s n)) := by
  cases s with
  | false => exact valid_f n
  | true => have := valid_t n; rw [isz_eq hn] at this; simpa [val] using this
theorem new_any (s : Bool) (n : Nat) (hn : n < B256) : Det Tryd.prog 36 [.bool s, U n] (Ic (s && decide (n ≠ 0)) n) := by
  cases s with
  | false => exact new_f n
  | true => have := new_t n; rw [isz_eq hn] at this; simpa using this
end Go.Proofs.YtkionnggdncncaaDoor

