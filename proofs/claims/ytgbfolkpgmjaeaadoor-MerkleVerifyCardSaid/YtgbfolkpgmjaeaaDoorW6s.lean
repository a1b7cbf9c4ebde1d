/- The reference of layer 6 over this translation: what its functions read. No conditions. -/
import Derived.Test.YtgbfolkpgmjaeaaDoorW6r
namespace Go.Proofs.YtgbfolkpgmjaeaaDoor
open Go.RowKit Sx
set_option maxRecDepth 100000

theorem take_s {l : List UInt8} {k c i : Nat} (h : i < c) : ((l.drop (k + 1)).take c).getD i 0 = l.getD (k + 1 + i) 0 := by
  simp [List.getD, h]
theorem take_len {l : List UInt8} {k c : Nat} (h : c ≤ l.length - k - 1) : ((l.drop (k + 1)).take c).length = c := by
  rw [List.length_take, List.length_drop]; omega
theorem Byt.load_s (y : Byt) {j : Int} {k c i : Nat} (e : j = ((k + 1 + i : Nat) : Int)) (h : i < c) (hc : c ≤ y.n - k - 1) {A : Facts} (hA : Sub y.L A) : ∀ w, Sx.Holds w A → (loadVar 5 ((y.o.getD ⟨0, 0, none⟩).add (j.toNat * 1))).run Tryd.prog w = .ok (.int .u8 ((((y.l.drop (k + 1)).take c).getD i 0).toNat : Int)) w := by
  rw [take_s h]
  exact y.load (k + 1 + i) e (by omega) hA
theorem tk_fin {l : List UInt8} {k m c i : Nat} (h : k ≤ l.length) (hs : sigOk (l.drop k) m = true) (hc : c = (l.getD k 0).toNat) (hN : l.length < 4611686018427387904) (hd : decide ((i : Int) < (c : Int)) = false) (hi : i ≤ c) :
    Value.tuple #[U (beP ((l.drop (k + 1)).take c) i), .int .i64 (IntKind.i64.wrap (IntKind.i64.wrap ((k : Int) + 1) + (c : Int))), .int .i64 0] = rdV (rdn l k m) := by
  rw [← sigC_drop] at hc
  have h1 := sig_drop.1 hs
  rw [fb_fin (take_len (by rw [hc, sigC_drop]; omega)) hd hi]
  exact rdn_fin h hs hc rfl hN
theorem nz_f {a : Nat} (h : 0 < a) : decide ((a : Int) = 0) = false := by apply decide_eq_false; omega

end Go.Proofs.YtgbfolkpgmjaeaaDoor

