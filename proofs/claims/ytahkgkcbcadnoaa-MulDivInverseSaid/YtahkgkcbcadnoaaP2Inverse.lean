/- The law MulDivInverse holds: for all numbers a, b and c the call returns true, and its arguments read afterwards as they read before. No conditions. -/
import Derived.Test.YtahkgkcbcadnoaaAwake2
import Derived.Test.YtahkgkcbcadnoaaLaw2c
import Derived.Test.YtahkgkcbcadnoaaMin
import Derived.Test.YtahkgkcbcadnoaaOpen
namespace Go.Proofs.Ytahkgkcbcadnoaa
open Go.ChangeShapes Go.WideShapes Go.ChangeAt Go.RowKit

theorem inverse_law (a b c : Nat) (ha : a < B256) (hb : b < B256) (hc : c < B256) (w : World) : Calls Try.prog 7 #[U a, U b, U c] w fun e w' => e = .returned (.bool true) ∧ Below w.heap.size w w' := by
  have hm := mdmul_any a b ha hb
  have hd := d512_any (a * b % B256) (a * b / B256) c (lo_lt _) (hi_lt ha hb) hc
  rw [join_n] at hd
  by_cases h0 : c = 0
  · subst h0
    rw [show ∀ k, quoR 0 k = 0 from fun k => rfl, show ∀ k r, remR 0 k r = 0 from fun k r => rfl, show ∀ k, quoE 0 k = 5 from fun k => rfl, show ∀ x y z : Value, (#[x, y, z] : Array Value) = #[x, y, z] from fun _ _ _ => rfl] at hd
    have hd2 := hd
    exact inv_zero a b _ _ w hm (fun w => by have k := hd w; rw [show U 0 = .agg #[.int .u64 0, .int .u64 0, .int .u64 0, .int .u64 0] from U_zero] at k ⊢; exact k) (fun w => awake2_any w)
  by_cases hq : a * b / c < B256
  case neg =>
    rw [show quoR c (a * b / c) = 0 by unfold quoR chkR; rw [if_neg h0, if_neg hq], show remR c (a * b / c) (a * b % c) = 0 by unfold remR; rw [if_neg h0, if_neg hq], show quoE c (a * b / c) = 4 by unfold quoE chkE; rw [if_neg h0, if_neg hq]] at hd
    exact inv_over a b c _ _ hc h0 w hm (fun w => by have k := hd w; rw [show U 0 = .agg #[.int .u64 0, .int .u64 0, .int .u64 0, .int .u64 0] from U_zero] at k; exact k) (fun w => awake2_any w)
  rw [show quoR c (a * b / c) = a * b / c by unfold quoR chkR; rw [if_neg h0, if_pos hq], show remR c (a * b / c) (a * b % c) = a * b % c by unfold remR; rw [if_neg h0, if_pos hq], show quoE c (a * b / c) = 0 by unfold quoE chkE; rw [if_neg h0, if_pos hq]] at hd
  have hr : a * b % c < c := Nat.mod_lt _ (by omega)
  have hrb : a * b % c < B256 := Nat.lt_trans hr hc
  have hcm : ∀ w, Calls Try.prog 23 #[U (a * b % c), U c] w fun e w' => e = .returned (.int .i64 (-1)) ∧ Below w.heap.size w w' := fun w => by
    have k := cmp_any (a * b % c) c hrb hc w
    rw [show cmpI (a * b % c) c = -1 from if_pos hr] at k
    exact k
  have hm2 := mdmul_any (a * b / c) c hq hc
  have hsum : a * b / c * c + a * b % c = a * b := by rw [Nat.mul_comm]; exact Nat.div_add_mod _ _
  have hlow := lo_lt (a * b)
  have hhigh := hi_lt ha hb
  have hL : a * b < B256 * B256 := Nat.mul_lt_mul'' ha hb
  generalize a * b / c = q at *
  generalize a * b % c = r at *
  generalize a * b = n at *
  obtain ⟨m, hmm⟩ : ∃ m, m = q * c := ⟨_, rfl⟩
  rw [← hmm] at hm2 hsum
  have e1 := Nat.div_add_mod m B256
  have e2 := Nat.div_add_mod n B256
  have b1 := lo_lt m
  obtain ⟨x, hx⟩ : ∃ x, x = m % B256 := ⟨_, rfl⟩
  obtain ⟨y, hy⟩ : ∃ y, y = m / B256 := ⟨_, rfl⟩
  obtain ⟨l, hl⟩ : ∃ l, l = n % B256 := ⟨_, rfl⟩
  obtain ⟨h, hh⟩ : ∃ h, h = n / B256 := ⟨_, rfl⟩
  rw [← hx, ← hy] at hm2
  rw [← hl, ← hh] at hm hd
  rw [← hx, ← hy] at e1
  rw [← hl, ← hh] at e2
  rw [← hx] at b1
  rw [← hl] at hlow
  rw [← hh] at hhigh
  clear hmm hx hy hl hh
  by_cases hs : x + r < B256
  · have hyh : y = h ∧ x + r = l := by
      unfold B256 at *
      omega
    obtain ⟨rfl, hxl⟩ := hyh
    refine inv_plain a b c l y q r x hlow hhigh w hm hd hm2 ?_ hcm (fun w => awake2_any w)
    intro w
    have k := add_any x r b1 hrb w
    rw [show addR x r = l by unfold addR; rw [if_pos hs]; exact hxl, show addE x r = 0 from if_pos hs] at k
    exact k
  · have hyh : h = y + 1 ∧ l + B256 = x + r := by
      unfold B256 at *
      omega
    obtain ⟨hyh, hlx⟩ := hyh
    have hM : U (B256 - 1) = .agg #[.int .u64 18446744073709551615, .int .u64 18446744073709551615, .int .u64 18446744073709551615, .int .u64 18446744073709551615] := by
      obtain ⟨y0, y1, y2, y3⟩ := limb_of (n := B256 - 1) (x0 := 18446744073709551615) (x1 := 18446744073709551615) (x2 := 18446744073709551615) (x3 := 18446744073709551615) (by omega) (by omega) (by omega) (by omega) (by omega) (by omega) (by omega) (by omega) (by unfold B256; omega)
      rw [U, ← y0, ← y1, ← y2, ← y3]
    have B1 : B256 - 1 < B256 := by unfold B256; omega
    have s1e : subR (B256 - 1) x = B256 - 1 - x := if_pos (by omega)
    have s2e : subR r (B256 - 1 - x) = l + 1 := by unfold subR; rw [if_pos (by unfold B256 at *; omega)]; unfold B256 at *; omega
    have s3e : subR (l + 1) 1 = l := by unfold subR; rw [if_pos (by omega)]; omega
    have yb : y < B256 := by omega
    refine inv_carry a b c l h q r x y (B256 - 1 - x) (l + 1) hlow hhigh w hm hd hm2 ?_ ?_ ?_ ?_ ?_ hcm (fun w => awake2_any w)
    · intro w
      have k := add_any x r b1 hrb w
      rw [show addR x r = 0 from if_neg hs, show addE x r = 4 from if_neg hs, show U 0 = .agg #[.int .u64 0, .int .u64 0, .int .u64 0, .int .u64 0] from U_zero] at k
      exact k
    · intro w
      have k := add_any y 1 yb (small_lt (by omega)) w
      rw [show addR y 1 = h by unfold addR; rw [if_pos (by omega)]; exact hyh.symm, show addE y 1 = 0 from if_pos (by omega), U_1] at k
      exact k
    · intro w
      have k := satsub_any (B256 - 1) x B1 b1 w
      rw [s1e, hM] at k
      exact k
    · intro w
      have k := satsub_any r (B256 - 1 - x) hrb (by unfold B256 at *; omega) w
      rw [s2e] at k
      exact k
    · intro w
      have k := satsub_any (l + 1) 1 (by unfold B256 at *; omega) (small_lt (by omega)) w
      rw [s3e, U_1] at k
      exact k

set_option maxRecDepth 100000 in
theorem mulDivInverse_lifted (os : Os) (started : os.Started) (H : Type) (enc : TypeId × Value → H) :
    ReturnsInHanded {} Try.checked os 7 .any (Rows.mulDivInverseSpec.pre6 enc Try.prog Try.f7 Rows.mulDivInverseRow.domain false) (Rows.mulDivInverseSpec.post enc Try.prog Try.f7 false true false false) := by
  refine returnsInHanded_of_change (C := Try.checked) Try.own started (by kernel_rfl) Try.func7
    (ChangeSpec.witness6 (enc := enc) (C := Try.checked) false ⟨#[], #[.agg #[.int .u64 0, .int .u64 0, .int .u64 0, .int .u64 0], .agg #[.int .u64 0, .int .u64 0, .int .u64 0, .int .u64 0], .agg #[.int .u64 0, .int .u64 0, .int .u64 0, .int .u64 0]], []⟩ 8 (by kernel_rfl) (by kernel_rfl) (by kernel_rfl) (by kernel_rfl)) ?_
  intro W base args ds gs before hval0 hW hcnd _
  have hval : ∀ (j : Nat) t v, Try.f7.params[j]? = some t → args[j]? = some v → Value.okWide Try.prog W .any base t v := hval0
  have hW' := hW
  obtain ⟨p, q, hA0, hV, rfl, hfz, hnd⟩ := hW
  have hA : DataW.TrodAll enc Try.prog W 0 (fun _ => true) true Try.f7.params.toList args.toList ds p := hA0
  rw [Try.params7] at hA hval
  obtain ⟨v0, vs0, d0, ds0, p0, q0, hargs, rfl, rfl, h0, r0⟩ := trodAll_cons hA
  obtain ⟨v1, vs1, d1, ds1, p1, q1, rfl, rfl, rfl, h1, r1⟩ := trodAll_cons r0
  obtain ⟨v2, vs2, d2, ds2, p2, q2, rfl, rfl, rfl, h2, r2⟩ := trodAll_cons r1
  obtain ⟨rfl, rfl, rfl⟩ := trodAll_nil r2
  obtain ⟨rfl, rfl⟩ := trodVars_none hV
  obtain rfl : args = #[v0, v1, v2] := by cases args; simp_all
  obtain ⟨a, ha, rfl, rfl, rfl⟩ := open_U (hval 0 24 v0 rfl rfl) h0
  obtain ⟨b, hb, rfl, rfl, rfl⟩ := open_U (hval 1 24 v1 rfl rfl) h1
  obtain ⟨c, hc, rfl, rfl, rfl⟩ := open_U (hval 2 24 v2 rfl rfl) h2
  clear hA0 hval0
  simp only [List.append_nil] at hW'
  refine (inverse_law a b c ha hb hc W).mono fun e W' ⟨he, hw⟩ => ?_
  subst he
  exact ⟨_, rfl, _, _, _, [], [], [], hW', trodAll_mk1 (shut_bool Try.underlying4 _), (trodAll_cons_mk (p := []) (shut_U _ _ _ _) (trodAll_cons_mk (p := []) (shut_U _ _ _ _) (trodAll_cons_mk (p := []) (shut_U _ _ _ _) trodAll_mk0))), rfl, hw.frame _, fun h => by cases h⟩

theorem inverse_holds : Rows.MulDivInverseSaid :=
  OpenClaim.holds_of_wide 7 Try.f7 rfl rfl rfl rfl rfl rfl rfl ⟨rfl, rfl, rfl, rfl, rfl⟩ rfl rfl rfl rfl rfl (by kernel_rfl) Try.func7 (by kernel_rfl)
    (of_decide_eq_true (by kernel_rfl)) (by unfold Func.isWrapper; rw [if_neg (of_decide_eq_false (by kernel_rfl))]; exact ⟨rfl, rfl⟩)
    (fun os started H enc _ => mulDivInverse_lifted os started H enc)
#print axioms inverse_holds

end Go.Proofs.Ytahkgkcbcadnoaa
