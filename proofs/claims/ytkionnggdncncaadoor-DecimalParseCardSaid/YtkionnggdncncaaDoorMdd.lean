/- Contracts of muldiv's estimateDigit and divideDigit over this translation: an estimate that is never less than the digit; the digit and the rest of a division by a number whose highest bit is set. Memory that was there is as it was. -/
import Derived.Test.YtkionnggdncncaaDoorMdb
import Derived.Test.YtkionnggdncncaaDoorMdc
namespace Go.Proofs.YtkionnggdncncaaDoor
open Go.RowKit

/-- An estimate that is never less than the digit. -/
def Est (r c q : Nat) : Prop := q < 18446744073709551616 ∧ ∀ n, n < 18446744073709551616 → (r * 18446744073709551616 + n) / c ≤ q

theorem est_top {r c : Nat} (h : r < c) : Est r c 18446744073709551615 := by
  refine ⟨by omega, fun n hn => ?_⟩
  have h1 : (r * 18446744073709551616 + n) / c < 18446744073709551616 := by
    rw [Nat.div_lt_iff_lt_mul (by omega)]
    have : (r + 1) * 18446744073709551616 ≤ c * 18446744073709551616 := Nat.mul_le_mul_right _ h
    omega
  omega
theorem est_quo {r c r3 r2 c3 : Nat} (hc : c3 * 6277101735386680763835789423207666416102355444464034512896 ≤ c) (h3 : 0 < c3) (hr : r < (r3 * 18446744073709551616 + r2 + 1) * 340282366920938463463374607431768211456) (h : r3 < c3) (h2 : r2 < 18446744073709551616) :
    Est r c ((r3 * 18446744073709551616 + r2) / c3) := by
  refine ⟨?_, fun n hn => ?_⟩
  · rw [Nat.div_lt_iff_lt_mul h3]
    have : (r3 + 1) * 18446744073709551616 ≤ c3 * 18446744073709551616 := Nat.mul_le_mul_right _ h
    omega
  · obtain ⟨Q, hQ⟩ : ∃ q, q = (r * 18446744073709551616 + n) / c := ⟨_, rfl⟩
    rw [← hQ, Nat.le_div_iff_mul_le h3]
    have e1 : Q * c ≤ r * 18446744073709551616 + n := by rw [hQ]; exact Nat.div_mul_le_self _ _
    have e2 : Q * (c3 * 6277101735386680763835789423207666416102355444464034512896) ≤ Q * c := Nat.mul_le_mul_left _ hc
    rw [← Nat.mul_assoc] at e2
    generalize Q * c3 = z at *
    generalize Q * c = y at *
    omega

set_option maxHeartbeats 400000 in
theorem ed_top (r0 r1 r2 r3 c0 c1 c2 c3 : Int) (w : World) (h : c3 ≤ r3) :
    Calls Tryd.prog 80 #[.agg #[.int .u64 r0, .int .u64 r1, .int .u64 r2, .int .u64 r3], .agg #[.int .u64 c0, .int .u64 c1, .int .u64 c2, .int .u64 c3]] w fun e w' =>
      e = .returned (.int .u64 18446744073709551615) ∧ Below w.heap.size w w' := by
  go_enter Tryd.func80, Tryd.ntmps80
  go_wp2
  go_ret
  refine ⟨rfl, ?_⟩
  go_grown

set_option maxHeartbeats 400000 in
theorem ed_quo (r0 r1 r2 r3 c0 c1 c2 c3 q : Int) (w : World) (h : ¬ c3 ≤ r3)
    (C : ∀ w, Calls Tryd.prog 87 #[.int .u64 r3, .int .u64 r2, .int .u64 c3] w fun e w' => (∃ r : Int, e = .returned (.tuple #[.int .u64 q, .int .u64 r])) ∧ Below w.heap.size w w') :
    Calls Tryd.prog 80 #[.agg #[.int .u64 r0, .int .u64 r1, .int .u64 r2, .int .u64 r3], .agg #[.int .u64 c0, .int .u64 c1, .int .u64 c2, .int .u64 c3]] w fun e w' =>
      e = .returned (.int .u64 q) ∧ Below w.heap.size w w' := by
  have HC := Lib.hid C
  clear C
  go_enter Tryd.func80, Tryd.ntmps80
  go_wp2_with (go_at_call 87; refine (HC.out _).mono ?_; rintro e w2 ⟨⟨r, rfl⟩, hw⟩)
  go_ret
  refine ⟨rfl, ?_⟩
  exact Below.trans (by go_grown) (hw.mono (by simp; omega))

theorem ed_any (r c : Nat) (hr : r < c) (hc : c < B256) (h : 57896044618658097711785492504343953926634992332820282019728792003956564819968 ≤ c) (w : World) :
    Calls Tryd.prog 80 #[U r, U c] w fun e w' => ∃ q : Nat, Est r c q ∧ e = .returned (.int .u64 (q : Int)) ∧ Below w.heap.size w w' := by
  have A := limb_sum (Nat.lt_trans hr hc)
  have C := limb_sum hc
  have a0 := limb_nonneg r 0; have a1 := limb_nonneg r 1; have a2 := limb_nonneg r 2; have a3 := limb_nonneg r 3
  have b0 := limb_nonneg c 0; have b1 := limb_nonneg c 1; have b2 := limb_nonneg c 2; have b3 := limb_nonneg c 3
  have a0' := limb_lt r 0; have a1' := limb_lt r 1; have a2' := limb_lt r 2; have a3' := limb_lt r 3
  have b0' := limb_lt c 0; have b1' := limb_lt c 1; have b2' := limb_lt c 2; have b3' := limb_lt c 3
  by_cases hh : limb c 3 ≤ limb r 3
  · exact (ed_top _ _ _ _ _ _ _ _ w hh).mono fun e w' k => ⟨18446744073709551615, est_top hr, k.1, k.2⟩
  · obtain ⟨R3, e3⟩ := Int.eq_ofNat_of_zero_le a3
    obtain ⟨R2, e2⟩ := Int.eq_ofNat_of_zero_le a2
    obtain ⟨C3, f3⟩ := Int.eq_ofNat_of_zero_le b3
    refine (ed_quo _ _ _ _ _ _ _ _ (((R3 * 18446744073709551616 + R2) / C3 : Nat) : Int) w hh ?_).mono fun e w' k => ⟨(R3 * 18446744073709551616 + R2) / C3, est_quo ?_ ?_ ?_ ?_ ?_, k.1, k.2⟩
    · rw [e3, e2, f3]
      exact div64_any R3 R2 C3 (by omega) (by omega) (by omega) (by omega)
    all_goals omega

/-! ### divideDigit -/
/-- The difference is negative. -/
def neg (N c q : Nat) : Bool := decide (N < c * q)
/-- The five cells of a number. -/
abbrev five (n : Nat) : Array Value := #[.int .u64 (limb n 0), .int .u64 (limb n 1), .int .u64 (limb n 2), .int .u64 (limb n 3), .int .u64 (limb n 4)]
theorem Res.put5 {g : Nat} {t : TypeId} {c0 c1 c2 c3 c4 : Value} {w : World} (h : Res g t #[c0, c1, c2, c3, c4] w) (x0 x1 x2 x3 x4 : Value) :
    Res g t #[x0, x1, x2, x3, x4] (((((w.setCell ⟨g, 0, none⟩ x0).setCell ⟨g, 1, none⟩ x1).setCell ⟨g, 2, none⟩ x2).setCell ⟨g, 3, none⟩ x3).setCell ⟨g, 4, none⟩ x4) :=
  ((((h.setw 0 x0).setw 1 x1).setw 2 x2).setw 3 x3).setw 4 x4
theorem Res.far5 {g g' : Nat} {t : TypeId} {c : Array Value} {w : World} (h : Res g t c w) (x0 x1 x2 x3 x4 : Value) (hg : g ≠ g') :
    Res g t c (((((w.setCell ⟨g', 0, none⟩ x0).setCell ⟨g', 1, none⟩ x1).setCell ⟨g', 2, none⟩ x2).setCell ⟨g', 3, none⟩ x3).setCell ⟨g', 4, none⟩ x4) := by
  unfold Res at h ⊢
  rw [Below.heap_setCell _ _ _ _ hg, Below.heap_setCell _ _ _ _ hg, Below.heap_setCell _ _ _ _ hg, Below.heap_setCell _ _ _ _ hg, Below.heap_setCell _ _ _ _ hg]; exact h
theorem dd_step {N c q p : Nat} (h : neg N c q = true) (hp : q = p + 1) (hc : c < B256) (hq : q < 18446744073709551616) :
    (subW N (c * q) + c) % B320 = subW N (c * p) ∧ decide (B320 ≤ subW N (c * q) + c) = !neg N c p := by
  subst hp
  have h1 : N < c * (p + 1) := by simpa [neg] using h
  have h2 : c * (p + 1) ≤ 115792089237316195423570985008687907853269984665640564039457584007913129639936 * 18446744073709551616 := Nat.mul_le_mul (by unfold B256 at hc; omega) (by omega)
  unfold neg subW
  rw [if_pos h1]
  rw [Nat.mul_add, Nat.mul_one] at *
  unfold B320
  unfold B256 at hc
  generalize c * p = z at *
  by_cases h3 : N < z
  · rw [if_pos h3, decide_eq_true h3]
    refine ⟨by omega, ?_⟩
    rw [decide_eq_false (by omega)]; rfl
  · rw [if_neg h3, decide_eq_false h3]
    refine ⟨by omega, ?_⟩
    rw [decide_eq_true (by omega)]; rfl
theorem dd_end {N c q : Nat} (h : neg N c q = false) (hq : N / c ≤ q) (hc : 0 < c) : q = N / c ∧ subW N (c * q) = N % c := by
  have h1 : ¬ N < c * q := by simpa [neg] using h
  have h2 : q ≤ N / c := by rw [Nat.le_div_iff_mul_le hc, Nat.mul_comm]; omega
  have h3 : q = N / c := Nat.le_antisymm h2 hq
  refine ⟨h3, ?_⟩
  unfold subW
  rw [if_neg h1, h3]
  have := Nat.div_add_mod N c
  omega
theorem subW_lt {N m : Nat} (hN : N < B320) : subW N m < B320 := by
  unfold subW; split <;> omega

set_option maxRecDepth 100000 in
set_option maxHeartbeats 4000000 in
theorem dd_core (r n c N quo rem : Nat) (w : World) (hquo : quo = N / c) (hrem : rem = N % c) (hc0 : 0 < c)
    (ce : Hid (∀ w, Calls Tryd.prog 80 #[U r, U c] w fun e w' => ∃ q : Nat, (q < 18446744073709551616 ∧ quo ≤ q) ∧ e = .returned (.int .u64 (q : Int)) ∧ Below w.heap.size w w'))
    (cs : Hid (∀ (q : Nat) (w : World), q < 18446744073709551616 → Calls Tryd.prog 81 #[U r, .int .u64 (n : Int), U c, .int .u64 (q : Int)] w fun e w' =>
      e = .returned (.tuple #[W5 (subW N (c * q)), .bool (neg N c q)]) ∧ Below w.heap.size w w'))
    (ca : Hid (∀ (q p : Nat) (w : World), neg N c q = true → q = p + 1 → q < 18446744073709551616 → Calls Tryd.prog 82 #[W5 (subW N (c * q)), U c] w fun e w' =>
      e = .returned (.tuple #[W5 (subW N (c * p)), .bool (!neg N c p)]) ∧ Below w.heap.size w w')) :
    Calls Tryd.prog 68 #[U r, .int .u64 (n : Int), U c] w fun e w' => e = .returned (.tuple #[.int .u64 (quo : Int), U rem]) ∧ Below w.heap.size w w' := by
  have HQ := Lib.hid hquo
  have HR := Lib.hid hrem
  have ar : ∀ (a : Option Addr) (c : Nat) (w : World), (Instr.arrayAt 24 (.slice a 4 c)).run Tryd.prog w = .ok (.pointer a) w := fun a c w => run_arrayAt w 24 22 4 a 4 c Tryd.underlying24 (by omega)
  clear hquo hrem
  have rA : Res (w.heap.size) 24 (arr r) (((w.alloc (.cells (arr r) 24)).alloc (.cells (arr c) 24)).alloc (.cells #[.int .u64 0, .int .u64 0, .int .u64 0, .int .u64 0] 24)) := ((Res.new w 24 (arr r)).alloc _).alloc _
  have rC : Res (w.heap.size + 1) 24 (arr c) (((w.alloc (.cells (arr r) 24)).alloc (.cells (arr c) 24)).alloc (.cells #[.int .u64 0, .int .u64 0, .int .u64 0, .int .u64 0] 24)) := by
    have h := (Res.new (w.alloc (.cells (arr r) 24)) 24 (arr c)).alloc (.cells #[.int .u64 0, .int .u64 0, .int .u64 0, .int .u64 0] 24)
    rw [World.size_alloc] at h
    exact h
  have rO : Res (w.heap.size + 1 + 1) 24 #[.int .u64 0, .int .u64 0, .int .u64 0, .int .u64 0] (((w.alloc (.cells (arr r) 24)).alloc (.cells (arr c) 24)).alloc (.cells #[.int .u64 0, .int .u64 0, .int .u64 0, .int .u64 0] 24)) := by
    have h := Res.new ((w.alloc (.cells (arr r) 24)).alloc (.cells (arr c) 24)) 24 #[.int .u64 0, .int .u64 0, .int .u64 0, .int .u64 0]
    rw [World.size_alloc, World.size_alloc] at h
    exact h
  have bb : Below w.heap.size w (((w.alloc (.cells (arr r) 24)).alloc (.cells (arr c) 24)).alloc (.cells #[.int .u64 0, .int .u64 0, .int .u64 0, .int .u64 0] 24)) := by go_grown
  go_enter Tryd.func68, Tryd.ntmps68
  go_wp2_with fail
  with_reducible refine (ce.out _).mono ?_
  rintro e w1 ⟨q, ⟨hq, hle⟩, rfl, h1⟩
  replace rA := rA.keep h1
  replace rC := rC.keep h1
  replace rO := rO.keep h1
  replace bb := chain bb h1
  have zA := rA.cells; have lA := rA.lt
  have zC := rC.cells; have lC := rC.lt
  have HB := Lib.hid hq
  have HE := Lib.hid hle
  clear hq hle
  go_wp2_with fail
  with_reducible refine (cs.out q _ HB.out).mono ?_
  rintro e w2 ⟨rfl, h2⟩
  clear zA lA zC lC rA
  replace rC := rC.keep h2
  replace rO := rO.keep h2
  replace bb := chain bb h2
  have rD := Res.new w2 123 (five (subW N (c * q)))
  have rC2 := rC.alloc (.cells (five (subW N (c * q))) 123)
  have rO2 := rO.alloc (.cells (five (subW N (c * q))) 123)
  have bD : Below w.heap.size w (w2.alloc (.cells (five (subW N (c * q))) 123)) := bb.alloc bb.size _
  have lG : w.heap.size + 1 + 1 < w2.heap.size := rO.lt
  have sG := bb.size
  clear rC rO h1 h2
  go_wp2
  generalize hg : w2.heap.size = G at *
  go_loopw [8, 10, 11] (fun d ng _ wr => ∃ k : Nat, d = .int .u64 (k : Int) ∧ ng = .bool (neg N c k) ∧ Hid (k < 18446744073709551616) ∧ Hid (quo ≤ k) ∧ Res G 123 (five (subW N (c * k))) wr ∧ Res (w.heap.size + 1) 24 (arr c) wr ∧ Res (w.heap.size + 1 + 1) 24 #[.int .u64 0, .int .u64 0, .int .u64 0, .int .u64 0] wr ∧ Below w.heap.size w wr) (fun d _ _ _ => (intOf d).toNat)
  case atStart => exact ⟨q, rfl, rfl, HB, HE, rD, rC2, rO2, bD⟩
  case round =>
    clear rD rC2 rO2 bD bb hg HB HE
    obtain ⟨k, rfl, rfl, HB, HE, rD, rC, rO, bb⟩ := hrel
    cases hk : neg N c k
    case true =>
      obtain ⟨p, hp⟩ : ∃ p, k = p + 1 := by
        rcases k with _ | p
        · exact absurd hk (by simp [neg])
        · exact ⟨p, rfl⟩
      have cp : IntKind.u64.wrap ((k : Int) - 1) = (p : Int) := by have := HB.out; rw [IntKind.wrap_u64]; omega
      have HP := Lib.hid hp
      have HK := Lib.hid hk
      have zC := rC.cells; have lC := rC.lt
      have zD := rD.cells; have lD := rD.lt
      clear hp hk
      go_wp2_with fail
      with_reducible refine (ca.out k p _ HK.out HP.out HB.out).mono ?_
      rintro e w3 ⟨rfl, h3⟩
      clear zC lC zD lD
      replace rD := rD.keep h3
      replace rC := rC.keep h3
      replace rO := rO.keep h3
      replace bb := chain bb h3
      have zD := rD.cells; have lD := rD.lt; have mD := rD.marks
      have hlt : quo < k := by
        have h := HK.out
        rw [HQ.out]
        exact Nat.div_lt_of_lt_mul (by simpa [neg] using h)
      have hkp := HP.out
      have hkb := HB.out
      have HB2 : Hid (p < 18446744073709551616) := (by omega : p < 18446744073709551616)
      have HE2 : Hid (quo ≤ p) := (by omega : quo ≤ p)
      have HM : Hid (p < k) := (by omega : p < k)
      clear hlt hkp hkb
      go_wp2
      refine ⟨⟨p, rfl, rfl, HB2, HE2, rD.put5 _ _ _ _ _, rC.far5 _ _ _ _ _ (by omega), rO.far5 _ _ _ _ _ (by omega), ?_⟩, ?_⟩
      · exact ((((bb.setCell sG _).setCell sG _).setCell sG _).setCell sG _).setCell sG _
      · simp [intOf]; exact HM.out
    case false =>
      obtain ⟨e1, e2⟩ := dd_end hk (by rw [← HQ.out]; exact HE.out) hc0
      rw [e2, ← HR.out] at rD
      rw [← HQ.out] at e1
      subst e1
      have zD := rD.cells; have lD := rD.lt
      have zO := rO.cells; have lO := rO.lt; have mO := rO.marks
      clear hk e2 HB HE HQ HR ce cs ca rC rO rD
      go_wp2
      go_region
      go_wp2
      refine bodyPost_ret (v := .tuple #[.int .u64 (k : Int), U rem]) (by simp [results, Tryd.results68, go_sem, zO]) rfl ⟨rfl, ?_⟩
      go_grown

theorem dd_any (r n c : Nat) (hr : r < c) (hc : c < B256) (h : 57896044618658097711785492504343953926634992332820282019728792003956564819968 ≤ c) (hn : n < 18446744073709551616) (w : World) :
    Calls Tryd.prog 68 #[U r, .int .u64 (n : Int), U c] w fun e w' =>
      e = .returned (.tuple #[.int .u64 (((r * 18446744073709551616 + n) / c : Nat) : Int), U ((r * 18446744073709551616 + n) % c)]) ∧ Below w.heap.size w w' := by
  have hN : r * 18446744073709551616 + n < B320 := by unfold B320; unfold B256 at hc; omega
  refine dd_core r n c _ _ _ w rfl rfl (by omega) ?_ ?_ ?_
  · intro w
    exact (ed_any r c hr hc h w).mono fun e w' ⟨q, k, k1, k2⟩ => ⟨q, ⟨k.1, k.2 n hn⟩, k1, k2⟩
  · intro q w hq
    exact sm_any r n c q (Nat.lt_trans hr hc) hn hc hq w
  · intro q p w h1 h2 h3
    obtain ⟨k1, k2⟩ := dd_step h1 h2 hc h3
    have k := aw_any (subW (r * 18446744073709551616 + n) (c * q)) c (subW_lt hN) hc w
    rw [k1, k2] at k
    exact k

end Go.Proofs.YtkionnggdncncaaDoor

