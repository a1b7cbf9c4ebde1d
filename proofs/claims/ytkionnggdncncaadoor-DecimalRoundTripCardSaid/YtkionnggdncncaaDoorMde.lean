/- Contract of muldiv.divide over this translation: quotient and remainder of low + 2^256 * high by c, for high below c. Memory that was there is as it was. -/
import Derived.Test.YtkionnggdncncaaDoorMda
import Derived.Test.YtkionnggdncncaaDoorMdd
import Derived.Test.YtkionnggdncncaaDoorUc
import Derived.Laws.CopyRow
namespace Go.Proofs.YtkionnggdncncaaDoor
open Go.RowKit

/-- The eight words of a number. -/
abbrev row8 (n : Nat) : Array Value := #[.int .u64 (limb n 0), .int .u64 (limb n 1), .int .u64 (limb n 2), .int .u64 (limb n 3), .int .u64 (limb n 4), .int .u64 (limb n 5), .int .u64 (limb n 6), .int .u64 (limb n 7)]
theorem shl4 (g n s : Nat) (t : TypeId) (w : World) (hs : s ≤ 256) (h : Res g t (arr n) w) :
    Calls Tryd.prog 67 #[.slice (some ⟨g, 0, none⟩) 4 4, .int .i64 (s : Int)] w fun e w' =>
      e = .returned (.tuple #[]) ∧ Res g t (arr (n * 2 ^ s)) w' ∧ Only g w w' := shl_any g 4 n s t w (by omega) hs h
theorem shl8 (g n s : Nat) (t : TypeId) (w : World) (hs : s ≤ 256) (h : Res g t (row8 n) w) :
    Calls Tryd.prog 67 #[.slice (some ⟨g, 0, none⟩) 8 8, .int .i64 (s : Int)] w fun e w' =>
      e = .returned (.tuple #[]) ∧ Res g t (row8 (n * 2 ^ s)) w' ∧ Only g w w' := shl_any g 8 n s t w (by omega) hs h
theorem shr4 (g n s : Nat) (t : TypeId) (w : World) (hn : n < B256) (hs : s ≤ 256) (h : Res g t (arr n) w) :
    Calls Tryd.prog 69 #[.slice (some ⟨g, 0, none⟩) 4 4, .int .i64 (s : Int)] w fun e w' =>
      e = .returned (.tuple #[]) ∧ Res g t (arr (n / 2 ^ s)) w' ∧ Only g w w' := shr_any g 4 n s t w (by omega) hn hs h

theorem join_limbs (low high : Nat) :
    limb (low + high * B256) 0 = limb low 0 ∧ limb (low + high * B256) 1 = limb low 1 ∧ limb (low + high * B256) 2 = limb low 2 ∧ limb (low + high * B256) 3 = limb low 3 := by
  unfold B256 at *
  simp only [limb0, limb1, limb2, limb3]
  omega
theorem high_limbs (n : Nat) : limb n 4 = limb (n / B256) 0 ∧ limb n 5 = limb (n / B256) 1 ∧ limb n 6 = limb (n / B256) 2 ∧ limb n 7 = limb (n / B256) 3 := by
  have e : ∀ i, limb n (4 + i) = limb (n / B256) i := fun i => by
    unfold limb
    rw [Nat.pow_add, Nat.div_div_eq_div_mul]
    rfl
  exact ⟨e 0, e 1, e 2, e 3⟩
theorem join_high (low high : Nat) (hl : low < B256) : (low + high * B256) / B256 = high := by
  rw [Nat.add_mul_div_right _ _ B256_pos, Nat.div_eq_of_lt hl, Nat.zero_add]
theorem row8_join (low high : Nat) (hl : low < B256) :
    #[.int .u64 (limb low 0), .int .u64 (limb low 1), .int .u64 (limb low 2), .int .u64 (limb low 3), .int .u64 (limb high 0), .int .u64 (limb high 1), .int .u64 (limb high 2), .int .u64 (limb high 3)] = row8 (low + high * B256) := by
  obtain ⟨a0, a1, a2, a3⟩ := join_limbs low high
  obtain ⟨b0, b1, b2, b3⟩ := high_limbs (low + high * B256)
  rw [join_high low high hl] at b0 b1 b2 b3
  rw [row8, a0, a1, a2, a3, b0, b1, b2, b3]
/-- The eight words of a number, the upper four as those of the upper half. -/
abbrev row44 (n m : Nat) : Array Value := #[.int .u64 (limb n 0), .int .u64 (limb n 1), .int .u64 (limb n 2), .int .u64 (limb n 3), .int .u64 (limb m 0), .int .u64 (limb m 1), .int .u64 (limb m 2), .int .u64 (limb m 3)]
theorem row8_high (n m : Nat) (h : m = n / B256) : row8 n = row44 n m := by
  subst h
  obtain ⟨b0, b1, b2, b3⟩ := high_limbs n
  rw [row8, b0, b1, b2, b3]
/-- What is left of n by d behind the digits from k on. -/
def rk (n d k : Nat) : Nat := n / 18446744073709551616 ^ k % d
/-- The quotient's words from k on. -/
def qF (q k : Nat) : Nat → Int := fun j => if j < k then 0 else limb q j
theorem qF_set (q k L : Nat) : (wrow (qF q (k + 1)) L).setIfInBounds k (.int .u64 (limb q k)) = wrow (qF q k) L :=
  wrow_set (by simp [qF]) fun i _ hne => by
    unfold qF
    by_cases h : i < k
    · rw [if_pos h, if_pos (by omega)]
    · rw [if_neg h, if_neg (by omega)]
theorem qF_top (q : Nat) : wrow (qF q 4) 4 = #[.int .u64 0, .int .u64 0, .int .u64 0, .int .u64 0] := rfl
theorem qF_zero (q : Nat) : wrow (qF q 0) 4 = arr q := by
  rw [show wrow (qF q 0) 4 = wrow (limb q) 4 from wrow_congr fun j _ => by simp [qF]]
  rfl
theorem row44_get {n m j : Nat} (h : j < 4) : (row44 n m)[j]? = some (.int .u64 (limb n j)) := by
  match j, h with
  | 0, _ => rfl
  | 1, _ => rfl
  | 2, _ => rfl
  | 3, _ => rfl
theorem Res.put4' {g : Nat} {t : TypeId} {c0 c1 c2 c3 : Value} {w : World} (h : Res g t #[c0, c1, c2, c3] w) (x0 x1 x2 x3 : Value) :
    Res g t #[x0, x1, x2, x3] ((((w.setCell ⟨g, 0, none⟩ x0).setCell ⟨g, 1, none⟩ x1).setCell ⟨g, 2, none⟩ x2).setCell ⟨g, 3, none⟩ x3) :=
  (((h.setw 0 x0).setw 1 x1).setw 2 x2).setw 3 x3
theorem Res.far1' {g g' : Nat} {t : TypeId} {c : Array Value} {w : World} (h : Res g t c w) (i : Nat) (x : Value) (hg : g ≠ g') : Res g t c (w.setCell ⟨g', i, none⟩ x) := by
  unfold Res at h ⊢
  rw [Below.heap_setCell _ _ _ _ hg]; exact h
theorem Res.far4' {g g' : Nat} {t : TypeId} {c : Array Value} {w : World} (h : Res g t c w) (x0 x1 x2 x3 : Value) (hg : g ≠ g') :
    Res g t c ((((w.setCell ⟨g', 0, none⟩ x0).setCell ⟨g', 1, none⟩ x1).setCell ⟨g', 2, none⟩ x2).setCell ⟨g', 3, none⟩ x3) :=
  (((h.far1' 0 x0 hg).far1' 1 x1 hg).far1' 2 x2 hg).far1' 3 x3 hg
theorem below5 {B : Nat} {w w' : World} (h : Below B w w') (g i : Nat) (x y0 y1 y2 y3 : Value) (hg : B ≤ g) :
    Below B w (((((w'.setCell ⟨g, i, none⟩ x).setCell ⟨g + 1, 0, none⟩ y0).setCell ⟨g + 1, 1, none⟩ y1).setCell ⟨g + 1, 2, none⟩ y2).setCell ⟨g + 1, 3, none⟩ y3) :=
  ((((h.setCell hg _).setCell (Nat.le_succ_of_le hg) _).setCell (Nat.le_succ_of_le hg) _).setCell (Nat.le_succ_of_le hg) _).setCell (Nat.le_succ_of_le hg) _
theorem only_setRow (w : World) (g : Nat) (cs : Array Value) : Only g w (w.setRow g cs) :=
  ⟨rfl, rfl, rfl, by simp [World.setRow], fun k hk => setRow_other w g k cs hk⟩
/-- Four words are copied into a row. -/
theorem copy4 (g a off cap n : Nat) (t ta : TypeId) (cur new : Array Value) (w : World) (hd : Res g t cur w) (hs : Res a ta (arr n) w) (hfit : off + 4 ≤ cur.size)
    (hnew : (cur.toList.take off ++ (arr n).toList ++ cur.toList.drop (off + (arr n).toList.length)).toArray = new) :
    ∃ w', (Builtin.copy_ #[104, 104] 3 #[.slice (some ⟨g, off, none⟩) 4 cap, .slice (some ⟨a, 0, none⟩) 4 4]).run Tryd.prog w = .ok (.int .i64 4) w' ∧ Res g t new w' ∧ Only g w w' := by
  have hinfo : (Tryd.prog.info? 22).map (·.size) = some 1 := by kernel_rfl
  refine ⟨w.setRow g new, ?_, ?_, only_setRow w g new⟩
  · have h := run_copy_row (P := Tryd.prog) w 104 104 3 22 g off 4 cap ⟨a, 0, none⟩ 4 4 cur t (arr n).toList Tryd.underlying104 hinfo hd rfl
      (fun j v hv => by
        have e := hs.cells j
        have e2 : (Addr.add ⟨a, 0, none⟩ j) = ⟨a, j, none⟩ := by simp [Addr.add]; omega
        rw [e2, e]
        simpa using hv) hfit (fun v hv => by
        simp at hv
        rcases hv with rfl | rfl | rfl | rfl <;> rfl)
    rw [hnew] at h
    exact h
  · exact setRow_heap w g _ _ t _ hd

set_option maxRecDepth 100000 in
set_option maxHeartbeats 4000000 in
theorem dvd_core (low high c s D N M quo rem : Nat) (hs : s ≤ 256) (hD' : D = c * 2 ^ s) (hN' : N = (low + high * B256) * 2 ^ s) (hM' : M = N / B256) (hl : low < B256) (w : World)
    (h4 : M = rk N D 4) (h0 : rem = rk N D 0 / 2 ^ s) (hb : rk N D 0 < B256)
    (cd : Hid (∀ (k : Nat) (w : World), k < 4 → Calls Tryd.prog 68 #[U (rk N D (k + 1)), .int .u64 (limb N k), U D] w fun e w' => e = .returned (.tuple #[.int .u64 (limb quo k), U (rk N D k)]) ∧ Below w.heap.size w w'))
    (cb : Hid (∀ w, Calls Tryd.prog 19 #[U c] w fun e w' => e = .returned (.int .i64 ((256 - s : Nat) : Int)) ∧ Below w.heap.size w w')) :
    Calls Tryd.prog 50 #[U low, U high, U c] w fun e w' => e = .returned (.tuple #[U quo, U rem]) ∧ Below w.heap.size w w' := by
  have hD := Lib.hid hD'
  have hN := Lib.hid hN'
  have hM := Lib.hid hM'
  have H4 := Lib.hid h4
  have H0 := Lib.hid h0
  clear hD' hN' hM' h4 h0
  have rL : Res (w.heap.size) 24 (arr low) (((((w.alloc (.cells (arr low) 24)).alloc (.cells (arr high) 24)).alloc (.cells (arr c) 24)).alloc (.cells #[.int .u64 0, .int .u64 0, .int .u64 0, .int .u64 0] 24)).alloc (.cells #[.int .u64 0, .int .u64 0, .int .u64 0, .int .u64 0] 24)) := by
    have h := (((((Res.new w 24 (arr low)).alloc (.cells (arr high) 24)).alloc (.cells (arr c) 24)).alloc (.cells #[.int .u64 0, .int .u64 0, .int .u64 0, .int .u64 0] 24)).alloc (.cells #[.int .u64 0, .int .u64 0, .int .u64 0, .int .u64 0] 24))
    exact h
  have rH : Res (w.heap.size + 1) 24 (arr high) (((((w.alloc (.cells (arr low) 24)).alloc (.cells (arr high) 24)).alloc (.cells (arr c) 24)).alloc (.cells #[.int .u64 0, .int .u64 0, .int .u64 0, .int .u64 0] 24)).alloc (.cells #[.int .u64 0, .int .u64 0, .int .u64 0, .int .u64 0] 24)) := by
    have h := ((((Res.new (w.alloc (.cells (arr low) 24)) 24 (arr high)).alloc (.cells (arr c) 24)).alloc (.cells #[.int .u64 0, .int .u64 0, .int .u64 0, .int .u64 0] 24)).alloc (.cells #[.int .u64 0, .int .u64 0, .int .u64 0, .int .u64 0] 24))
    simp only [World.size_alloc] at h
    exact h
  have rC : Res (w.heap.size + 1 + 1) 24 (arr c) (((((w.alloc (.cells (arr low) 24)).alloc (.cells (arr high) 24)).alloc (.cells (arr c) 24)).alloc (.cells #[.int .u64 0, .int .u64 0, .int .u64 0, .int .u64 0] 24)).alloc (.cells #[.int .u64 0, .int .u64 0, .int .u64 0, .int .u64 0] 24)) := by
    have h := (((Res.new ((w.alloc (.cells (arr low) 24)).alloc (.cells (arr high) 24)) 24 (arr c)).alloc (.cells #[.int .u64 0, .int .u64 0, .int .u64 0, .int .u64 0] 24)).alloc (.cells #[.int .u64 0, .int .u64 0, .int .u64 0, .int .u64 0] 24))
    simp only [World.size_alloc] at h
    exact h
  have rQ : Res (w.heap.size + 1 + 1 + 1) 24 #[.int .u64 0, .int .u64 0, .int .u64 0, .int .u64 0] (((((w.alloc (.cells (arr low) 24)).alloc (.cells (arr high) 24)).alloc (.cells (arr c) 24)).alloc (.cells #[.int .u64 0, .int .u64 0, .int .u64 0, .int .u64 0] 24)).alloc (.cells #[.int .u64 0, .int .u64 0, .int .u64 0, .int .u64 0] 24)) := by
    have h := ((Res.new (((w.alloc (.cells (arr low) 24)).alloc (.cells (arr high) 24)).alloc (.cells (arr c) 24)) 24 #[.int .u64 0, .int .u64 0, .int .u64 0, .int .u64 0]).alloc (.cells #[.int .u64 0, .int .u64 0, .int .u64 0, .int .u64 0] 24))
    simp only [World.size_alloc] at h
    exact h
  have rR : Res (w.heap.size + 1 + 1 + 1 + 1) 24 #[.int .u64 0, .int .u64 0, .int .u64 0, .int .u64 0] (((((w.alloc (.cells (arr low) 24)).alloc (.cells (arr high) 24)).alloc (.cells (arr c) 24)).alloc (.cells #[.int .u64 0, .int .u64 0, .int .u64 0, .int .u64 0] 24)).alloc (.cells #[.int .u64 0, .int .u64 0, .int .u64 0, .int .u64 0] 24)) := by
    have h := (Res.new ((((w.alloc (.cells (arr low) 24)).alloc (.cells (arr high) 24)).alloc (.cells (arr c) 24)).alloc (.cells #[.int .u64 0, .int .u64 0, .int .u64 0, .int .u64 0] 24)) 24 #[.int .u64 0, .int .u64 0, .int .u64 0, .int .u64 0])
    simp only [World.size_alloc] at h
    exact h
  have bb : Below w.heap.size w (((((w.alloc (.cells (arr low) 24)).alloc (.cells (arr high) 24)).alloc (.cells (arr c) 24)).alloc (.cells #[.int .u64 0, .int .u64 0, .int .u64 0, .int .u64 0] 24)).alloc (.cells #[.int .u64 0, .int .u64 0, .int .u64 0, .int .u64 0] 24)) := by go_grown
  have es : IntKind.i64.wrap (256 - ((256 - s : Nat) : Int)) = (s : Int) := by rw [IntKind.wrap_i64]; omega
  generalize hz : 256 - s = z at *
  go_enter Tryd.func50, Tryd.ntmps50
  go_wp2_with fail
  with_reducible refine (cb.out _).mono ?_
  rintro e w1 ⟨rfl, h1⟩
  replace rL := rL.keep h1
  replace rH := rH.keep h1
  replace rC := rC.keep h1
  replace rQ := rQ.keep h1
  replace rR := rR.keep h1
  replace bb := chain bb h1
  have zC := rC.cells; have lC := rC.lt
  go_wp2_with fail
  have rD := Res.new w1 24 (arr c)
  have lL := rL.lt; have lH := rH.lt; have lQ := rQ.lt; have lR := rR.lt
  with_reducible refine (shl4 w1.heap.size c s _ _ hs rD).mono ?_
  clear rD
  rintro e w2 ⟨rfl, rD, o1⟩
  rw [← hD.out] at rD
  clear zC
  replace rL := (rL.alloc _).only o1 (by omega)
  replace rH := (rH.alloc _).only o1 (by omega)
  replace rQ := (rQ.alloc _).only o1 (by omega)
  replace rR := (rR.alloc _).only o1 (by omega)
  have sz1 := o1.size
  rw [World.size_alloc] at sz1
  replace bb := (bb.alloc bb.size _).trans (o1.below bb.size)
  generalize hG1 : w1.heap.size = G1 at *
  have rE := Res.new w2 105 #[.int .u64 0, .int .u64 0, .int .u64 0, .int .u64 0, .int .u64 0, .int .u64 0, .int .u64 0, .int .u64 0]
  rw [sz1] at rE
  replace rL := rL.alloc (.cells #[.int .u64 0, .int .u64 0, .int .u64 0, .int .u64 0, .int .u64 0, .int .u64 0, .int .u64 0, .int .u64 0] 105)
  replace rH := rH.alloc (.cells #[.int .u64 0, .int .u64 0, .int .u64 0, .int .u64 0, .int .u64 0, .int .u64 0, .int .u64 0, .int .u64 0] 105)
  replace rQ := rQ.alloc (.cells #[.int .u64 0, .int .u64 0, .int .u64 0, .int .u64 0, .int .u64 0, .int .u64 0, .int .u64 0, .int .u64 0] 105)
  replace rR := rR.alloc (.cells #[.int .u64 0, .int .u64 0, .int .u64 0, .int .u64 0, .int .u64 0, .int .u64 0, .int .u64 0, .int .u64 0] 105)
  replace rD := rD.alloc (.cells #[.int .u64 0, .int .u64 0, .int .u64 0, .int .u64 0, .int .u64 0, .int .u64 0, .int .u64 0, .int .u64 0] 105)
  replace bb := bb.alloc (Nat.le_trans bb.size (Nat.le_refl _)) (.cells #[.int .u64 0, .int .u64 0, .int .u64 0, .int .u64 0, .int .u64 0, .int .u64 0, .int .u64 0, .int .u64 0] 105)
  have g5 : w.heap.size + 1 + 1 + 1 + 1 < G1 := by omega
  clear rC o1 h1 lC lL lH lQ lR
  go_wp2
  generalize w2.alloc (.cells #[.int .u64 0, .int .u64 0, .int .u64 0, .int .u64 0, .int .u64 0, .int .u64 0, .int .u64 0, .int .u64 0] 105) = w3 at *
  obtain ⟨w4, cp1, rE4, o4⟩ := copy4 (G1 + 1) w.heap.size 0 8 low _ _ _ #[.int .u64 (limb low 0), .int .u64 (limb low 1), .int .u64 (limb low 2), .int .u64 (limb low 3), .int .u64 0, .int .u64 0, .int .u64 0, .int .u64 0] w3.drew rE.drew rL.drew (by decide) rfl
  have rH4 := rH.drew.only o4 (by omega)
  have rQ4 := rQ.drew.only o4 (by omega)
  have rR4 := rR.drew.only o4 (by omega)
  have rD4 := rD.drew.only o4 (by omega)
  have bb4 : Below w.heap.size w w4 := bb.drew.trans (o4.below (by omega))
  clear rE rL rH rQ rR rD bb o4
  go_region
  obtain ⟨w5, cp2, rE5, o5⟩ := copy4 (G1 + 1) (w.heap.size + 1) 4 4 high _ _ _ #[.int .u64 (limb low 0), .int .u64 (limb low 1), .int .u64 (limb low 2), .int .u64 (limb low 3), .int .u64 (limb high 0), .int .u64 (limb high 1), .int .u64 (limb high 2), .int .u64 (limb high 3)] w4.drew rE4.drew rH4.drew (by simp) rfl
  have rQ5 := rQ4.drew.only o5 (by omega)
  have rR5 := rR4.drew.only o5 (by omega)
  have rD5 := rD4.drew.only o5 (by omega)
  have bb5 : Below w.heap.size w w5 := bb4.drew.trans (o5.below (by omega))
  rw [row8_join low high hl] at rE5
  clear rE4 rH4 rQ4 rR4 rD4 bb4 o5 cp1
  go_wp2_with fail
  go_region
  clear cp2
  go_wp2_with fail
  with_reducible refine (shl8 (G1 + 1) (low + high * B256) s _ _ hs rE5).mono ?_
  rintro e w6 ⟨rfl, rE, o6⟩
  rw [← hN.out, row8_high N M hM.out] at rE
  have rQ := rQ5.only o6 (by omega)
  have rR := rR5.only o6 (by omega)
  have rD := rD5.only o6 (by omega)
  have bb : Below w.heap.size w w6 := bb5.trans (o6.below (by omega))
  clear rE5 rQ5 rR5 rD5 bb5 o6
  have lE := rE.lt
  have zE := rE.cells
  have ar : ∀ (a : Option Addr) (c : Nat) (w : World), (Instr.arrayAt 24 (.slice a 4 c)).run Tryd.prog w = .ok (.pointer a) w := fun a c w => run_arrayAt w 24 22 4 a 4 c Tryd.underlying24 (by omega)
  have rP := Res.new w6 24 #[.int .u64 0, .int .u64 0, .int .u64 0, .int .u64 0]
  replace rP := rP.alloc (.cells (arr M) 24)
  have rM := Res.new (w6.alloc (.cells #[.int .u64 0, .int .u64 0, .int .u64 0, .int .u64 0] 24)) 24 (arr M)
  rw [World.size_alloc] at rM
  replace rE := (rE.alloc (.cells #[.int .u64 0, .int .u64 0, .int .u64 0, .int .u64 0] 24)).alloc (.cells (arr M) 24)
  replace rQ := (rQ.alloc (.cells #[.int .u64 0, .int .u64 0, .int .u64 0, .int .u64 0] 24)).alloc (.cells (arr M) 24)
  replace rR := (rR.alloc (.cells #[.int .u64 0, .int .u64 0, .int .u64 0, .int .u64 0] 24)).alloc (.cells (arr M) 24)
  replace rD := (rD.alloc (.cells #[.int .u64 0, .int .u64 0, .int .u64 0, .int .u64 0] 24)).alloc (.cells (arr M) 24)
  have sz6 := bb.size
  replace bb := (bb.alloc bb.size (.cells #[.int .u64 0, .int .u64 0, .int .u64 0, .int .u64 0] 24)).alloc (by rw [World.size_alloc]; omega) (.cells (arr M) 24)
  go_wp2
  generalize (w6.alloc (.cells #[.int .u64 0, .int .u64 0, .int .u64 0, .int .u64 0] 24)).alloc (.cells (arr M) 24) = w7 at *
  rw [H4.out] at rM
  generalize w6.heap.size = G3 at *
  go_loopw [13] (fun i wr => ∃ k : Nat, k ≤ 4 ∧ i = .int .i64 ((k : Int) - 1) ∧ Res G3 24 (wrow (qF quo k) 4) wr ∧ Res (G3 + 1) 24 (arr (rk N D k)) wr ∧ Res (G1 + 1) 105 (row44 N M) wr ∧ Res G1 24 (arr D) wr ∧ Res (w.heap.size + 1 + 1 + 1) 24 #[.int .u64 0, .int .u64 0, .int .u64 0, .int .u64 0] wr ∧ Res (w.heap.size + 1 + 1 + 1 + 1) 24 #[.int .u64 0, .int .u64 0, .int .u64 0, .int .u64 0] wr ∧ Below w.heap.size w wr) (fun i _ => (intOf i + 1).toNat)
  case atStart => exact ⟨4, Nat.le_refl _, rfl, by rw [qF_top]; exact rP, rM, rE, rD, rQ, rR, bb⟩
  case round =>
    clear rP rM rE rD rQ rR bb zE
    obtain ⟨k, hk, rfl, rP, rM, rE, rD, rQ, rR, bb⟩ := hrel
    rcases k with _ | j
    · rw [qF_zero] at rP
      go_wp2_with fail
      with_reducible refine (shr4 (G3 + 1) (rk N D 0) s _ _ hb hs rM).mono ?_
      clear rM
      rintro e w8 ⟨rfl, rM, o8⟩
      rw [← H0.out] at rM
      replace rP := rP.only o8 (by omega)
      replace rQ := rQ.only o8 (by omega)
      replace rR := rR.only o8 (by omega)
      replace bb := bb.trans (o8.below (by omega))
      have zP := rP.cells; have zM := rM.cells
      have zQ := rQ.cells; have mQ := rQ.marks; have lQ := rQ.lt
      have zR := rR.cells; have mR := rR.marks; have lR := rR.lt
      clear rE rD o8 H0 H4 hN hM hD cd
      go_wp2
      go_region
      go_wp2
      refine bodyPost_ret (v := .tuple #[U quo, U rem]) (by simp [results, Tryd.results50, go_sem, zQ, zR]) rfl ⟨rfl, ?_⟩
      go_grown
    · have hi : ((j + 1 : Nat) : Int) - 1 = (j : Int) := by omega
      rw [hi]
      have i1 : (0 : Int) ≤ (j : Int) := by omega
      have i2 : (j : Int) < 4 := by omega
      have i3 : (j : Int) < 8 := by omega
      have zE := (rE.cells j).trans (row44_get (by omega))
      have zM := rM.cells; have zD := rD.cells
      have CD := Lib.hid (fun w => cd.out j w (by omega))
      clear cd
      have cP := (rP.cells j).trans (wrow_get (by omega))
      have HP := Lib.hid rP; have HM := Lib.hid rM; have HE := Lib.hid rE; have HD := Lib.hid rD; have HQ := Lib.hid rQ; have HR := Lib.hid rR; have HB := Lib.hid bb
      clear rP rM rE rD rQ rR bb
      go_wp2
      go_region_with (first | (go_at_call 68; with_reducible refine (CD.out _).mono ?_; rintro e w8 ⟨rfl, hw⟩; have rP := HP.out.drew.keep hw; have rM := HM.out.drew.keep hw; have rE := HE.out.drew.keep hw; have rD := HD.out.drew.keep hw; have rQ := HQ.out.drew.keep hw; have rR := HR.out.drew.keep hw; have bb := chain HB.out.drew hw; have cP8 := (rP.cells j).trans (wrow_get (by omega)); have mP := rP.marks j; have zM8 := rM.cells; have mM := rM.marks; clear hw))
      all_goals
        have RP := rP.setw j (.int .u64 (limb quo j))
        rw [qF_set] at RP
        replace RP := RP.far4' (.int .u64 (limb (rk N D j) 0)) (.int .u64 (limb (rk N D j) 1)) (.int .u64 (limb (rk N D j) 2)) (.int .u64 (limb (rk N D j) 3)) (by omega : G3 ≠ G3 + 1)
        have RM := (rM.far1' j (.int .u64 (limb quo j)) (by omega : G3 + 1 ≠ G3)).put4' (.int .u64 (limb (rk N D j) 0)) (.int .u64 (limb (rk N D j) 1)) (.int .u64 (limb (rk N D j) 2)) (.int .u64 (limb (rk N D j) 3))
        have RE := (rE.far1' j (.int .u64 (limb quo j)) (by omega : G1 + 1 ≠ G3)).far4' (.int .u64 (limb (rk N D j) 0)) (.int .u64 (limb (rk N D j) 1)) (.int .u64 (limb (rk N D j) 2)) (.int .u64 (limb (rk N D j) 3)) (by omega : G1 + 1 ≠ G3 + 1)
        have RD := (rD.far1' j (.int .u64 (limb quo j)) (by omega : G1 ≠ G3)).far4' (.int .u64 (limb (rk N D j) 0)) (.int .u64 (limb (rk N D j) 1)) (.int .u64 (limb (rk N D j) 2)) (.int .u64 (limb (rk N D j) 3)) (by omega : G1 ≠ G3 + 1)
        have RQ := (rQ.far1' j (.int .u64 (limb quo j)) (by omega : w.heap.size + 1 + 1 + 1 ≠ G3)).far4' (.int .u64 (limb (rk N D j) 0)) (.int .u64 (limb (rk N D j) 1)) (.int .u64 (limb (rk N D j) 2)) (.int .u64 (limb (rk N D j) 3)) (by omega : w.heap.size + 1 + 1 + 1 ≠ G3 + 1)
        have RR := (rR.far1' j (.int .u64 (limb quo j)) (by omega : w.heap.size + 1 + 1 + 1 + 1 ≠ G3)).far4' (.int .u64 (limb (rk N D j) 0)) (.int .u64 (limb (rk N D j) 1)) (.int .u64 (limb (rk N D j) 2)) (.int .u64 (limb (rk N D j) 3)) (by omega : w.heap.size + 1 + 1 + 1 + 1 ≠ G3 + 1)
        have BB := below5 bb G3 j (.int .u64 (limb quo j)) (.int .u64 (limb (rk N D j) 0)) (.int .u64 (limb (rk N D j) 1)) (.int .u64 (limb (rk N D j) 2)) (.int .u64 (limb (rk N D j) 3)) (by omega)
        clear rP rM rE rD rQ rR bb cP8 mP zM8 mM HP HM HE HD HQ HR HB CD zE zM zD cP
        go_wp2
        go_roundw
        case rel => exact ⟨j, by omega, by go_num, RP, RM, RE, RD, RQ, RR, BB⟩
        case measure => simp [intOf]

end Go.Proofs.YtkionnggdncncaaDoor

