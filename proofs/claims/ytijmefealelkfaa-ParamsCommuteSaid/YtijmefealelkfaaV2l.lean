/- The laws of layer 12 over this translation, the first half. No conditions. -/
import Derived.Test.YtijmefealelkfaaV2r
import Derived.Test.YtijmefealelkfaaSxo
import Derived.Test.YtijmefealelkfaaSxz
namespace Go.Proofs.Ytijmefealelkfaa
open Go.RowKit Sx
set_option maxRecDepth 100000

open Go.ChangeShapes Go.WideShapes Go.ChangeAt
abbrev cP (p : Par) : List Value := [.int .u64 (p 1 : Int), .int .u64 (p 2 : Int), .int .u64 (p 3 : Int), .int .u64 (limb (p 4) 0), .int .u64 (limb (p 4) 1), .int .u64 (limb (p 4) 2), .int .u64 (limb (p 4) 3), .int .u64 (p 5 : Int), .int .u64 (limb (p 6) 0), .int .u64 (limb (p 6) 1), .int .u64 (limb (p 6) 2), .int .u64 (limb (p 6) 3), .int .u64 (p 7 : Int), .int .u64 (limb (p 8) 0), .int .u64 (limb (p 8) 1), .int .u64 (limb (p 8) 2), .int .u64 (limb (p 8) 3), .int .u64 (p 9 : Int), .int .u64 (p 10 : Int), .int .u64 (p 11 : Int), .int .u64 (p 12 : Int)]
def lvP : List Leaf := List.replicate 21 (.i .u64)
theorem lvP_ok : leaves Try.prog 5 26 = some lvP := by kernel_rfl
theorem guardP : Try.prog.eqGuardType Try.prog.depth 26 = false := by kernel_rfl
theorem eqT_api_Params {xs ys : Array Value} (hx : fitL lvP xs.toList = true) (hy : fitL lvP ys.toList = true) : EqRun Try.prog 26 (.agg xs) (.agg ys) (cellsEq xs.toList ys.toList) :=
  eqRun_of lvP_ok (by omega) (.inl ⟨_, Try.underlying26⟩) guardP hx hy
theorem eqP_self (p : Par) : cellsEq (cP p) (cP p) = true := by simp [cellsEq, cellEq]
theorem neP_self (p : Par) : (!cellsEq (cP p) (cP p)) = false := by rw [eqP_self]; rfl
theorem eqi (z : Int) : (z == z) = true := by simp
theorem eqb (b : Bool) : (b == b) = true := by simp
theorem neb (b : Bool) : (b != b) = false := by simp

/-! A change, as data. -/
structure Up where
  k : Int
  n : Nat
  f : Nat
  h : Nat
instance : Inhabited Up := ⟨⟨0, 0, 0, 0⟩⟩
abbrev UV (u : Up) : Value := .agg #[.int .i64 u.k, .int .u64 (limb u.n 0), .int .u64 (limb u.n 1), .int .u64 (limb u.n 2), .int .u64 (limb u.n 3), .int .u64 (u.f : Int), .int .u8 (u.h : Int)]
def uw (u : Up) : List Value := [.int .i64 u.k, .int .u64 (limb u.n 0), .int .u64 (limb u.n 1), .int .u64 (limb u.n 2), .int .u64 (limb u.n 3), .int .u64 (u.f : Int), .int .u8 (u.h : Int)]
structure UpOk (u : Up) : Prop where
  n : u.n < B256
  f : u.f < 18446744073709551616
def shN (f : Nat) : Int := IntKind.u64.wrap (1 * 2 ^ (min ((f : Int).tmod 64).toNat 64))
def valN (u : Up) : Nat := if u.h % 6 = 0 then u.n else if u.h % 6 = 1 then u.f else if u.h % 6 = 2 then u.f % 30000 else if u.h % 6 = 3 then (shN u.f).toNat else if u.h % 6 = 4 then (IntKind.u64.wrap (shN u.f + 1)).toNat else u.f % 3
theorem toN_w (z : Int) : (IntKind.u64.wrap z).toNat < 18446744073709551616 := by have := u64_nonneg z; omega
theorem valN_lt {u : Up} (h : UpOk u) : valN u < B256 := by
  have hf := h.f
  unfold valN
  split
  · exact h.n
  split
  · exact lt_B hf
  split
  · exact lt_B (by omega)
  split
  · exact lt_B (toN_w _)
  split
  · exact lt_B (toN_w _)
  · exact lt_B (by omega)
theorem w4_U {n : Nat} (h : n < 18446744073709551616) : w4 n = U n := (U_word n h).symm
theorem w4_z (z : Int) : Value.agg #[.int .u64 (IntKind.u64.wrap z), .int .u64 0, .int .u64 0, .int .u64 0] = U (IntKind.u64.wrap z).toNat := by
  have h := u64_nonneg z
  rw [← w4_U (toN_w z), w4, Int.toNat_of_nonneg h.1]
theorem vt {x : Nat} {c : Int} (h : ((x : Int).tmod 6 == c) = true) : ((x % 6 : Nat) : Int) = c := eq_of_beq (a := ((x % 6 : Nat) : Int)) h
theorem vf {x : Nat} {c : Int} (h : ((x : Int).tmod 6 == c) = false) : ((x % 6 : Nat) : Int) ≠ c := ne_of_beq_false (a := ((x % 6 : Nat) : Int)) h
section
variable {u : Up}
theorem val_0 (h0 : ((u.h : Int).tmod 6 == 0) = true) : U u.n = U (valN u) := by
  have h := vt h0
  rw [valN, if_pos (by omega)]
theorem val_1 (hu : UpOk u) (h1 : ((u.h : Int).tmod 6 == 1) = true) : w4 u.f = U (valN u) := by
  have h := vt h1
  rw [valN, if_neg (by omega), if_pos (by omega), w4_U hu.f]
theorem val_2 (h1 : ((u.h : Int).tmod 6 == 2) = true) : w4 (u.f % 30000) = U (valN u) := by
  have h := vt h1
  rw [valN, if_neg (by omega), if_neg (by omega), if_pos (by omega), w4_U (by omega)]
theorem val_3 (h1 : ((u.h : Int).tmod 6 == 3) = true) : Value.agg #[.int .u64 (shN u.f), .int .u64 0, .int .u64 0, .int .u64 0] = U (valN u) := by
  have h := vt h1
  rw [valN, if_neg (by omega), if_neg (by omega), if_neg (by omega), if_pos (by omega)]
  exact w4_z _
theorem val_4 (h1 : ((u.h : Int).tmod 6 == 4) = true) : Value.agg #[.int .u64 (IntKind.u64.wrap (shN u.f + 1)), .int .u64 0, .int .u64 0, .int .u64 0] = U (valN u) := by
  have h := vt h1
  rw [valN, if_neg (by omega), if_neg (by omega), if_neg (by omega), if_neg (by omega), if_pos (by omega)]
  exact w4_z _
theorem val_5 (h0 : ((u.h : Int).tmod 6 == 0) = false) (h1 : ((u.h : Int).tmod 6 == 1) = false) (h2 : ((u.h : Int).tmod 6 == 2) = false) (h3 : ((u.h : Int).tmod 6 == 3) = false) (h4 : ((u.h : Int).tmod 6 == 4) = false) : w4 (u.f % 3) = U (valN u) := by
  have a0 := vf h0
  have a1 := vf h1
  have a2 := vf h2
  have a3 := vf h3
  have a4 := vf h4
  rw [valN, if_neg (by omega), if_neg (by omega), if_neg (by omega), if_neg (by omega), if_neg (by omega), w4_U (by omega)]
end
theorem sh_nn (f : Nat) : (0 : Int) ≤ (f : Int).tmod 64 := Int.natCast_nonneg (f % 64)
theorem aw_a : (setE gen 7 10001 == 15) = true := by decide +kernel
theorem aw_b : (((fi zerP : Nat) : Int) == 1) = true := by decide +kernel
theorem aw_c : (((fi gen : Nat) : Int) == 0) = true := by decide +kernel
theorem aw_d : Value.bool (((gen 12 : Nat) : Int) == 65536) = .bool true := congrArg Value.bool (by decide +kernel : (((gen 12 : Nat) : Int) == 65536) = true)
theorem p_first0 : Det Try.prog 10 [.agg (List.replicate 21 (Value.int .u64 0)).toArray] (.int .i64 ((fi zerP : Nat) : Int)) := by
  rw [PV_0]; exact p_first zerP zer_wf
theorem p_setw {p : Par} (hp : PWf p) (k : Int) (n : Nat) (hn : n < 18446744073709551616) : Det Try.prog 18 [PV p, .int .i64 k, w4 n] (setVV p k n) := by
  rw [w4_U hn]; exact p_set p hp k n (lt_B hn)

/-! Slices of changes. -/
def parL (l : List Nat) : Par := fun k => l.getD k 0
def lvUp : List Leaf := [.i .i64, .i .u64, .i .u64, .i .u64, .i .u64, .i .u64, .i .u8]
theorem lvUp_ok : leaves Try.prog 4 37 = some lvUp := by kernel_rfl
theorem up_def : UpOk default := ⟨B256_pos, by decide⟩
structure Ups where
  o : Option Addr
  n : Nat
  cap : Nat
  l : List Up
  L : Facts
  hl : l.length = n
  hs : 0 < n → o.isSome = true
  hb : ∀ i, UpOk (l.getD i default)
  h : ∀ w, Sx.Holds w L → ∀ i, i < n → ∃ b k, (o.getD ⟨0, 0, none⟩).add (i * 7) = ⟨b, k, none⟩ ∧ World.rangeAt w b k (uw (l.getD i default))
abbrev Ups.v (y : Ups) : Value := .slice y.o y.n y.cap
theorem Ups.idx (y : Ups) {i : Int} (h0 : 0 ≤ i) (h1 : i < y.n) : idxOk y.o i y.n := by
  have := y.hs (by omega)
  cases e : y.o with
  | none => rw [e] at this; cases this
  | some a => exact ⟨h0, h1⟩
theorem Ups.load (y : Ups) {j : Int} (i : Nat) (e : j = i) (hi : i < y.n) {A : Facts} (hA : Sub y.L A) : ∀ w, Sx.Holds w A → (loadVar 37 ((y.o.getD ⟨0, 0, none⟩).add (j.toNat * 7))).run Try.prog w = .ok (UV (y.l.getD i default)) w := by
  intro w hw
  subst e
  obtain ⟨b, k, h1, h2⟩ := y.h w (hA.holds hw) i hi
  rw [Int.toNat_natCast, h1]
  exact run_loadVar_mid w b k _ _ _ h2 Try.underlying37 rfl (by kernel_rfl)
theorem Ups.key (y : Ups) {j : Int} (i : Nat) (e : j = i) (hi : i < y.n) {A : Facts} (hA : Sub y.L A) : ∀ w, Sx.Holds w A → (loadVar 3 (((y.o.getD ⟨0, 0, none⟩).add (j.toNat * 7)).add 0)).run Try.prog w = .ok (.int .i64 (y.l.getD i default).k) w := by
  intro w hw
  subst e
  obtain ⟨b, k, h1, h2⟩ := y.h w (hA.holds hw) i hi
  rw [Int.toNat_natCast, h1]
  have hc : w.cell? ⟨b, k, none⟩ = some (.int .i64 (y.l.getD i default).k) := by have := h2 0 _ rfl; simpa using this
  have e0 : (⟨b, k, none⟩ : Addr).add 0 = ⟨b, k, none⟩ := by rw [add_none]; rfl
  rw [e0]
  simp [loadVar, Try.isAgg3, run_load, hc]
section
variable {H : Type} {enc : TypeId × Value → H} {W : World} {base : Nat} {sp : Nat → Bool} {held : Bool}
set_option maxRecDepth 100000 in
theorem told_up {cs : List Value} (h : Told lvUp cs) : ∃ d : Up, UpOk d ∧ cs = uw d := by
  obtain ⟨k, q1, rfl, _, h1⟩ := told_i h
  obtain ⟨n, q2, hn, rfl, h2⟩ := told_u h1
  obtain ⟨f, q3, rfl, wf, h3⟩ := told_i h2
  obtain ⟨x, q4, rfl, wx, h4⟩ := told_i h3
  obtain rfl := told_nil h4
  obtain ⟨f, rfl⟩ := Int.eq_ofNat_of_zero_le (word_of_wf wf).1
  obtain ⟨x, rfl⟩ := Int.eq_ofNat_of_zero_le (byte_of_wf wx).1
  exact ⟨⟨k, n, f, x⟩, ⟨hn, by have := (word_of_wf wf).2; show f < _; omega⟩, rfl⟩
set_option maxRecDepth 100000 in
theorem openUp {r : Reach} {b : Nat} {v : Value} {d : DataW H} {p : List MemPlace} (hv : Value.okWide Try.prog W r b 37 v) (h : DataW.Trod enc Try.prog W base sp held 37 v d p) : ∃ u : Up, UpOk u ∧ v = UV u ∧ p = [] := by
  obtain ⟨cs, rfl, ht, rfl⟩ := open_plain lvUp_ok (.inl ⟨_, Try.underlying37⟩) hv h
  obtain ⟨u, hu, rfl⟩ := told_up ht
  exact ⟨u, hu, rfl, rfl⟩
set_option maxRecDepth 100000 in
theorem told_par {cs : List Value} (h : Told lvP cs) : ∃ p : Par, PWf p ∧ cs = cP p := by
  obtain ⟨a1, q1, rfl, w1, h1⟩ := told_i h
  obtain ⟨a2, q2, rfl, w2, h2⟩ := told_i h1
  obtain ⟨a3, q3, rfl, w3, h3⟩ := told_i h2
  obtain ⟨a4, q4, n4, rfl, h4⟩ := told_u h3
  obtain ⟨a5, q5, rfl, w5, h5⟩ := told_i h4
  obtain ⟨a6, q6, n6, rfl, h6⟩ := told_u h5
  obtain ⟨a7, q7, rfl, w7, h7⟩ := told_i h6
  obtain ⟨a8, q8, n8, rfl, h8⟩ := told_u h7
  obtain ⟨a9, q9, rfl, w9, h9⟩ := told_i h8
  obtain ⟨a10, q10, rfl, w10, h10⟩ := told_i h9
  obtain ⟨a11, q11, rfl, w11, h11⟩ := told_i h10
  obtain ⟨a12, q12, rfl, w12, h12⟩ := told_i h11
  obtain rfl := told_nil h12
  obtain ⟨a1, rfl⟩ := Int.eq_ofNat_of_zero_le (word_of_wf w1).1
  obtain ⟨a2, rfl⟩ := Int.eq_ofNat_of_zero_le (word_of_wf w2).1
  obtain ⟨a3, rfl⟩ := Int.eq_ofNat_of_zero_le (word_of_wf w3).1
  obtain ⟨a5, rfl⟩ := Int.eq_ofNat_of_zero_le (word_of_wf w5).1
  obtain ⟨a7, rfl⟩ := Int.eq_ofNat_of_zero_le (word_of_wf w7).1
  obtain ⟨a9, rfl⟩ := Int.eq_ofNat_of_zero_le (word_of_wf w9).1
  obtain ⟨a10, rfl⟩ := Int.eq_ofNat_of_zero_le (word_of_wf w10).1
  obtain ⟨a11, rfl⟩ := Int.eq_ofNat_of_zero_le (word_of_wf w11).1
  obtain ⟨a12, rfl⟩ := Int.eq_ofNat_of_zero_le (word_of_wf w12).1
  have z1 := (word_of_wf w1).2
  have z2 := (word_of_wf w2).2
  have z3 := (word_of_wf w3).2
  have z5 := (word_of_wf w5).2
  have z7 := (word_of_wf w7).2
  have z9 := (word_of_wf w9).2
  have z10 := (word_of_wf w10).2
  have z11 := (word_of_wf w11).2
  have z12 := (word_of_wf w12).2
  have hpos := B256_pos
  have key : ∀ k, parL [0, a1, a2, a3, a4, a5, a6, a7, a8, a9, a10, a11, a12] k < B256 ∧ (k ≠ 4 → k ≠ 6 → k ≠ 8 → parL [0, a1, a2, a3, a4, a5, a6, a7, a8, a9, a10, a11, a12] k < 18446744073709551616) := by
    intro k
    rcases (by omega : k = 0 ∨ k = 1 ∨ k = 2 ∨ k = 3 ∨ k = 4 ∨ k = 5 ∨ k = 6 ∨ k = 7 ∨ k = 8 ∨ k = 9 ∨ k = 10 ∨ k = 11 ∨ k = 12 ∨ 13 ≤ k) with rfl | rfl | rfl | rfl | rfl | rfl | rfl | rfl | rfl | rfl | rfl | rfl | rfl | h
    · exact ⟨hpos, fun _ _ _ => (by decide : 0 < 18446744073709551616)⟩
    · exact ⟨lt_B (n := a1) (by omega), fun _ _ _ => show a1 < 18446744073709551616 by omega⟩
    · exact ⟨lt_B (n := a2) (by omega), fun _ _ _ => show a2 < 18446744073709551616 by omega⟩
    · exact ⟨lt_B (n := a3) (by omega), fun _ _ _ => show a3 < 18446744073709551616 by omega⟩
    · exact ⟨n4, fun e => absurd rfl e⟩
    · exact ⟨lt_B (n := a5) (by omega), fun _ _ _ => show a5 < 18446744073709551616 by omega⟩
    · exact ⟨n6, fun _ e => absurd rfl e⟩
    · exact ⟨lt_B (n := a7) (by omega), fun _ _ _ => show a7 < 18446744073709551616 by omega⟩
    · exact ⟨n8, fun _ _ e => absurd rfl e⟩
    · exact ⟨lt_B (n := a9) (by omega), fun _ _ _ => show a9 < 18446744073709551616 by omega⟩
    · exact ⟨lt_B (n := a10) (by omega), fun _ _ _ => show a10 < 18446744073709551616 by omega⟩
    · exact ⟨lt_B (n := a11) (by omega), fun _ _ _ => show a11 < 18446744073709551616 by omega⟩
    · exact ⟨lt_B (n := a12) (by omega), fun _ _ _ => show a12 < 18446744073709551616 by omega⟩
    · have e : parL [0, a1, a2, a3, a4, a5, a6, a7, a8, a9, a10, a11, a12] k = 0 := by unfold parL List.getD; rw [List.getElem?_eq_none (by simpa using h)]; rfl
      rw [e]
      exact ⟨hpos, fun _ _ _ => by decide⟩
  exact ⟨parL [0, a1, a2, a3, a4, a5, a6, a7, a8, a9, a10, a11, a12], ⟨fun k => (key k).1, fun k => (key k).2, rfl⟩, rfl⟩
set_option maxRecDepth 100000 in
theorem openPar {r : Reach} {b : Nat} {v : Value} {d : DataW H} {p : List MemPlace} (hv : Value.okWide Try.prog W r b 26 v) (h : DataW.Trod enc Try.prog W base sp held 26 v d p) : ∃ q : Par, PWf q ∧ v = PV q ∧ p = [] := by
  obtain ⟨cs, rfl, ht, rfl⟩ := open_plain lvP_ok (.inl ⟨_, Try.underlying26⟩) hv h
  obtain ⟨q, hq, rfl⟩ := told_par ht
  exact ⟨q, hq, rfl, rfl⟩
set_option maxRecDepth 100000 in
theorem openUps {r : Reach} {b : Nat} {v : Value} {d : DataW H} {p : List MemPlace} (hv : Value.okWide Try.prog W r b 35 v) (h : DataW.Trod enc Try.prog W base sp held 35 v d p) :
    ∃ y : Ups, v = y.v ∧ Sx.Holds W y.L := by
  obtain ⟨A, n, c, rfl⟩ := okWide_slice Try.underlying35 hv
  obtain ⟨fuel, hf⟩ := h
  have h4 : Try.prog.cellsOf 37 = 7 := by kernel_rfl
  rcases Deep.open_slice Try.underlying35 hf with ⟨hcs, _⟩ | ⟨a, len, cap, m, k, D, Pl, hcs, hb, hlc, hcm, hm, _, hi⟩
  · simp [Value.cells] at hcs
    obtain ⟨rfl, rfl, rfl⟩ := hcs
    exact ⟨⟨none, 0, 0, [], [], rfl, fun h => absurd h (by omega), fun _ => up_def, fun _ _ i hi => by omega⟩, rfl, fun _ h => by cases h⟩
  · simp [Value.cells] at hcs
    obtain ⟨rfl, rfl, rfl⟩ := hcs
    rw [h4] at hi
    have hnm : n ≤ m := by rw [hm]; split <;> omega
    have key : ∀ i, ∃ x : Up, UpOk x ∧ (i < n → ∀ j u, (uw x)[j]? = some u → W.cell? ((a.add (i * 7)).add j) = some u) := fun i => by
      by_cases hin : i < n
      · obtain ⟨cs', h1, h2⟩ := hi i (by omega)
        obtain ⟨_, hcl, hat⟩ := World.cells?_some h1
        obtain ⟨ht, _⟩ := told_leaves 4 _ _ lvUp_ok _ cs' _ h2
        obtain ⟨x, hx, rfl⟩ := told_up ht
        refine ⟨x, hx, fun _ j u hj => ?_⟩
        have hj4 : j < 7 := (List.getElem?_eq_some_iff.1 hj).1
        rw [hat j hj4]
        exact hj
      · exact ⟨default, up_def, fun h => absurd h hin⟩
    obtain ⟨f, hfk⟩ := Classical.axiomOfChoice key
    have hbd : ∀ i, UpOk (((List.range n).map f).getD i default) := fun i => by
      by_cases hin : i < n
      · have e : ((List.range n).map f).getD i default = f i := by simp [List.getD, hin]
        rw [e]; exact (hfk i).1
      · have e : ((List.range n).map f).getD i default = default := by simp [List.getD, hin]
        rw [e]; exact up_def
    by_cases h0 : n = 0
    · subst h0
      exact ⟨⟨some a, 0, c, [], [], rfl, fun _ => rfl, fun _ => up_def, fun _ _ i hi => by omega⟩, rfl, fun _ h => by cases h⟩
    · have h00 : W.cell? ((a.add (0 * 7)).add 0) = some (.int .i64 (f 0).k) := (hfk 0).2 (by omega) 0 _ rfl
      have hsp : a.spot = none := by
        have := spot_of_cell h00
        rw [Nat.zero_mul] at this
        simpa [Addr.add] using this
      have hlt : a.block < W.heap.size := by
        have := World.block_lt_of_cell? W _ h00
        rwa [add_block, add_block] at this
      refine ⟨⟨some a, n, c, (List.range n).map f, [(a.block, W.heap[a.block])], by simp, fun _ => rfl, hbd, fun w' hw' i hi => ⟨a.block, a.off + i * 7, ?_, fun j u hj => ?_⟩⟩, rfl, ?_⟩
      · exact add_off hsp _
      · have e : ((List.range n).map f).getD i default = f i := by simp [List.getD, hi]
        rw [e] at hj
        have := (hfk i).2 hi j u hj
        rw [add_off hsp, add_off rfl] at this
        rw [World.cell?_of_block (w := W) (by show w'.heap[a.block]? = _; rw [hw' _ (List.mem_singleton.2 rfl)]; simp [hlt])]
        exact this
      · intro q hq; simp only [List.mem_singleton] at hq; subst hq; simp [hlt]
end
def parI (x : Int) : Prop := -1 ≤ x ∧ x ≤ 15
theorem il_t {i n : Nat} (h : decide ((i : Int) < (n : Int)) = true) : i < n := by have := of_decide_eq_true h; omega
theorem gt40_f {n : Nat} (h : decide ((n : Int) > 40) = false) : n ≤ 40 := by have := of_decide_eq_false h; omega
/-- The keys that ParamsValidity goes through. -/
abbrev VX : Type := { k : Int // -1 ≤ k ∧ k ≤ 15 }
def vx0 : VX := ⟨-1, by decide, by decide⟩
theorem vx_nx (x : VX) (h : decide (x.1 < 15) = true) : -1 ≤ x.1 + 1 ∧ x.1 + 1 ≤ 15 := by have := of_decide_eq_true h; have := x.2; omega
def vxN (x : VX) (h : decide (x.1 < 15) = true) : VX := ⟨x.1 + 1, vx_nx x h⟩
theorem vx_w (x : VX) : IntKind.i64.wrap (x.1 + 1) = x.1 + 1 := by
  have h := x.2
  simp [IntKind.wrap, IntKind.bits, IntKind.signed]
  omega
theorem vx_mu (x : VX) (h : decide (x.1 < 15) = true) : (15 - (x.1 + 1)).toNat < (15 - x.1).toNat := by have := of_decide_eq_true h; have := x.2; omega
/-- ParamsSet: so many changes done, and the parameters reached. -/
structure SX (n : Nat) where
  i : Nat
  p : Par
  hi : i ≤ n
  hp : PWf p
def sx0 (n : Nat) : SX n := ⟨0, gen, Nat.zero_le _, gen_wf⟩
def SX.same {n : Nat} (x : SX n) (h : x.i < n) : SX n := ⟨x.i + 1, x.p, h, x.hp⟩
def SX.put {n : Nat} (x : SX n) (h : x.i < n) (k : Int) (m : Nat) : SX n := ⟨x.i + 1, setR x.p k m, h, setR_wf x.hp k m⟩
theorem good_pontagelaw12_awake : Good Try.prog 16 Try.f16 0 := ⟨Try.func16, by kernel_rfl, by kernel_rfl⟩
theorem good_pontagelaw12_value : Good Try.prog 19 Try.f19 1 := ⟨Try.func19, by kernel_rfl, by kernel_rfl⟩
theorem good_pontagelaw12_ParamsValidity : Good Try.prog 3 Try.f3 2 := ⟨Try.func3, by kernel_rfl, by kernel_rfl⟩
theorem good_pontagelaw12_ParamsSet : Good Try.prog 4 Try.f4 2 := ⟨Try.func4, by kernel_rfl, by kernel_rfl⟩
theorem good_pontagelaw12_ParamsRanges : Good Try.prog 5 Try.f5 2 := ⟨Try.func5, by kernel_rfl, by kernel_rfl⟩
theorem good_pontagelaw12_ParamsSetGet : Good Try.prog 6 Try.f6 2 := ⟨Try.func6, by kernel_rfl, by kernel_rfl⟩
theorem good_pontagelaw12_ParamsCommute : Good Try.prog 7 Try.f7 2 := ⟨Try.func7, by kernel_rfl, by kernel_rfl⟩
theorem p_val (u : Up) (hu : UpOk u) : Det Try.prog 19 [UV u] (U (valN u)) :=
  det_of_vc Try.mixed good_pontagelaw12_value (O := [.both [] [.both [] [.both [] [.both [] [.both [] []]]]]]) fun _ => ⟨⟨by decide, rfl⟩, ⟨fun h0 => ⟨(), val_0 h0, nofun⟩, fun h0 => ⟨fun h1 => ⟨(), val_1 hu h1, nofun⟩, fun h1 => ⟨fun h2 => ⟨⟨by decide, rfl⟩, ⟨(), val_2 h2, nofun⟩⟩, fun h2 => ⟨fun h3 => ⟨⟨by decide, rfl⟩, ⟨sh_nn u.f, ⟨(), val_3 h3, nofun⟩⟩⟩, fun h3 => ⟨fun h4 => ⟨⟨by decide, rfl⟩, ⟨sh_nn u.f, ⟨(), val_4 h4, nofun⟩⟩⟩, fun h4 => ⟨⟨by decide, rfl⟩, ⟨(), val_5 h0 h1 h2 h3 h4, nofun⟩⟩⟩⟩⟩⟩⟩⟩
theorem aw12  : Det Try.prog 16 [] (.bool true) :=
  det_of_vc Try.mixed good_pontagelaw12_awake (O := [.reg [(0, det (PV gen)), (2, det (setVV gen 7 10001))], .reg [(3, .yes), (4, det (.int .i64 ((fi zerP : Nat) : Int))), (5, .yes), (6, .yes), (8, det (PV gen)), (9, det (.bool (((fi gen : Nat) : Int) == 0))), (10, .yes), (12, det (PV gen)), (13, .yes), (14, .yes), (15, .yes)]]) fun _ => ⟨p_gen _, fun _ => ⟨p_setw gen_wf 7 10001 (by decide) _, fun _ => ⟨gtt aw_a, ⟨⟨gtt aw_a, p_first0 _⟩, fun _ => ⟨gtt aw_a, ⟨aw_a, ⟨⟨gtt aw_b, p_gen _⟩, fun _ => ⟨⟨gtt aw_b, p_valid gen gen_wf _⟩, fun _ => ⟨aw_b, ⟨⟨gtt aw_c, p_gen _⟩, fun _ => ⟨gtt aw_c, ⟨gtt aw_c, ⟨aw_c, ⟨(), aw_d, nofun⟩⟩⟩⟩⟩⟩⟩⟩⟩⟩⟩⟩⟩⟩
theorem val_law (p : Par) (hp : PWf p) (key : Int) : Det Try.prog 3 [PV p, .int .i64 key] (.bool true) :=
  det_of_vc Try.mixed good_pontagelaw12_ParamsValidity (O := [.inv (VX) (fun x : VX => ⟨75, [(1, .v (.int .i64 key) []), (2, .p 0 0), (5, .v (.int .i64 x.1) [])], [(0, ⟨26, cP p, []⟩)], 190⟩) (fun x => (15 - x.1).toNat) (fun x => [.both [.reg [(2, det (getV p (x.1)))], .reg [(2, det (getV p (x.1)))], .reg [(4, .yes), (5, .yes), (6, .yes), (7, .no)], .no] [.reg [(2, det (getV p (key)))], .reg [(2, det (getV p (key)))], .reg [(1, det (.int .i64 ((fi p : Nat) : Int))), (3, det (.int .i64 ((fi p : Nat) : Int))), (6, .yes), (7, det (.bool (((fi p : Nat) : Int) == 0))), (8, .yes), (9, det (.bool (((fi p : Nat) : Int) == 0))), (10, .yes), (11, .yes), (13, .yes), (14, .yes), (15, .yes), (16, .yes), (18, det (PV gen)), (19, det (PV gen)), (20, .yes), (21, .yes), (23, det (.bool true)), (24, .yes)]]])]) fun _ => ⟨⟨vx0, rfl, ⟨⟨rfl, nofun⟩, ⟨rfl, rfl, rfl⟩, ⟨rfl, nofun⟩, trivial⟩, ⟨⟨rfl, rfl, nofun⟩, trivial⟩⟩, fun x => ⟨fun _h => ⟨p_get p hp (x.1) _, fun _ => ⟨r_get p hp (x.1) _, fun _ => ⟨eqT_api_Uint256 rfl rfl, ⟨gff (neU_self _), ⟨gff (neU_self _), ⟨gff (neU_self _), ⟨(neU_self _), ⟨(ne_self _), ⟨vxN x _h, vx_mu x _h, rfl, ⟨⟨rfl, nofun⟩, ⟨rfl, rfl, rfl⟩, ⟨congrArg _ (vx_w x), nofun⟩, trivial⟩, ⟨⟨rfl, rfl, nofun⟩, trivial⟩⟩⟩⟩⟩⟩⟩⟩⟩⟩, fun _h => ⟨p_get p hp (key) _, fun _ => ⟨r_get p hp (key) _, fun _ => ⟨p_first p hp _, fun _ => ⟨r_first p hp _, fun _ => ⟨gtt (eqi _), ⟨⟨gtt (eqi _), p_valid p hp _⟩, fun _ => ⟨gtt (eqi _), ⟨⟨gtt (eqi _), r_valid p hp _⟩, fun _ => ⟨gtt (eqi _), ⟨(eqi _), ⟨gtt (eqb _), ⟨gtt (eqb _), ⟨gtt (eqb _), ⟨(eqb _), ⟨⟨gtt (eqi _), p_gen _⟩, fun _ => ⟨⟨gtt (eqi _), r_gen _⟩, fun _ => ⟨⟨gtt (eqi _), eqT_api_Params rfl rfl⟩, ⟨(eqi _), ⟨⟨gtt (eqP_self _), aw12 _⟩, fun _ => ⟨(eqP_self _), ⟨(), rfl, nofun⟩⟩⟩⟩⟩⟩⟩⟩⟩⟩⟩⟩⟩⟩⟩⟩⟩⟩⟩⟩⟩⟩⟩
set_option maxHeartbeats 4000000 in
theorem set_law (y : Ups) (p : Par) (hp : PWf p) (A : Facts) (hy : Sub y.L A) : Gives Try.prog 4 [y.v, PV p] A (Unit) (fun _ => .bool true) (fun _ => []) :=
  gives_of_vcF Try.mixed good_pontagelaw12_ParamsSet (args := [(y.v, y.L), (PV p, [])]) (B := A) (O := [.both [.reg [(0, det (.bool true))]] [.reg [(0, det (PV gen))], .inv (SX y.n) (fun x : SX y.n => ⟨103, [(0, .v y.v y.L), (3, .p 0 0), (5, .p 6 0), (6, .v (.int .i64 ((x.i : Nat) : Int)) [])], [(0, ⟨26, cP p, []⟩), (6, ⟨26, cP x.p, []⟩)], 190⟩) (fun x => y.n - x.i) (fun x => [.both [.opt 7 [(4, .ld (.int .i64 (y.l.getD x.i default).k))], .both [.reg [(1, det (.int .i64 ((modI (y.l.getD x.i default).k 14 : Nat) : Int)))], .reg [(5, .ld (UV (y.l.getD x.i default))), (6, det (U (valN (y.l.getD x.i default)))), (7, det (setVV x.p (((modI (y.l.getD x.i default).k 14 : Nat) : Int)) (valN (y.l.getD x.i default))))], .reg [(5, .ld (UV (y.l.getD x.i default))), (6, det (U (valN (y.l.getD x.i default)))), (7, det (setVV x.p (((modI (y.l.getD x.i default).k 14 : Nat) : Int)) (valN (y.l.getD x.i default))))], .reg [(5, .ld (UV (y.l.getD x.i default))), (6, det (U (valN (y.l.getD x.i default)))), (7, det (setVV p (((modI (y.l.getD x.i default).k 14 : Nat) : Int)) (valN (y.l.getD x.i default))))], .reg [(5, .ld (UV (y.l.getD x.i default))), (6, det (U (valN (y.l.getD x.i default)))), (7, det (setVV p (((modI (y.l.getD x.i default).k 14 : Nat) : Int)) (valN (y.l.getD x.i default))))], .reg [(4, .yes), (5, .yes), (6, .yes), (7, .no), (9, .yes), (10, .yes), (11, .yes), (12, .no), (14, .yes), (15, .yes), (16, .yes), (17, .no)], .no, .both [] []] [.reg [(5, .ld (UV (y.l.getD x.i default))), (6, det (U (valN (y.l.getD x.i default)))), (7, det (setVV x.p ((y.l.getD x.i default).k) (valN (y.l.getD x.i default))))], .reg [(5, .ld (UV (y.l.getD x.i default))), (6, det (U (valN (y.l.getD x.i default)))), (7, det (setVV x.p ((y.l.getD x.i default).k) (valN (y.l.getD x.i default))))], .reg [(5, .ld (UV (y.l.getD x.i default))), (6, det (U (valN (y.l.getD x.i default)))), (7, det (setVV p ((y.l.getD x.i default).k) (valN (y.l.getD x.i default))))], .reg [(5, .ld (UV (y.l.getD x.i default))), (6, det (U (valN (y.l.getD x.i default)))), (7, det (setVV p ((y.l.getD x.i default).k) (valN (y.l.getD x.i default))))], .reg [(4, .yes), (5, .yes), (6, .yes), (7, .no), (9, .yes), (10, .yes), (11, .yes), (12, .no), (14, .yes), (15, .yes), (16, .yes), (17, .no)], .no, .both [] []]] [.reg [(0, det (.bool true))]]])]]) (.app ((.refl _)) (.app (hy) (.app (.nil _) (.nil _)))) (⟨fun h0 => ⟨aw12 _, fun _ => ⟨(), rfl, nofun⟩⟩, fun h0 => ⟨r_gen _, fun _ => ⟨⟨sx0 y.n, rfl, ⟨⟨rfl, fun _ h => h⟩, ⟨rfl, rfl, rfl⟩, ⟨rfl, rfl, rfl⟩, ⟨rfl, nofun⟩, trivial⟩, ⟨⟨rfl, rfl, nofun⟩, ⟨rfl, rfl, nofun⟩, trivial⟩⟩, fun x => ⟨fun h => ⟨y.idx (Int.natCast_nonneg _) (Int.ofNat_lt.2 (il_t h)), ⟨y.key x.i rfl (il_t h) (by intro q h; simp [h]), ⟨⟨by decide, rfl⟩, ⟨fun h4 => ⟨mod_raw (y.l.getD x.i default).k 14 (by decide) (by decide) _, fun _ => ⟨y.idx (Int.natCast_nonneg _) (Int.ofNat_lt.2 (il_t h)), ⟨y.load x.i rfl (il_t h) (by intro q h; simp [h]), ⟨p_val (y.l.getD x.i default) (y.hb x.i) _, fun _ => ⟨p_set x.p x.hp (((modI (y.l.getD x.i default).k 14 : Nat) : Int)) (valN (y.l.getD x.i default)) (valN_lt (y.hb x.i)) _, fun _ => ⟨y.idx (Int.natCast_nonneg _) (Int.ofNat_lt.2 (il_t h)), ⟨y.load x.i rfl (il_t h) (by intro q h; simp [h]), ⟨p_val (y.l.getD x.i default) (y.hb x.i) _, fun _ => ⟨r_set x.p x.hp (((modI (y.l.getD x.i default).k 14 : Nat) : Int)) (valN (y.l.getD x.i default)) (valN_lt (y.hb x.i)) _, fun _ => ⟨y.idx (Int.natCast_nonneg _) (Int.ofNat_lt.2 (il_t h)), ⟨y.load x.i rfl (il_t h) (by intro q h; simp [h]), ⟨p_val (y.l.getD x.i default) (y.hb x.i) _, fun _ => ⟨p_set p hp (((modI (y.l.getD x.i default).k 14 : Nat) : Int)) (valN (y.l.getD x.i default)) (valN_lt (y.hb x.i)) _, fun _ => ⟨y.idx (Int.natCast_nonneg _) (Int.ofNat_lt.2 (il_t h)), ⟨y.load x.i rfl (il_t h) (by intro q h; simp [h]), ⟨p_val (y.l.getD x.i default) (y.hb x.i) _, fun _ => ⟨r_set p hp (((modI (y.l.getD x.i default).k 14 : Nat) : Int)) (valN (y.l.getD x.i default)) (valN_lt (y.hb x.i)) _, fun _ => ⟨eqT_api_Params rfl rfl, ⟨gff (neP_self _), ⟨gff (neP_self _), ⟨gff (neP_self _), ⟨(neP_self _), ⟨gff (ne_self _), ⟨gff (ne_self _), ⟨⟨gff (ne_self _), eqT_api_Params rfl rfl⟩, ⟨(ne_self _), ⟨gff (neP_self _), ⟨gff (neP_self _), ⟨gff (neP_self _), ⟨(neP_self _), ⟨(ne_self _), ⟨fun h5 => ⟨x.put (il_t h) (((modI (y.l.getD x.i default).k 14 : Nat) : Int)) (valN (y.l.getD x.i default)), by have := il_t h; show y.n - (x.i + 1) < y.n - x.i; omega, rfl, ⟨⟨rfl, fun _ h => h⟩, ⟨rfl, rfl, rfl⟩, ⟨rfl, rfl, rfl⟩, ⟨congrArg _ (inc1 (by have := x.hi; have := gt40_f h0; omega)), nofun⟩, trivial⟩, ⟨⟨rfl, rfl, nofun⟩, ⟨rfl, rfl, nofun⟩, trivial⟩⟩, fun h5 => ⟨x.same (il_t h), by have := il_t h; show y.n - (x.i + 1) < y.n - x.i; omega, rfl, ⟨⟨rfl, fun _ h => h⟩, ⟨rfl, rfl, rfl⟩, ⟨rfl, rfl, rfl⟩, ⟨congrArg _ (inc1 (by have := x.hi; have := gt40_f h0; omega)), nofun⟩, trivial⟩, ⟨⟨rfl, rfl, nofun⟩, ⟨rfl, rfl, nofun⟩, trivial⟩⟩⟩⟩⟩⟩⟩⟩⟩⟩⟩⟩⟩⟩⟩⟩⟩⟩⟩⟩⟩⟩⟩⟩⟩⟩⟩⟩⟩⟩⟩⟩⟩⟩, fun h4 => ⟨y.idx (Int.natCast_nonneg _) (Int.ofNat_lt.2 (il_t h)), ⟨y.load x.i rfl (il_t h) (by intro q h; simp [h]), ⟨p_val (y.l.getD x.i default) (y.hb x.i) _, fun _ => ⟨p_set x.p x.hp ((y.l.getD x.i default).k) (valN (y.l.getD x.i default)) (valN_lt (y.hb x.i)) _, fun _ => ⟨y.idx (Int.natCast_nonneg _) (Int.ofNat_lt.2 (il_t h)), ⟨y.load x.i rfl (il_t h) (by intro q h; simp [h]), ⟨p_val (y.l.getD x.i default) (y.hb x.i) _, fun _ => ⟨r_set x.p x.hp ((y.l.getD x.i default).k) (valN (y.l.getD x.i default)) (valN_lt (y.hb x.i)) _, fun _ => ⟨y.idx (Int.natCast_nonneg _) (Int.ofNat_lt.2 (il_t h)), ⟨y.load x.i rfl (il_t h) (by intro q h; simp [h]), ⟨p_val (y.l.getD x.i default) (y.hb x.i) _, fun _ => ⟨p_set p hp ((y.l.getD x.i default).k) (valN (y.l.getD x.i default)) (valN_lt (y.hb x.i)) _, fun _ => ⟨y.idx (Int.natCast_nonneg _) (Int.ofNat_lt.2 (il_t h)), ⟨y.load x.i rfl (il_t h) (by intro q h; simp [h]), ⟨p_val (y.l.getD x.i default) (y.hb x.i) _, fun _ => ⟨r_set p hp ((y.l.getD x.i default).k) (valN (y.l.getD x.i default)) (valN_lt (y.hb x.i)) _, fun _ => ⟨eqT_api_Params rfl rfl, ⟨gff (neP_self _), ⟨gff (neP_self _), ⟨gff (neP_self _), ⟨(neP_self _), ⟨gff (ne_self _), ⟨gff (ne_self _), ⟨⟨gff (ne_self _), eqT_api_Params rfl rfl⟩, ⟨(ne_self _), ⟨gff (neP_self _), ⟨gff (neP_self _), ⟨gff (neP_self _), ⟨(neP_self _), ⟨(ne_self _), ⟨fun h5 => ⟨x.put (il_t h) ((y.l.getD x.i default).k) (valN (y.l.getD x.i default)), by have := il_t h; show y.n - (x.i + 1) < y.n - x.i; omega, rfl, ⟨⟨rfl, fun _ h => h⟩, ⟨rfl, rfl, rfl⟩, ⟨rfl, rfl, rfl⟩, ⟨congrArg _ (inc1 (by have := x.hi; have := gt40_f h0; omega)), nofun⟩, trivial⟩, ⟨⟨rfl, rfl, nofun⟩, ⟨rfl, rfl, nofun⟩, trivial⟩⟩, fun h5 => ⟨x.same (il_t h), by have := il_t h; show y.n - (x.i + 1) < y.n - x.i; omega, rfl, ⟨⟨rfl, fun _ h => h⟩, ⟨rfl, rfl, rfl⟩, ⟨rfl, rfl, rfl⟩, ⟨congrArg _ (inc1 (by have := x.hi; have := gt40_f h0; omega)), nofun⟩, trivial⟩, ⟨⟨rfl, rfl, nofun⟩, ⟨rfl, rfl, nofun⟩, trivial⟩⟩⟩⟩⟩⟩⟩⟩⟩⟩⟩⟩⟩⟩⟩⟩⟩⟩⟩⟩⟩⟩⟩⟩⟩⟩⟩⟩⟩⟩⟩⟩⟩⟩⟩⟩⟩, fun h => ⟨aw12 _, fun _ => ⟨(), rfl, nofun⟩⟩⟩⟩⟩⟩)
end Go.Proofs.Ytijmefealelkfaa

