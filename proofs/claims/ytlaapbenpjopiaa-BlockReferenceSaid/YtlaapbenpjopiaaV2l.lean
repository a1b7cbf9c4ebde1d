/- The laws of layer 12 over this translation, the first half. No conditions. -/
import Derived.Test.YtlaapbenpjopiaaV2r
import Derived.Test.YtlaapbenpjopiaaSxo
import Derived.Test.YtlaapbenpjopiaaSxz
namespace Go.Proofs.Ytlaapbenpjopiaa
open Go.RowKit Sx
set_option maxRecDepth 100000

open Go.ChangeShapes Go.WideShapes Go.ChangeAt
abbrev cP (p : Par) : List Value := [.int .u64 (p 1 : Int), .int .u64 (p 2 : Int), .int .u64 (p 3 : Int), .int .u64 (limb (p 4) 0), .int .u64 (limb (p 4) 1), .int .u64 (limb (p 4) 2), .int .u64 (limb (p 4) 3), .int .u64 (p 5 : Int), .int .u64 (limb (p 6) 0), .int .u64 (limb (p 6) 1), .int .u64 (limb (p 6) 2), .int .u64 (limb (p 6) 3), .int .u64 (p 7 : Int), .int .u64 (limb (p 8) 0), .int .u64 (limb (p 8) 1), .int .u64 (limb (p 8) 2), .int .u64 (limb (p 8) 3), .int .u64 (p 9 : Int), .int .u64 (p 10 : Int), .int .u64 (p 11 : Int), .int .u64 (p 12 : Int)]
def lvP : List Leaf := List.replicate 21 (.i .u64)
theorem lvP_ok : leaves Try.prog 5 28 = some lvP := by kernel_rfl
theorem guardP : Try.prog.eqGuardType Try.prog.depth 28 = false := by kernel_rfl
theorem eqT_api_Params {xs ys : Array Value} (hx : fitL lvP xs.toList = true) (hy : fitL lvP ys.toList = true) : EqRun Try.prog 28 (.agg xs) (.agg ys) (cellsEq xs.toList ys.toList) :=
  eqRun_of lvP_ok (by omega) (.inl ⟨_, Try.underlying28⟩) guardP hx hy
theorem eqP_self (p : Par) : cellsEq (cP p) (cP p) = true := by simp [cellsEq, cellEq]
theorem neP_self (p : Par) : (!cellsEq (cP p) (cP p)) = false := by rw [eqP_self]; rfl
theorem eqi (z : Int) : (z == z) = true := by simp
theorem eqb (b : Bool) : (b == b) = true := by simp
theorem neb (b : Bool) : (b != b) = false := by simp

/-! A change, as data. -/
structure Up where
  k : Int
  n : Nat
  f : Nat
  h : Nat
instance : Inhabited Up := ⟨⟨0, 0, 0, 0⟩⟩
abbrev UV (u : Up) : Value := .agg #[.int .i64 u.k, .int .u64 (limb u.n 0), .int .u64 (limb u.n 1), .int .u64 (limb u.n 2), .int .u64 (limb u.n 3), .int .u64 (u.f : Int), .int .u8 (u.h : Int)]
def uw (u : Up) : List Value := [.int .i64 u.k, .int .u64 (limb u.n 0), .int .u64 (limb u.n 1), .int .u64 (limb u.n 2), .int .u64 (limb u.n 3), .int .u64 (u.f : Int), .int .u8 (u.h : Int)]
structure UpOk (u : Up) : Prop where
  n : u.n < B256
  f : u.f < 18446744073709551616
def shN (f : Nat) : Int := IntKind.u64.wrap (1 * 2 ^ (min ((f : Int).tmod 64).toNat 64))
def valN (u : Up) : Nat := if u.h % 6 = 0 then u.n else if u.h % 6 = 1 then u.f else if u.h % 6 = 2 then u.f % 30000 else if u.h % 6 = 3 then (shN u.f).toNat else if u.h % 6 = 4 then (IntKind.u64.wrap (shN u.f + 1)).toNat else u.f % 3
theorem toN_w (z : Int) : (IntKind.u64.wrap z).toNat < 18446744073709551616 := by have := u64_nonneg z; omega
theorem valN_lt {u : Up} (h : UpOk u) : valN u < B256 := by
  have hf := h.f
  unfold valN
  split
  · exact h.n
  split
  · exact lt_B hf
  split
  · exact lt_B (by omega)
  split
  · exact lt_B (toN_w _)
  split
  · exact lt_B (toN_w _)
  · exact lt_B (by omega)
theorem w4_U {n : Nat} (h : n < 18446744073709551616) : w4 n = U n := (U_word n h).symm
theorem w4_z (z : Int) : Value.agg #[.int .u64 (IntKind.u64.wrap z), .int .u64 0, .int .u64 0, .int .u64 0] = U (IntKind.u64.wrap z).toNat := by
  have h := u64_nonneg z
  rw [← w4_U (toN_w z), w4, Int.toNat_of_nonneg h.1]
theorem vt {x : Nat} {c : Int} (h : ((x : Int).tmod 6 == c) = true) : ((x % 6 : Nat) : Int) = c := eq_of_beq (a := ((x % 6 : Nat) : Int)) h
theorem vf {x : Nat} {c : Int} (h : ((x : Int).tmod 6 == c) = false) : ((x % 6 : Nat) : Int) ≠ c := ne_of_beq_false (a := ((x % 6 : Nat) : Int)) h
section
variable {u : Up}
theorem val_0 (h0 : ((u.h : Int).tmod 6 == 0) = true) : U u.n = U (valN u) := by
  have h := vt h0
  rw [valN, if_pos (by omega)]
theorem val_1 (hu : UpOk u) (h1 : ((u.h : Int).tmod 6 == 1) = true) : w4 u.f = U (valN u) := by
  have h := vt h1
  rw [valN, if_neg (by omega), if_pos (by omega), w4_U hu.f]
theorem val_2 (h1 : ((u.h : Int).tmod 6 == 2) = true) : w4 (u.f % 30000) = U (valN u) := by
  have h := vt h1
  rw [valN, if_neg (by omega), if_neg (by omega), if_pos (by omega), w4_U (by omega)]
theorem val_3 (h1 : ((u.h : Int).tmod 6 == 3) = true) : Value.agg #[.int .u64 (shN u.f), .int .u64 0, .int .u64 0, .int .u64 0] = U (valN u) := by
  have h := vt h1
  rw [valN, if_neg (by omega), if_neg (by omega), if_neg (by omega), if_pos (by omega)]
  exact w4_z _
theorem val_4 (h1 : ((u.h : Int).tmod 6 == 4) = true) : Value.agg #[.int .u64 (IntKind.u64.wrap (shN u.f + 1)), .int .u64 0, .int .u64 0, .int .u64 0] = U (valN u) := by
  have h := vt h1
  rw [valN, if_neg (by omega), if_neg (by omega), if_neg (by omega), if_neg (by omega), if_pos (by omega)]
  exact w4_z _
theorem val_5 (h0 : ((u.h : Int).tmod 6 == 0) = false) (h1 : ((u.h : Int).tmod 6 == 1) = false) (h2 : ((u.h : Int).tmod 6 == 2) = false) (h3 : ((u.h : Int).tmod 6 == 3) = false) (h4 : ((u.h : Int).tmod 6 == 4) = false) : w4 (u.f % 3) = U (valN u) := by
  have a0 := vf h0
  have a1 := vf h1
  have a2 := vf h2
  have a3 := vf h3
  have a4 := vf h4
  rw [valN, if_neg (by omega), if_neg (by omega), if_neg (by omega), if_neg (by omega), if_neg (by omega), w4_U (by omega)]
end
theorem sh_nn (f : Nat) : (0 : Int) ≤ (f : Int).tmod 64 := Int.natCast_nonneg (f % 64)
theorem aw_a : (setE gen 7 10001 == 15) = true := by decide +kernel
theorem aw_b : (((fi zerP : Nat) : Int) == 1) = true := by decide +kernel
theorem aw_c : (((fi gen : Nat) : Int) == 0) = true := by decide +kernel
theorem aw_d : Value.bool (((gen 12 : Nat) : Int) == 65536) = .bool true := congrArg Value.bool (by decide +kernel : (((gen 12 : Nat) : Int) == 65536) = true)
theorem p_first0 : Det Try.prog 50 [.agg (List.replicate 21 (Value.int .u64 0)).toArray] (.int .i64 ((fi zerP : Nat) : Int)) := by
  rw [PV_0]; exact p_first zerP zer_wf
/-! Slices of changes. -/
def parL (l : List Nat) : Par := fun k => l.getD k 0
def lvUp : List Leaf := [.i .i64, .i .u64, .i .u64, .i .u64, .i .u64, .i .u64, .i .u8]
theorem up_def : UpOk default := ⟨B256_pos, by decide⟩
structure Ups where
  o : Option Addr
  n : Nat
  cap : Nat
  l : List Up
  L : Facts
  hl : l.length = n
  hs : 0 < n → o.isSome = true
  hb : ∀ i, UpOk (l.getD i default)
  h : ∀ w, Sx.Holds w L → ∀ i, i < n → ∃ b k, (o.getD ⟨0, 0, none⟩).add (i * 7) = ⟨b, k, none⟩ ∧ World.rangeAt w b k (uw (l.getD i default))
abbrev Ups.v (y : Ups) : Value := .slice y.o y.n y.cap
theorem Ups.idx (y : Ups) {i : Int} (h0 : 0 ≤ i) (h1 : i < y.n) : idxOk y.o i y.n := by
  have := y.hs (by omega)
  cases e : y.o with
  | none => rw [e] at this; cases this
  | some a => exact ⟨h0, h1⟩
theorem Ups.key (y : Ups) {j : Int} (i : Nat) (e : j = i) (hi : i < y.n) {A : Facts} (hA : Sub y.L A) : ∀ w, Sx.Holds w A → (loadVar 3 (((y.o.getD ⟨0, 0, none⟩).add (j.toNat * 7)).add 0)).run Try.prog w = .ok (.int .i64 (y.l.getD i default).k) w := by
  intro w hw
  subst e
  obtain ⟨b, k, h1, h2⟩ := y.h w (hA.holds hw) i hi
  rw [Int.toNat_natCast, h1]
  have hc : w.cell? ⟨b, k, none⟩ = some (.int .i64 (y.l.getD i default).k) := by have := h2 0 _ rfl; simpa using this
  have e0 : (⟨b, k, none⟩ : Addr).add 0 = ⟨b, k, none⟩ := by rw [add_none]; rfl
  rw [e0]
  simp [loadVar, Try.isAgg3, run_load, hc]
section
variable {H : Type} {enc : TypeId × Value → H} {W : World} {base : Nat} {sp : Nat → Bool} {held : Bool}
set_option maxRecDepth 100000 in
theorem told_up {cs : List Value} (h : Told lvUp cs) : ∃ d : Up, UpOk d ∧ cs = uw d := by
  obtain ⟨k, q1, rfl, _, h1⟩ := told_i h
  obtain ⟨n, q2, hn, rfl, h2⟩ := told_u h1
  obtain ⟨f, q3, rfl, wf, h3⟩ := told_i h2
  obtain ⟨x, q4, rfl, wx, h4⟩ := told_i h3
  obtain rfl := told_nil h4
  obtain ⟨f, rfl⟩ := Int.eq_ofNat_of_zero_le (word_of_wf wf).1
  obtain ⟨x, rfl⟩ := Int.eq_ofNat_of_zero_le (byte_of_wf wx).1
  exact ⟨⟨k, n, f, x⟩, ⟨hn, by have := (word_of_wf wf).2; show f < _; omega⟩, rfl⟩
set_option maxRecDepth 100000 in
theorem told_par {cs : List Value} (h : Told lvP cs) : ∃ p : Par, PWf p ∧ cs = cP p := by
  obtain ⟨a1, q1, rfl, w1, h1⟩ := told_i h
  obtain ⟨a2, q2, rfl, w2, h2⟩ := told_i h1
  obtain ⟨a3, q3, rfl, w3, h3⟩ := told_i h2
  obtain ⟨a4, q4, n4, rfl, h4⟩ := told_u h3
  obtain ⟨a5, q5, rfl, w5, h5⟩ := told_i h4
  obtain ⟨a6, q6, n6, rfl, h6⟩ := told_u h5
  obtain ⟨a7, q7, rfl, w7, h7⟩ := told_i h6
  obtain ⟨a8, q8, n8, rfl, h8⟩ := told_u h7
  obtain ⟨a9, q9, rfl, w9, h9⟩ := told_i h8
  obtain ⟨a10, q10, rfl, w10, h10⟩ := told_i h9
  obtain ⟨a11, q11, rfl, w11, h11⟩ := told_i h10
  obtain ⟨a12, q12, rfl, w12, h12⟩ := told_i h11
  obtain rfl := told_nil h12
  obtain ⟨a1, rfl⟩ := Int.eq_ofNat_of_zero_le (word_of_wf w1).1
  obtain ⟨a2, rfl⟩ := Int.eq_ofNat_of_zero_le (word_of_wf w2).1
  obtain ⟨a3, rfl⟩ := Int.eq_ofNat_of_zero_le (word_of_wf w3).1
  obtain ⟨a5, rfl⟩ := Int.eq_ofNat_of_zero_le (word_of_wf w5).1
  obtain ⟨a7, rfl⟩ := Int.eq_ofNat_of_zero_le (word_of_wf w7).1
  obtain ⟨a9, rfl⟩ := Int.eq_ofNat_of_zero_le (word_of_wf w9).1
  obtain ⟨a10, rfl⟩ := Int.eq_ofNat_of_zero_le (word_of_wf w10).1
  obtain ⟨a11, rfl⟩ := Int.eq_ofNat_of_zero_le (word_of_wf w11).1
  obtain ⟨a12, rfl⟩ := Int.eq_ofNat_of_zero_le (word_of_wf w12).1
  have z1 := (word_of_wf w1).2
  have z2 := (word_of_wf w2).2
  have z3 := (word_of_wf w3).2
  have z5 := (word_of_wf w5).2
  have z7 := (word_of_wf w7).2
  have z9 := (word_of_wf w9).2
  have z10 := (word_of_wf w10).2
  have z11 := (word_of_wf w11).2
  have z12 := (word_of_wf w12).2
  have hpos := B256_pos
  have key : ∀ k, parL [0, a1, a2, a3, a4, a5, a6, a7, a8, a9, a10, a11, a12] k < B256 ∧ (k ≠ 4 → k ≠ 6 → k ≠ 8 → parL [0, a1, a2, a3, a4, a5, a6, a7, a8, a9, a10, a11, a12] k < 18446744073709551616) := by
    intro k
    rcases (by omega : k = 0 ∨ k = 1 ∨ k = 2 ∨ k = 3 ∨ k = 4 ∨ k = 5 ∨ k = 6 ∨ k = 7 ∨ k = 8 ∨ k = 9 ∨ k = 10 ∨ k = 11 ∨ k = 12 ∨ 13 ≤ k) with rfl | rfl | rfl | rfl | rfl | rfl | rfl | rfl | rfl | rfl | rfl | rfl | rfl | h
    · exact ⟨hpos, fun _ _ _ => (by decide : 0 < 18446744073709551616)⟩
    · exact ⟨lt_B (n := a1) (by omega), fun _ _ _ => show a1 < 18446744073709551616 by omega⟩
    · exact ⟨lt_B (n := a2) (by omega), fun _ _ _ => show a2 < 18446744073709551616 by omega⟩
    · exact ⟨lt_B (n := a3) (by omega), fun _ _ _ => show a3 < 18446744073709551616 by omega⟩
    · exact ⟨n4, fun e => absurd rfl e⟩
    · exact ⟨lt_B (n := a5) (by omega), fun _ _ _ => show a5 < 18446744073709551616 by omega⟩
    · exact ⟨n6, fun _ e => absurd rfl e⟩
    · exact ⟨lt_B (n := a7) (by omega), fun _ _ _ => show a7 < 18446744073709551616 by omega⟩
    · exact ⟨n8, fun _ _ e => absurd rfl e⟩
    · exact ⟨lt_B (n := a9) (by omega), fun _ _ _ => show a9 < 18446744073709551616 by omega⟩
    · exact ⟨lt_B (n := a10) (by omega), fun _ _ _ => show a10 < 18446744073709551616 by omega⟩
    · exact ⟨lt_B (n := a11) (by omega), fun _ _ _ => show a11 < 18446744073709551616 by omega⟩
    · exact ⟨lt_B (n := a12) (by omega), fun _ _ _ => show a12 < 18446744073709551616 by omega⟩
    · have e : parL [0, a1, a2, a3, a4, a5, a6, a7, a8, a9, a10, a11, a12] k = 0 := by unfold parL List.getD; rw [List.getElem?_eq_none (by simpa using h)]; rfl
      rw [e]
      exact ⟨hpos, fun _ _ _ => by decide⟩
  exact ⟨parL [0, a1, a2, a3, a4, a5, a6, a7, a8, a9, a10, a11, a12], ⟨fun k => (key k).1, fun k => (key k).2, rfl⟩, rfl⟩
set_option maxRecDepth 100000 in
theorem openPar {r : Reach} {b : Nat} {v : Value} {d : DataW H} {p : List MemPlace} (hv : Value.okWide Try.prog W r b 28 v) (h : DataW.Trod enc Try.prog W base sp held 28 v d p) : ∃ q : Par, PWf q ∧ v = PV q ∧ p = [] := by
  obtain ⟨cs, rfl, ht, rfl⟩ := open_plain lvP_ok (.inl ⟨_, Try.underlying28⟩) hv h
  obtain ⟨q, hq, rfl⟩ := told_par ht
  exact ⟨q, hq, rfl, rfl⟩
end
def parI (x : Int) : Prop := -1 ≤ x ∧ x ≤ 15
theorem il_t {i n : Nat} (h : decide ((i : Int) < (n : Int)) = true) : i < n := by have := of_decide_eq_true h; omega
theorem gt40_f {n : Nat} (h : decide ((n : Int) > 40) = false) : n ≤ 40 := by have := of_decide_eq_false h; omega
/-- The keys that ParamsValidity goes through. -/
abbrev VX : Type := { k : Int // -1 ≤ k ∧ k ≤ 15 }
def vx0 : VX := ⟨-1, by decide, by decide⟩
theorem vx_nx (x : VX) (h : decide (x.1 < 15) = true) : -1 ≤ x.1 + 1 ∧ x.1 + 1 ≤ 15 := by have := of_decide_eq_true h; have := x.2; omega
def vxN (x : VX) (h : decide (x.1 < 15) = true) : VX := ⟨x.1 + 1, vx_nx x h⟩
theorem vx_w (x : VX) : IntKind.i64.wrap (x.1 + 1) = x.1 + 1 := by
  have h := x.2
  simp [IntKind.wrap, IntKind.bits, IntKind.signed]
  omega
theorem vx_mu (x : VX) (h : decide (x.1 < 15) = true) : (15 - (x.1 + 1)).toNat < (15 - x.1).toNat := by have := of_decide_eq_true h; have := x.2; omega
/-- ParamsSet: so many changes done, and the parameters reached. -/
structure SX (n : Nat) where
  i : Nat
  p : Par
  hi : i ≤ n
  hp : PWf p
def sx0 (n : Nat) : SX n := ⟨0, gen, Nat.zero_le _, gen_wf⟩
def SX.same {n : Nat} (x : SX n) (h : x.i < n) : SX n := ⟨x.i + 1, x.p, h, x.hp⟩
def SX.put {n : Nat} (x : SX n) (h : x.i < n) (k : Int) (m : Nat) : SX n := ⟨x.i + 1, setR x.p k m, h, setR_wf x.hp k m⟩
end Go.Proofs.Ytlaapbenpjopiaa

