/- Slices of calls; normalize. No conditions. -/
import Derived.Test.YtkibbcomfjhgpaaDoorK1g
import Derived.Test.YtkibbcomfjhgpaaDoorSxo
import Derived.Test.YtkibbcomfjhgpaaDoorSxz
namespace Go.Proofs.YtkibbcomfjhgpaaDoor
open Go.RowKit Sx
set_option maxRecDepth 100000

/-! Slices of calls. -/
open Go.ChangeShapes Go.WideShapes Go.ChangeAt
def cw (d : Cd) : List Value := [.int .i64 d.op, .int .i64 d.v, .int .u64 d.a, .int .u64 d.b, .int .u64 (limb d.n 0), .int .u64 (limb d.n 1), .int .u64 (limb d.n 2), .int .u64 (limb d.n 3), .bool d.sm]
def lvCd : List Leaf := [.i .i64, .i .i64, .i .u64, .i .u64, .i .u64, .i .u64, .i .u64, .i .u64, .b]
theorem lvCd_ok : leaves Tryd.prog 4 33 = some lvCd := by kernel_rfl
theorem cd_def : CdOk default := ⟨by decide, by decide, B256_pos⟩
structure Cds where
  o : Option Addr
  n : Nat
  cap : Nat
  l : List Cd
  L : Facts
  hl : l.length = n
  hs : 0 < n → o.isSome = true
  hb : ∀ i, CdOk (l.getD i default)
  h : ∀ w, Sx.Holds w L → ∀ i, i < n → ∃ b k, (o.getD ⟨0, 0, none⟩).add (i * 9) = ⟨b, k, none⟩ ∧ World.rangeAt w b k (cw (l.getD i default))
abbrev Cds.v (y : Cds) : Value := .slice y.o y.n y.cap
theorem Cds.idx (y : Cds) {i : Int} (h0 : 0 ≤ i) (h1 : i < y.n) : idxOk y.o i y.n := by
  have := y.hs (by omega)
  cases e : y.o with
  | none => rw [e] at this; cases this
  | some a => exact ⟨h0, h1⟩
theorem Cds.load (y : Cds) {j : Int} (i : Nat) (e : j = i) (hi : i < y.n) {A : Facts} (hA : Sub y.L A) : ∀ w, Sx.Holds w A → (loadVar 33 ((y.o.getD ⟨0, 0, none⟩).add (j.toNat * 9))).run Tryd.prog w = .ok (CV (y.l.getD i default)) w := by
  intro w hw
  subst e
  obtain ⟨b, k, h1, h2⟩ := y.h w (hA.holds hw) i hi
  rw [Int.toNat_natCast, h1]
  exact run_loadVar_mid w b k _ _ _ h2 Tryd.underlying33 rfl (by kernel_rfl)
section
variable {H : Type} {enc : TypeId × Value → H} {W : World} {base : Nat} {sp : Nat → Bool} {held : Bool}
set_option maxRecDepth 100000 in
theorem told_cd {cs : List Value} (h : Told lvCd cs) : ∃ d : Cd, CdOk d ∧ cs = cw d := by
  obtain ⟨op, q1, rfl, _, h1⟩ := told_i h
  obtain ⟨v, q2, rfl, _, h2⟩ := told_i h1
  obtain ⟨a, q3, rfl, wa, h3⟩ := told_i h2
  obtain ⟨b, q4, rfl, wb, h4⟩ := told_i h3
  obtain ⟨n, q5, hn, rfl, h5⟩ := told_u h4
  obtain ⟨s, q6, rfl, h6⟩ := told_b h5
  obtain rfl := told_nil h6
  obtain ⟨a, rfl⟩ := Int.eq_ofNat_of_zero_le (word_of_wf wa).1
  obtain ⟨b, rfl⟩ := Int.eq_ofNat_of_zero_le (word_of_wf wb).1
  exact ⟨⟨op, v, a, b, n, s⟩, ⟨by have := (word_of_wf wa).2; show a < _; omega, by have := (word_of_wf wb).2; show b < _; omega, hn⟩, rfl⟩
set_option maxRecDepth 100000 in
theorem openCds {r : Reach} {b : Nat} {v : Value} {d : DataW H} {p : List MemPlace} (hv : Value.okWide Tryd.prog W r b 22 v) (h : DataW.Trod enc Tryd.prog W base sp held 22 v d p) :
    ∃ y : Cds, v = y.v ∧ Sx.Holds W y.L := by
  obtain ⟨A, n, c, rfl⟩ := okWide_slice Tryd.underlying22 hv
  obtain ⟨fuel, hf⟩ := h
  have h4 : Tryd.prog.cellsOf 33 = 9 := by kernel_rfl
  rcases Deep.open_slice Tryd.underlying22 hf with ⟨hcs, _⟩ | ⟨a, len, cap, m, k, D, Pl, hcs, hb, hlc, hcm, hm, _, hi⟩
  · simp [Value.cells] at hcs
    obtain ⟨rfl, rfl, rfl⟩ := hcs
    exact ⟨⟨none, 0, 0, [], [], rfl, fun h => absurd h (by omega), fun _ => cd_def, fun _ _ i hi => by omega⟩, rfl, fun _ h => by cases h⟩
  · simp [Value.cells] at hcs
    obtain ⟨rfl, rfl, rfl⟩ := hcs
    rw [h4] at hi
    have hnm : n ≤ m := by rw [hm]; split <;> omega
    have key : ∀ i, ∃ x : Cd, CdOk x ∧ (i < n → ∀ j u, (cw x)[j]? = some u → W.cell? ((a.add (i * 9)).add j) = some u) := fun i => by
      by_cases hin : i < n
      · obtain ⟨cs', h1, h2⟩ := hi i (by omega)
        obtain ⟨_, hcl, hat⟩ := World.cells?_some h1
        obtain ⟨ht, _⟩ := told_leaves 4 _ _ lvCd_ok _ cs' _ h2
        obtain ⟨x, hx, rfl⟩ := told_cd ht
        refine ⟨x, hx, fun _ j u hj => ?_⟩
        have hj4 : j < 9 := (List.getElem?_eq_some_iff.1 hj).1
        rw [hat j hj4]
        exact hj
      · exact ⟨default, cd_def, fun h => absurd h hin⟩
    obtain ⟨f, hfk⟩ := Classical.axiomOfChoice key
    have hbd : ∀ i, CdOk (((List.range n).map f).getD i default) := fun i => by
      by_cases hin : i < n
      · have e : ((List.range n).map f).getD i default = f i := by simp [List.getD, hin]
        rw [e]; exact (hfk i).1
      · have e : ((List.range n).map f).getD i default = default := by simp [List.getD, hin]
        rw [e]; exact cd_def
    by_cases h0 : n = 0
    · subst h0
      exact ⟨⟨some a, 0, c, [], [], rfl, fun _ => rfl, fun _ => cd_def, fun _ _ i hi => by omega⟩, rfl, fun _ h => by cases h⟩
    · have h00 : W.cell? ((a.add (0 * 9)).add 0) = some (.int .i64 (f 0).op) := (hfk 0).2 (by omega) 0 _ rfl
      have hsp : a.spot = none := by
        have := spot_of_cell h00
        rw [Nat.zero_mul] at this
        simpa [Addr.add] using this
      have hlt : a.block < W.heap.size := by
        have := World.block_lt_of_cell? W _ h00
        rwa [add_block, add_block] at this
      refine ⟨⟨some a, n, c, (List.range n).map f, [(a.block, W.heap[a.block])], by simp, fun _ => rfl, hbd, fun w' hw' i hi => ⟨a.block, a.off + i * 9, ?_, fun j u hj => ?_⟩⟩, rfl, ?_⟩
      · exact add_off hsp _
      · have e : ((List.range n).map f).getD i default = f i := by simp [List.getD, hi]
        rw [e] at hj
        have := (hfk i).2 hi j u hj
        rw [add_off hsp, add_off rfl] at this
        rw [World.cell?_of_block (w := W) (by show w'.heap[a.block]? = _; rw [hw' _ (List.mem_singleton.2 rfl)]; simp [hlt])]
        exact this
      · intro q hq; simp only [List.mem_singleton] at hq; subst hq; simp [hlt]
end

/-! normalize. -/
theorem limb_s0 {n : Nat} : (limb n 0).tmod 1000 = limb (sml n) 0 := by
  have h : sml n < 1000 := sml_lt n
  rw [limb0, limb0]
  unfold sml at *
  rw [Nat.mod_eq_of_lt (show n % 18446744073709551616 % 1000 < 18446744073709551616 by omega)]
  rfl
theorem limb_sk {n : Nat} (k : Nat) (hk : 0 < k) : limb (sml n) k = 0 := by
  have h : sml n < 1000 := sml_lt n
  unfold limb
  rw [Nat.div_eq_of_lt (Nat.lt_of_lt_of_le h (Nat.le_trans (by decide : 1000 ≤ 18446744073709551616 ^ 1) (Nat.pow_le_pow_right (by decide) (by omega))))]
  rfl
abbrev hN (i : Nat) : Prop := decide ((i : Int).tmod 7 < 6) = true
theorem hN_y {i : Nat} (h : decide ((i : Int).tmod 7 < 6) = true) : i % 7 < 6 := by
  have h : ((i % 7 : Nat) : Int) < 6 := of_decide_eq_true h
  omega
theorem hN_n {i : Nat} (h : decide ((i : Int).tmod 7 < 6) = false) : ¬ i % 7 < 6 := by
  have h : ¬ ((i % 7 : Nat) : Int) < 6 := of_decide_eq_false h
  omega
theorem hM_y {i : Nat} (h : decide ((i : Int).tmod 5 > 0) = true) : 0 < i % 5 := by
  have h : ((i % 5 : Nat) : Int) > 0 := of_decide_eq_true h
  omega
theorem hM_n {i : Nat} (h : decide ((i : Int).tmod 5 > 0) = false) : ¬ 0 < i % 5 := by
  have h : ¬ ((i % 5 : Nat) : Int) > 0 := of_decide_eq_false h
  omega
theorem lt2_t {x : Nat} (h : x < 2) : decide ((x : Int) < 2) = true := decide_eq_true (by omega)
theorem lt2_f {x : Nat} (h : ¬ x < 2) : decide ((x : Int) < 2) = false := decide_eq_false (by omega)
section
variable {d : Cd} {i : Nat}
theorem nrm_s (h : d.sm = true ∨ (modI d.op 8 < 2 ∧ 0 < i % 5)) : nrm d i = ⟨(nrm1 d i).op, (nrm1 d i).v, (nrm1 d i).a, (nrm1 d i).b, sml d.n, d.sm⟩ := by unfold nrm; rw [if_pos h]
theorem nrm_n (h : ¬ (d.sm = true ∨ (modI d.op 8 < 2 ∧ 0 < i % 5))) : nrm d i = nrm1 d i := by unfold nrm; rw [if_neg h]
theorem nrm1_y (h : i % 7 < 6) : nrm1 d i = ⟨((modI d.op 8 : Nat) : Int), ((modI d.v 6 : Nat) : Int), d.a % 5, d.b % 5, d.n, d.sm⟩ := by unfold nrm1; rw [if_pos h]
theorem nrm1_n (h : ¬ i % 7 < 6) : nrm1 d i = ⟨((modI d.op 8 : Nat) : Int), d.v, d.a, d.b, d.n, d.sm⟩ := by unfold nrm1; rw [if_neg h]
theorem nm_ys (h1 : i % 7 < 6) (h : d.sm = true ∨ (modI d.op 8 < 2 ∧ 0 < i % 5)) : Value.agg #[.int .i64 ((modI d.op 8 : Nat) : Int), .int .i64 ((modI d.v 6 : Nat) : Int), .int .u64 ((d.a : Int).tmod 5), .int .u64 ((d.b : Int).tmod 5), .int .u64 ((limb d.n 0).tmod 1000), .int .u64 0, .int .u64 0, .int .u64 0, .bool d.sm] = CV (nrm d i) := by
  rw [nrm_s h, nrm1_y h1, limb_s0]
  show _ = Value.agg #[_, _, _, _, _, .int .u64 (limb (sml d.n) 1), .int .u64 (limb (sml d.n) 2), .int .u64 (limb (sml d.n) 3), _]
  rw [limb_sk 1 (by decide), limb_sk 2 (by decide), limb_sk 3 (by decide)]
  rfl
theorem nm_ns (h1 : ¬ i % 7 < 6) (h : d.sm = true ∨ (modI d.op 8 < 2 ∧ 0 < i % 5)) : Value.agg #[.int .i64 ((modI d.op 8 : Nat) : Int), .int .i64 d.v, .int .u64 d.a, .int .u64 d.b, .int .u64 ((limb d.n 0).tmod 1000), .int .u64 0, .int .u64 0, .int .u64 0, .bool d.sm] = CV (nrm d i) := by
  rw [nrm_s h, nrm1_n h1, limb_s0]
  show _ = Value.agg #[_, _, _, _, _, .int .u64 (limb (sml d.n) 1), .int .u64 (limb (sml d.n) 2), .int .u64 (limb (sml d.n) 3), _]
  rw [limb_sk 1 (by decide), limb_sk 2 (by decide), limb_sk 3 (by decide)]
theorem nm_yn (h1 : i % 7 < 6) (h : ¬ (d.sm = true ∨ (modI d.op 8 < 2 ∧ 0 < i % 5))) : Value.agg #[.int .i64 ((modI d.op 8 : Nat) : Int), .int .i64 ((modI d.v 6 : Nat) : Int), .int .u64 ((d.a : Int).tmod 5), .int .u64 ((d.b : Int).tmod 5), .int .u64 (limb d.n 0), .int .u64 (limb d.n 1), .int .u64 (limb d.n 2), .int .u64 (limb d.n 3), .bool d.sm] = CV (nrm d i) := by
  rw [nrm_n h, nrm1_y h1]; rfl
theorem nm_nn (h1 : ¬ i % 7 < 6) (h : ¬ (d.sm = true ∨ (modI d.op 8 < 2 ∧ 0 < i % 5))) : Value.agg #[.int .i64 ((modI d.op 8 : Nat) : Int), .int .i64 d.v, .int .u64 d.a, .int .u64 d.b, .int .u64 (limb d.n 0), .int .u64 (limb d.n 1), .int .u64 (limb d.n 2), .int .u64 (limb d.n 3), .bool d.sm] = CV (nrm d i) := by
  rw [nrm_n h, nrm1_n h1]
theorem no_4 (h : ¬ d.sm = true) (h3 : ¬ 0 < i % 5) : ¬ (d.sm = true ∨ (modI d.op 8 < 2 ∧ 0 < i % 5)) := fun e => e.elim h fun e => h3 e.2
theorem no_3 (h : ¬ d.sm = true) (h3 : ¬ modI d.op 8 < 2) : ¬ (d.sm = true ∨ (modI d.op 8 < 2 ∧ 0 < i % 5)) := fun e => e.elim h fun e => h3 e.1
end

set_option maxHeartbeats 4000000 in
theorem k_norm (d : Cd) (i : Nat) : Det Tryd.prog 8 [CV d, .int .i64 ((i : Nat) : Int)] (CV (nrm d i)) :=
  det_of_vc Tryd.mixed good_pontagelaw11_normalize (O := [.reg [(2, det (.int .i64 ((modI d.op 8 : Nat) : Int)))], .both [.reg [(8, det (.int .i64 ((modI d.v 6 : Nat) : Int)))], .alt [(d.sm = true, [(3, .no), (4, .no), (5, .no), (6, .no), (10, .no), (11, .yes)], [.yes]), (modI d.op 8 < 2, [(3, .yes), (4, .yes), (5, .yes), (6, .yes), (7, .yes), (8, .yes), (9, .yes), (10, .yes), (11, .no)], [.both [] []]), (True, [(3, .yes), (4, .yes), (5, .yes), (6, .yes), (7, .no), (8, .no), (9, .no), (10, .els), (11, .no)], [.no])]] [.alt [(d.sm = true, [(3, .no), (4, .no), (5, .no), (6, .no), (10, .no), (11, .yes)], [.yes]), (modI d.op 8 < 2, [(3, .yes), (4, .yes), (5, .yes), (6, .yes), (7, .yes), (8, .yes), (9, .yes), (10, .yes), (11, .no)], [.both [] []]), (True, [(3, .yes), (4, .yes), (5, .yes), (6, .yes), (7, .no), (8, .no), (9, .no), (10, .els), (11, .no)], [.no])]]]) fun _ => ⟨mod_raw d.op 8 (by decide) (by decide) _, fun _ => ⟨⟨by decide, rfl⟩, ⟨fun h1 => ⟨⟨by decide, rfl⟩, ⟨⟨by decide, rfl⟩, ⟨mod_raw d.v 6 (by decide) (by decide) _, fun _ => ⟨fun h2 => ⟨gft h2, ⟨gft h2, ⟨gft h2, ⟨gft h2, ⟨gft h2, ⟨h2, ⟨rfl, ⟨by decide, ⟨⟨by decide, rfl⟩, ⟨(), nm_ys (hN_y h1) (.inl h2), nofun⟩⟩⟩⟩⟩⟩⟩⟩⟩⟩, fun h2 => ⟨fun h3 => ⟨gff (Bool.eq_false_iff.2 h2), ⟨gff (Bool.eq_false_iff.2 h2), ⟨gff (Bool.eq_false_iff.2 h2), ⟨gff (Bool.eq_false_iff.2 h2), ⟨gtt (lt2_t h3), ⟨⟨gtt (lt2_t h3), ⟨by decide, rfl⟩⟩, ⟨gtt (lt2_t h3), ⟨⟨gff (Bool.eq_false_iff.2 h2), (lt2_t h3)⟩, ⟨(Bool.eq_false_iff.2 h2), ⟨fun h4 => ⟨by decide, ⟨⟨by decide, rfl⟩, ⟨(), nm_ys (hN_y h1) (.inr ⟨h3, hM_y h4⟩), nofun⟩⟩⟩, fun h4 => ⟨(), nm_yn (hN_y h1) (no_4 h2 (hM_n h4)), nofun⟩⟩⟩⟩⟩⟩⟩⟩⟩⟩⟩, fun h3 => ⟨fun _ => ⟨gff (Bool.eq_false_iff.2 h2), ⟨gff (Bool.eq_false_iff.2 h2), ⟨gff (Bool.eq_false_iff.2 h2), ⟨gff (Bool.eq_false_iff.2 h2), ⟨gtf (lt2_f h3), ⟨gtf (lt2_f h3), ⟨gtf (lt2_f h3), ⟨⟨gff (Bool.eq_false_iff.2 h2), (lt2_f h3)⟩, ⟨(Bool.eq_false_iff.2 h2), ⟨rfl, ⟨(), nm_yn (hN_y h1) (no_3 h2 h3), nofun⟩⟩⟩⟩⟩⟩⟩⟩⟩⟩⟩, fun h => (h trivial).elim⟩⟩⟩⟩⟩⟩, fun h1 => ⟨fun h2 => ⟨gft h2, ⟨gft h2, ⟨gft h2, ⟨gft h2, ⟨gft h2, ⟨h2, ⟨rfl, ⟨by decide, ⟨⟨by decide, rfl⟩, ⟨(), nm_ns (hN_n h1) (.inl h2), nofun⟩⟩⟩⟩⟩⟩⟩⟩⟩⟩, fun h2 => ⟨fun h3 => ⟨gff (Bool.eq_false_iff.2 h2), ⟨gff (Bool.eq_false_iff.2 h2), ⟨gff (Bool.eq_false_iff.2 h2), ⟨gff (Bool.eq_false_iff.2 h2), ⟨gtt (lt2_t h3), ⟨⟨gtt (lt2_t h3), ⟨by decide, rfl⟩⟩, ⟨gtt (lt2_t h3), ⟨⟨gff (Bool.eq_false_iff.2 h2), (lt2_t h3)⟩, ⟨(Bool.eq_false_iff.2 h2), ⟨fun h4 => ⟨by decide, ⟨⟨by decide, rfl⟩, ⟨(), nm_ns (hN_n h1) (.inr ⟨h3, hM_y h4⟩), nofun⟩⟩⟩, fun h4 => ⟨(), nm_nn (hN_n h1) (no_4 h2 (hM_n h4)), nofun⟩⟩⟩⟩⟩⟩⟩⟩⟩⟩⟩, fun h3 => ⟨fun _ => ⟨gff (Bool.eq_false_iff.2 h2), ⟨gff (Bool.eq_false_iff.2 h2), ⟨gff (Bool.eq_false_iff.2 h2), ⟨gff (Bool.eq_false_iff.2 h2), ⟨gtf (lt2_f h3), ⟨gtf (lt2_f h3), ⟨gtf (lt2_f h3), ⟨⟨gff (Bool.eq_false_iff.2 h2), (lt2_f h3)⟩, ⟨(Bool.eq_false_iff.2 h2), ⟨rfl, ⟨(), nm_nn (hN_n h1) (no_3 h2 h3), nofun⟩⟩⟩⟩⟩⟩⟩⟩⟩⟩⟩, fun h => (h trivial).elim⟩⟩⟩⟩⟩⟩
end Go.Proofs.YtkibbcomfjhgpaaDoor

