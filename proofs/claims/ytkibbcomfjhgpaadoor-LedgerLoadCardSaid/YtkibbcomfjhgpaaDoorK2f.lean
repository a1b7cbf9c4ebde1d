/- The reference ledger: ValidAccounts, Load. No conditions. -/
import Derived.Test.YtkibbcomfjhgpaaDoorK2d
import Derived.Test.YtkibbcomfjhgpaaDoorK1s
import Derived.Test.YtkibbcomfjhgpaaDoorK1l
namespace Go.Proofs.YtkibbcomfjhgpaaDoor
open Go.RowKit Sx
set_option maxRecDepth 100000

section
variable {f : FuncId} {l : List Value} {A F : Facts} {X : Type} {ret : X → Value} {M : X → Facts}
/-- A call that reads a thing, where the thing is among the facts. -/
theorem gives_read (h : CallR Tryd.prog f l [] F X ret M) (hF : Sub F A) : Gives Tryd.prog f l A X ret M := by
  intro w hA
  refine Sx.CallRun.mono (h w (fun _ h => by cases h) (hF.holds hA) (fun _ h => by cases h)) ?_
  rintro v w' ⟨x, e, g1, g2, g3⟩
  exact ⟨x, e, g1, fun q hq => .inl ((g2 q hq).resolve_right fun ⟨_, h, _⟩ => by cases h), g3⟩
/-- The same, and what it gives is a new thing. -/
theorem callT_read (h : CallR Tryd.prog f l [] F X ret M) (hF : Sub F A) : CallT Tryd.prog f l A (fun G => G = []) X ret (fun _ => []) (fun x G => G = M x) := by
  intro w G hG hA hHG hap
  subst hG
  refine Sx.CallRun.mono (h w (fun _ h => by cases h) (hF.holds hA) (fun _ h => by cases h)) ?_
  rintro v w' ⟨x, e, g1, g2, g3⟩
  exact ⟨x, M x, e, rfl, (fun _ h => by cases h), g1, (fun _ h => by cases h), (fun _ h => by cases h), fun q hq => .inl ((g2 q hq).resolve_right fun ⟨_, h, _⟩ => by cases h), Sx.Below.still g3⟩
end
theorem Ass.bal (y : Ass) {j : Int} (i : Nat) (e : j = i) (hi : i < y.n) {A : Facts} (hA : Sub y.L A) : ∀ w, Sx.Holds w A → (loadVar 31 (((y.o.getD ⟨0, 0, none⟩).add (j.toNat * 6)).add 1)).run Tryd.prog w = .ok (U (y.l.getD i default).b) w := by
  intro w hw
  subst e
  obtain ⟨b, k, h1, h2⟩ := y.h w (hA.holds hw) i hi
  rw [Int.toNat_natCast, h1]
  have hr : World.rangeAt w b (k + 1) (cU (y.l.getD i default).b) := fun j u hj => by
    have := h2 (1 + j) u (acw_bal _ j u hj)
    rwa [← Nat.add_assoc] at this
  have e0 : (⟨b, k, none⟩ : Addr).add 1 = ⟨b, k + 1, none⟩ := by rw [add_none]
  rw [e0]
  exact run_loadVar_mid w b (k + 1) _ _ _ hr Tryd.underlying31 rfl (by kernel_rfl)
theorem acw_cell5 (x : Ac) : (acw x)[5]? = some (.int .u64 (x.n : Int)) := rfl
theorem Ass.non (y : Ass) {j : Int} (i : Nat) (e : j = i) (hi : i < y.n) {A : Facts} (hA : Sub y.L A) : ∀ w, Sx.Holds w A → (loadVar 28 (((y.o.getD ⟨0, 0, none⟩).add (j.toNat * 6)).add 5)).run Tryd.prog w = .ok (.int .u64 ((y.l.getD i default).n : Int)) w := by
  intro w hw
  subst e
  obtain ⟨b, k, h1, h2⟩ := y.h w (hA.holds hw) i hi
  rw [Int.toNat_natCast, h1]
  have hc : w.cell? ⟨b, k + 5, none⟩ = some (.int .u64 ((y.l.getD i default).n : Int)) := h2 5 _ (acw_cell5 _)
  have e0 : (⟨b, k, none⟩ : Addr).add 5 = ⟨b, k + 5, none⟩ := by rw [add_none]
  rw [e0]
  simp [loadVar, Tryd.isAgg28, run_load, hc]

/-! What the reference asks of a list of accounts is what the package asks. -/
def pvA (y : Ass) (k : Nat) : Nat := if k = 0 then 0 else (y.l.getD (k - 1) default).a
structure WS (y : Ass) where
  k : Nat
  hk : k ≤ y.n
  h : okA (pvA y k) (y.l.drop k) = okA 0 y.l
section
variable {y : Ass}
def ws0 (y : Ass) : WS y := ⟨0, Nat.zero_le _, rfl⟩
abbrev WS.x (s : WS y) : Ac := y.l.getD s.k default
theorem WS.dr (s : WS y) (g : s.k < y.n) : y.l.drop s.k = s.x :: y.l.drop (s.k + 1) := drop_get _ (by rw [y.hl]; exact g)
def WS.next (s : WS y) (g : s.k < y.n) (h1 : ¬ s.x.a ≤ pvA y s.k) (h2 : ¬ s.x.emp) : WS y := ⟨s.k + 1, g, by
  rw [← s.h, s.dr g, okA_2 h1 h2]
  show okA (if s.k + 1 = 0 then 0 else (y.l.getD (s.k + 1 - 1) default).a) _ = _
  rw [if_neg (by omega)]
  rfl⟩
theorem WS.r0 (s : WS y) (g : s.k < y.n) (h1 : s.x.a ≤ pvA y s.k) : Value.bool false = .bool (okA 0 y.l) := by rw [← s.h, s.dr g, okA_0 h1]
theorem WS.r1 (s : WS y) (g : s.k < y.n) (h2 : s.x.emp) : Value.bool false = .bool (okA 0 y.l) := by rw [← s.h, s.dr g, okA_1 h2]
theorem WS.r2 (s : WS y) (g : ¬ s.k < y.n) : Value.bool true = .bool (okA 0 y.l) := by
  rw [← s.h, List.drop_eq_nil_of_le (by rw [y.hl]; omega)]; rfl
theorem WS.no (s : WS y) (h1 : ¬ s.x.a = 0) (h2 : ¬ (0 < s.k ∧ s.x.a ≤ (y.l.getD (s.k - 1) default).a)) : ¬ s.x.a ≤ pvA y s.k := by
  unfold pvA
  split
  · omega
  · exact fun e => h2 ⟨by omega, e⟩
theorem WS.le (s : WS y) (h2 : 0 < s.k ∧ s.x.a ≤ (y.l.getD (s.k - 1) default).a) : s.x.a ≤ pvA y s.k := by
  unfold pvA
  rw [if_neg (by omega)]
  exact h2.2
end
theorem lt_nt {i n : Nat} (h : decide ((i : Int) < (n : Int)) = false) : ¬ i < n := by have := of_decide_eq_false h; omega
section
variable {ρ : Operand → Value} {dst : Option Tmp} {type : TypeId} {pos : String} {after : Array Edge} {guard : Option (Nat × Bool)}
theorem build_a0 (A : Facts) : GivesOp Tryd.prog (execOp ρ ⟨dst, .buildSlice 40 0 #[], type, pos, after, guard⟩) A Nat (fun m => .slice (some ⟨m, 0, none⟩) 0 0) (fun m => [(m, .cells #[] 58)]) := by
  obtain ⟨i, z, hi, hs, _, hz, _⟩ := info_A6
  refine gives_alloc (F := []) id (.cells #[] 58) (fun w => ?_) (fun k => rfl) (fun _ h => by cases h)
  simp [execOp, Instr.buildSlice, run_underlying Tryd.underlying40, sizeOf, typeInfo, hi, Instr.fill, newRow]
  kernel_rfl
def Ass.nil0 (o : Option Addr) : Ass := ⟨o, 0, 0, [], [], rfl, Nat.le_refl _, fun h => absurd h (Nat.lt_irrefl _), fun _ _ i h => absurd h (Nat.not_lt_zero i)⟩
theorem give_app00 (o : Option Addr) (z : Ass) {A : Facts} (hz : Sub z.L A) (hn : z.n ≤ 900000) {X Y : Operand} (hx : ρ X = .slice o 0 0 := by rfl) (hv : ρ Y = z.v := by rfl) :
    GivesOp Tryd.prog (execOp ρ ⟨dst, .call ⟨.builtin .append, #[X, Y], #[40, 40]⟩, type, pos, after, guard⟩) A (FrX (acws z.l)) (fun x' => .slice (frO x') (lenB (acws z.l) 6) (frC 6 x')) (fun x' => frL 58 x') := by
  rcases Nat.eq_zero_or_pos z.n with h0 | h0
  · intro w hw
    obtain ⟨i, zz, hi, hs, hby, hzz, hzs⟩ := info_A6
    have hsz := z.src hz w hw
    have hl : z.l = [] := List.length_eq_zero_iff.1 (by rw [z.hl, h0])
    rw [h0, hl, ← hs] at hsz
    have hsz : Src Tryd.prog i.size 40 z.v 0 [] w := hsz
    have hk : Tryd.prog.underlying 40 = _ := Tryd.underlying40
    have hrun : (Builtin.append_ #[40, 40] type #[.slice o 0 0, z.v]).run Tryd.prog w = .ok (.slice o 0 0) w := by
      have hc := hsz.cells
      have hln := hsz.len
      cases o <;> simp [Builtin.append_, run_underlying hk, sizeOf, typeInfo, hi, hln, hc, storeCells]
    have hop : (execOp ρ ⟨dst, .call ⟨.builtin .append, #[X, Y], #[40, 40]⟩, type, pos, after, guard⟩).run Tryd.prog w = .ok (.value (.slice o 0 0)) w := by
      simp [execOp, resolve, invoke, builtin, hx, hv, hrun]
    unfold OpRun
    rw [hop]
    rw [hl]
    exact ⟨.inl (⟨rfl⟩, o), rfl, (fun _ h => by cases h), (fun _ h => by cases h), .refl _ _⟩
  · exact give_appA (Ass.nil0 o) z (fun _ h => by cases h) hz rfl h0 (by show 0 + z.n ≤ 1000000; omega) hx hv
end
theorem good_pontageref11_ValidAccounts : Good Tryd.prog 42 Tryd.f42 1 := ⟨Tryd.func42, by kernel_rfl, by kernel_rfl⟩
theorem good_pontageref11_Load : Good Tryd.prog 13 Tryd.f13 2 := ⟨Tryd.func13, by kernel_rfl, by kernel_rfl⟩
set_option maxHeartbeats 4000000 in
theorem r_valid (y : Ass) (hb : ∀ i, (y.l.getD i default).b < B256) (hn : y.n ≤ 100000) (A : Facts) (hy : Sub y.L A) : Gives Tryd.prog 42 [y.v] A (Unit) (fun _ => .bool (okA 0 y.l)) (fun _ => []) :=
  gives_of_vcF Tryd.mixed good_pontageref11_ValidAccounts (args := [(y.v, y.L)]) (B := []) (O := [.inv (WS y) (fun s : WS y => ⟨50, [(0, .v y.v y.L), (3, .v (.int .i64 ((s.k : Nat) : Int)) [])], [], 190⟩) (fun s => y.n - s.k) (fun s => [.both [.alt [(s.x.a = 0, [(4, .ld (.int .u64 (s.x.a : Int))), (7, .no), (8, .no), (9, .no), (22, .no), (23, .yes), (25, .no), (26, .no), (27, .no), (28, .no), (29, .no), (30, .no), (31, .no), (38, .no), (39, .yes)], [.yes]), (0 < s.k ∧ s.x.a ≤ (y.l.getD (s.k - 1) default).a, [(4, .ld (.int .u64 (s.x.a : Int))), (7, .yes), (8, .yes), (9, .yes), (10, .yes), (11, .yes), (12, .yes), (13, .yes), (14, .ld (.int .u64 (s.x.a : Int))), (15, .yes), (16, .yes), (17, .ld (.int .i64 ((s.k - 1 : Nat) : Int))), (18, .yes), (19, .yes), (20, .ld (.int .u64 ((y.l.getD (s.k - 1) default).a : Int))), (21, .yes), (22, .yes), (23, .no), (25, .no), (26, .no), (27, .no), (28, .no), (29, .no), (30, .no), (31, .no), (38, .no), (39, .yes)], [.yes]), (0 < s.k ∧ s.x.b = 0, [(4, .ld (.int .u64 (s.x.a : Int))), (7, .yes), (8, .yes), (9, .yes), (10, .yes), (11, .yes), (12, .yes), (13, .yes), (14, .ld (.int .u64 (s.x.a : Int))), (15, .yes), (16, .yes), (17, .ld (.int .i64 ((s.k - 1 : Nat) : Int))), (18, .yes), (19, .yes), (20, .ld (.int .u64 ((y.l.getD (s.k - 1) default).a : Int))), (21, .yes), (22, .yes), (23, .no), (25, .yes), (26, .yes), (27, .yes), (28, .yes), (29, .ld (U s.x.b)), (30, det (.bool (decide (s.x.b = 0)))), (31, .yes), (32, .yes), (33, .yes), (34, .yes), (35, .yes), (36, .ld (.int .u64 (s.x.n : Int))), (37, .yes), (38, .yes), (39, .no)], [.both [] []]), (0 < s.k, [(4, .ld (.int .u64 (s.x.a : Int))), (7, .yes), (8, .yes), (9, .yes), (10, .yes), (11, .yes), (12, .yes), (13, .yes), (14, .ld (.int .u64 (s.x.a : Int))), (15, .yes), (16, .yes), (17, .ld (.int .i64 ((s.k - 1 : Nat) : Int))), (18, .yes), (19, .yes), (20, .ld (.int .u64 ((y.l.getD (s.k - 1) default).a : Int))), (21, .yes), (22, .yes), (23, .no), (25, .yes), (26, .yes), (27, .yes), (28, .yes), (29, .ld (U s.x.b)), (30, det (.bool (decide (s.x.b = 0)))), (31, .yes), (32, .no), (33, .no), (34, .no), (35, .no), (36, .no), (37, .no), (38, .els), (39, .no)], [.no]), (s.x.b = 0, [(4, .ld (.int .u64 (s.x.a : Int))), (7, .yes), (8, .yes), (9, .yes), (10, .no), (11, .no), (12, .no), (13, .no), (14, .no), (15, .no), (16, .no), (17, .no), (18, .no), (19, .no), (20, .no), (21, .no), (22, .els), (23, .no), (25, .yes), (26, .yes), (27, .yes), (28, .yes), (29, .ld (U s.x.b)), (30, det (.bool (decide (s.x.b = 0)))), (31, .yes), (32, .yes), (33, .yes), (34, .yes), (35, .yes), (36, .ld (.int .u64 (s.x.n : Int))), (37, .yes), (38, .yes), (39, .no)], [.both [] []]), (True, [(4, .ld (.int .u64 (s.x.a : Int))), (7, .yes), (8, .yes), (9, .yes), (10, .no), (11, .no), (12, .no), (13, .no), (14, .no), (15, .no), (16, .no), (17, .no), (18, .no), (19, .no), (20, .no), (21, .no), (22, .els), (23, .no), (25, .yes), (26, .yes), (27, .yes), (28, .yes), (29, .ld (U s.x.b)), (30, det (.bool (decide (s.x.b = 0)))), (31, .yes), (32, .no), (33, .no), (34, .no), (35, .no), (36, .no), (37, .no), (38, .els), (39, .no)], [.no])]] []])]) (.app (.nil _) (.app (hy) (.nil _))) (rSeqK (fun _ hK97 => hK97 _ _ _ (rSeqK (fun _ hK98 => rSeqK (fun _ hK99 => hK99 _ _ _ (rBlkK (fun _ hK100 => rInvK (⟨ws0 y, rfl, ⟨⟨rfl, fun _ h => h⟩, ⟨rfl, nofun⟩, trivial⟩, trivial⟩) (fun s _ hK101 => rSeqK (fun _ hK102 => rSeqK (fun _ hK103 => hK103 _ _ _ (⟨fun g => hK102 _ _ _ (rSeqK (fun _ hK104 => rBlkK (fun _ hK105 => rSeqK (fun _ hK106 => ⟨fun h1 => ⟨y.idx (Int.natCast_nonneg _) (Int.ofNat_lt.2 (lt_t g)), ⟨y.adr s.k rfl (lt_t g) (by intro q h; simp [h]), ⟨gft (az_t h1), ⟨gft (az_t h1), ⟨gft (az_t h1), ⟨gft (az_t h1), ⟨(az_t h1), ⟨gft rfl, ⟨gft rfl, ⟨gft rfl, ⟨gft rfl, ⟨gft rfl, ⟨gft rfl, ⟨gft rfl, ⟨gft rfl, ⟨rfl, hK106 _ _ _ (⟨rfl, rSeqK (fun _ hK107 => hK107 _ _ _ (hK105 _ _ _ (hK104 _ _ _ (hK101 _ _ _ (hK100 _ _ _ (hK98 _ _ _ (⟨(), s.r0 (lt_t g) (by rw [h1]; exact Nat.zero_le _), nofun⟩)))))))⟩)⟩⟩⟩⟩⟩⟩⟩⟩⟩⟩⟩⟩⟩⟩⟩⟩, fun h1 => ⟨fun h2 => ⟨y.idx (Int.natCast_nonneg _) (Int.ofNat_lt.2 (lt_t g)), ⟨y.adr s.k rfl (lt_t g) (by intro q h; simp [h]), ⟨gff (az_f h1), ⟨gff (az_f h1), ⟨gff (az_f h1), ⟨gtt (j_pos h2.1), ⟨gtt (j_pos h2.1), ⟨⟨gtt (j_pos h2.1), y.idx (Int.natCast_nonneg _) (Int.ofNat_lt.2 (lt_t g))⟩, ⟨gtt (j_pos h2.1), ⟨⟨gtt (j_pos h2.1), y.adr s.k rfl (lt_t g) (by intro q h; simp [h])⟩, ⟨gtt (j_pos h2.1), ⟨gtt (j_pos h2.1), ⟨⟨gtt (j_pos h2.1), lp_subJ (j_sub h2.1 (by have := lt_t g; omega)) _⟩, ⟨⟨gtt (j_pos h2.1), y.idx (Int.natCast_nonneg _) (by show ((s.k - 1 : Nat) : Int) < (y.n : Int); have := lt_t g; omega)⟩, ⟨gtt (j_pos h2.1), ⟨⟨gtt (j_pos h2.1), y.adr (s.k - 1) rfl (by have := lt_t g; omega) (by intro q h; simp [h])⟩, ⟨gtt (j_pos h2.1), ⟨⟨gff (az_f h1), (j_pos h2.1)⟩, ⟨(az_f h1), ⟨gft (leI_t h2.2), ⟨gft (leI_t h2.2), ⟨gft (leI_t h2.2), ⟨gft (leI_t h2.2), ⟨gft (leI_t h2.2), ⟨gft (leI_t h2.2), ⟨gft (leI_t h2.2), ⟨gft (leI_t h2.2), ⟨(leI_t h2.2), hK106 _ _ _ (⟨rfl, rSeqK (fun _ hK108 => hK108 _ _ _ (hK105 _ _ _ (hK104 _ _ _ (hK101 _ _ _ (hK100 _ _ _ (hK98 _ _ _ (⟨(), s.r0 (lt_t g) (s.le h2), nofun⟩)))))))⟩)⟩⟩⟩⟩⟩⟩⟩⟩⟩⟩⟩⟩⟩⟩⟩⟩⟩⟩⟩⟩⟩⟩⟩⟩⟩⟩⟩⟩, fun h2 => ⟨fun h3 => ⟨y.idx (Int.natCast_nonneg _) (Int.ofNat_lt.2 (lt_t g)), ⟨y.adr s.k rfl (lt_t g) (by intro q h; simp [h]), ⟨gff (az_f h1), ⟨gff (az_f h1), ⟨gff (az_f h1), ⟨gtt (j_pos h3.1), ⟨gtt (j_pos h3.1), ⟨⟨gtt (j_pos h3.1), y.idx (Int.natCast_nonneg _) (Int.ofNat_lt.2 (lt_t g))⟩, ⟨gtt (j_pos h3.1), ⟨⟨gtt (j_pos h3.1), y.adr s.k rfl (lt_t g) (by intro q h; simp [h])⟩, ⟨gtt (j_pos h3.1), ⟨gtt (j_pos h3.1), ⟨⟨gtt (j_pos h3.1), lp_subJ (j_sub h3.1 (by have := lt_t g; omega)) _⟩, ⟨⟨gtt (j_pos h3.1), y.idx (Int.natCast_nonneg _) (by show ((s.k - 1 : Nat) : Int) < (y.n : Int); have := lt_t g; omega)⟩, ⟨gtt (j_pos h3.1), ⟨⟨gtt (j_pos h3.1), y.adr (s.k - 1) rfl (by have := lt_t g; omega) (by intro q h; simp [h])⟩, ⟨gtt (j_pos h3.1), ⟨⟨gff (az_f h1), (j_pos h3.1)⟩, ⟨(az_f h1), ⟨gff (leI_f (fun e => h2 ⟨h3.1, e⟩)), ⟨gff (leI_f (fun e => h2 ⟨h3.1, e⟩)), ⟨⟨gff (leI_f (fun e => h2 ⟨h3.1, e⟩)), y.idx (Int.natCast_nonneg _) (Int.ofNat_lt.2 (lt_t g))⟩, ⟨gff (leI_f (fun e => h2 ⟨h3.1, e⟩)), ⟨⟨gff (leI_f (fun e => h2 ⟨h3.1, e⟩)), y.bal s.k rfl (lt_t g) (by intro q h; simp [h])⟩, ⟨⟨gff (leI_f (fun e => h2 ⟨h3.1, e⟩)), d_zero _ (hb _) _⟩, fun _ => ⟨gff (leI_f (fun e => h2 ⟨h3.1, e⟩)), ⟨gtt (decide_eq_true h3.2), ⟨gtt (decide_eq_true h3.2), ⟨⟨gtt (decide_eq_true h3.2), y.idx (Int.natCast_nonneg _) (Int.ofNat_lt.2 (lt_t g))⟩, ⟨gtt (decide_eq_true h3.2), ⟨⟨gtt (decide_eq_true h3.2), y.non s.k rfl (lt_t g) (by intro q h; simp [h])⟩, ⟨gtt (decide_eq_true h3.2), ⟨⟨gff (leI_f (fun e => h2 ⟨h3.1, e⟩)), (decide_eq_true h3.2)⟩, ⟨(leI_f (fun e => h2 ⟨h3.1, e⟩)), hK106 _ _ _ (⟨fun h7 => rSeqK (fun _ hK109 => hK109 _ _ _ (hK105 _ _ _ (hK104 _ _ _ (hK101 _ _ _ (hK100 _ _ _ (hK98 _ _ _ (⟨(), s.r1 (lt_t g) (em_y h3.2 h7), nofun⟩))))))), fun h7 => hK105 _ _ _ (hK104 _ _ _ (hK101 _ _ _ (⟨s.next (lt_t g) (s.no h1 h2) (em_n h7), by have := lt_t g; show y.n - (s.k + 1) < y.n - s.k; omega, rfl, ⟨⟨rfl, fun _ h => h⟩, ⟨congrArg _ (add1 (by have := lt_t g; omega)), nofun⟩, trivial⟩, trivial⟩)))⟩)⟩⟩⟩⟩⟩⟩⟩⟩⟩⟩⟩⟩⟩⟩⟩⟩⟩⟩⟩⟩⟩⟩⟩⟩⟩⟩⟩⟩⟩⟩⟩⟩⟩⟩, fun h3 => ⟨fun h4 => ⟨y.idx (Int.natCast_nonneg _) (Int.ofNat_lt.2 (lt_t g)), ⟨y.adr s.k rfl (lt_t g) (by intro q h; simp [h]), ⟨gff (az_f h1), ⟨gff (az_f h1), ⟨gff (az_f h1), ⟨gtt (j_pos h4), ⟨gtt (j_pos h4), ⟨⟨gtt (j_pos h4), y.idx (Int.natCast_nonneg _) (Int.ofNat_lt.2 (lt_t g))⟩, ⟨gtt (j_pos h4), ⟨⟨gtt (j_pos h4), y.adr s.k rfl (lt_t g) (by intro q h; simp [h])⟩, ⟨gtt (j_pos h4), ⟨gtt (j_pos h4), ⟨⟨gtt (j_pos h4), lp_subJ (j_sub h4 (by have := lt_t g; omega)) _⟩, ⟨⟨gtt (j_pos h4), y.idx (Int.natCast_nonneg _) (by show ((s.k - 1 : Nat) : Int) < (y.n : Int); have := lt_t g; omega)⟩, ⟨gtt (j_pos h4), ⟨⟨gtt (j_pos h4), y.adr (s.k - 1) rfl (by have := lt_t g; omega) (by intro q h; simp [h])⟩, ⟨gtt (j_pos h4), ⟨⟨gff (az_f h1), (j_pos h4)⟩, ⟨(az_f h1), ⟨gff (leI_f (fun e => h2 ⟨h4, e⟩)), ⟨gff (leI_f (fun e => h2 ⟨h4, e⟩)), ⟨⟨gff (leI_f (fun e => h2 ⟨h4, e⟩)), y.idx (Int.natCast_nonneg _) (Int.ofNat_lt.2 (lt_t g))⟩, ⟨gff (leI_f (fun e => h2 ⟨h4, e⟩)), ⟨⟨gff (leI_f (fun e => h2 ⟨h4, e⟩)), y.bal s.k rfl (lt_t g) (by intro q h; simp [h])⟩, ⟨⟨gff (leI_f (fun e => h2 ⟨h4, e⟩)), d_zero _ (hb _) _⟩, fun _ => ⟨gff (leI_f (fun e => h2 ⟨h4, e⟩)), ⟨gtf (decide_eq_false (fun e => h3 ⟨h4, e⟩)), ⟨gtf (decide_eq_false (fun e => h3 ⟨h4, e⟩)), ⟨gtf (decide_eq_false (fun e => h3 ⟨h4, e⟩)), ⟨gtf (decide_eq_false (fun e => h3 ⟨h4, e⟩)), ⟨gtf (decide_eq_false (fun e => h3 ⟨h4, e⟩)), ⟨gtf (decide_eq_false (fun e => h3 ⟨h4, e⟩)), ⟨⟨gff (leI_f (fun e => h2 ⟨h4, e⟩)), (decide_eq_false (fun e => h3 ⟨h4, e⟩))⟩, ⟨(leI_f (fun e => h2 ⟨h4, e⟩)), hK106 _ _ _ (⟨rfl, hK105 _ _ _ (hK104 _ _ _ (hK101 _ _ _ (⟨s.next (lt_t g) (s.no h1 h2) (em_b (fun e => h3 ⟨h4, e⟩)), by have := lt_t g; show y.n - (s.k + 1) < y.n - s.k; omega, rfl, ⟨⟨rfl, fun _ h => h⟩, ⟨congrArg _ (add1 (by have := lt_t g; omega)), nofun⟩, trivial⟩, trivial⟩)))⟩)⟩⟩⟩⟩⟩⟩⟩⟩⟩⟩⟩⟩⟩⟩⟩⟩⟩⟩⟩⟩⟩⟩⟩⟩⟩⟩⟩⟩⟩⟩⟩⟩⟩⟩, fun h4 => ⟨fun h5 => ⟨y.idx (Int.natCast_nonneg _) (Int.ofNat_lt.2 (lt_t g)), ⟨y.adr s.k rfl (lt_t g) (by intro q h; simp [h]), ⟨gff (az_f h1), ⟨gff (az_f h1), ⟨gff (az_f h1), ⟨gtf (j_zer h4), ⟨gtf (j_zer h4), ⟨gtf (j_zer h4), ⟨gtf (j_zer h4), ⟨gtf (j_zer h4), ⟨gtf (j_zer h4), ⟨gtf (j_zer h4), ⟨gtf (j_zer h4), ⟨gtf (j_zer h4), ⟨gtf (j_zer h4), ⟨gtf (j_zer h4), ⟨gtf (j_zer h4), ⟨⟨gff (az_f h1), (j_zer h4)⟩, ⟨(az_f h1), ⟨gff rfl, ⟨gff rfl, ⟨⟨gff rfl, y.idx (Int.natCast_nonneg _) (Int.ofNat_lt.2 (lt_t g))⟩, ⟨gff rfl, ⟨⟨gff rfl, y.bal s.k rfl (lt_t g) (by intro q h; simp [h])⟩, ⟨⟨gff rfl, d_zero _ (hb _) _⟩, fun _ => ⟨gff rfl, ⟨gtt (decide_eq_true h5), ⟨gtt (decide_eq_true h5), ⟨⟨gtt (decide_eq_true h5), y.idx (Int.natCast_nonneg _) (Int.ofNat_lt.2 (lt_t g))⟩, ⟨gtt (decide_eq_true h5), ⟨⟨gtt (decide_eq_true h5), y.non s.k rfl (lt_t g) (by intro q h; simp [h])⟩, ⟨gtt (decide_eq_true h5), ⟨⟨gff rfl, (decide_eq_true h5)⟩, ⟨rfl, hK106 _ _ _ (⟨fun h7 => rSeqK (fun _ hK110 => hK110 _ _ _ (hK105 _ _ _ (hK104 _ _ _ (hK101 _ _ _ (hK100 _ _ _ (hK98 _ _ _ (⟨(), s.r1 (lt_t g) (em_y h5 h7), nofun⟩))))))), fun h7 => hK105 _ _ _ (hK104 _ _ _ (hK101 _ _ _ (⟨s.next (lt_t g) (s.no h1 h2) (em_n h7), by have := lt_t g; show y.n - (s.k + 1) < y.n - s.k; omega, rfl, ⟨⟨rfl, fun _ h => h⟩, ⟨congrArg _ (add1 (by have := lt_t g; omega)), nofun⟩, trivial⟩, trivial⟩)))⟩)⟩⟩⟩⟩⟩⟩⟩⟩⟩⟩⟩⟩⟩⟩⟩⟩⟩⟩⟩⟩⟩⟩⟩⟩⟩⟩⟩⟩⟩⟩⟩⟩⟩⟩, fun h5 => ⟨fun _ => ⟨y.idx (Int.natCast_nonneg _) (Int.ofNat_lt.2 (lt_t g)), ⟨y.adr s.k rfl (lt_t g) (by intro q h; simp [h]), ⟨gff (az_f h1), ⟨gff (az_f h1), ⟨gff (az_f h1), ⟨gtf (j_zer h4), ⟨gtf (j_zer h4), ⟨gtf (j_zer h4), ⟨gtf (j_zer h4), ⟨gtf (j_zer h4), ⟨gtf (j_zer h4), ⟨gtf (j_zer h4), ⟨gtf (j_zer h4), ⟨gtf (j_zer h4), ⟨gtf (j_zer h4), ⟨gtf (j_zer h4), ⟨gtf (j_zer h4), ⟨⟨gff (az_f h1), (j_zer h4)⟩, ⟨(az_f h1), ⟨gff rfl, ⟨gff rfl, ⟨⟨gff rfl, y.idx (Int.natCast_nonneg _) (Int.ofNat_lt.2 (lt_t g))⟩, ⟨gff rfl, ⟨⟨gff rfl, y.bal s.k rfl (lt_t g) (by intro q h; simp [h])⟩, ⟨⟨gff rfl, d_zero _ (hb _) _⟩, fun _ => ⟨gff rfl, ⟨gtf (decide_eq_false h5), ⟨gtf (decide_eq_false h5), ⟨gtf (decide_eq_false h5), ⟨gtf (decide_eq_false h5), ⟨gtf (decide_eq_false h5), ⟨gtf (decide_eq_false h5), ⟨⟨gff rfl, (decide_eq_false h5)⟩, ⟨rfl, hK106 _ _ _ (⟨rfl, hK105 _ _ _ (hK104 _ _ _ (hK101 _ _ _ (⟨s.next (lt_t g) (s.no h1 h2) (em_b h5), by have := lt_t g; show y.n - (s.k + 1) < y.n - s.k; omega, rfl, ⟨⟨rfl, fun _ h => h⟩, ⟨congrArg _ (add1 (by have := lt_t g; omega)), nofun⟩, trivial⟩, trivial⟩)))⟩)⟩⟩⟩⟩⟩⟩⟩⟩⟩⟩⟩⟩⟩⟩⟩⟩⟩⟩⟩⟩⟩⟩⟩⟩⟩⟩⟩⟩⟩⟩⟩⟩⟩⟩, fun h => (h trivial).elim⟩⟩⟩⟩⟩⟩)))), fun g => hK102 _ _ _ (hK101 _ _ _ (hK100 _ _ _ (hK98 _ _ _ (rSeqK (fun _ hK111 => hK111 _ _ _ (⟨(), s.r2 (lt_nt g), nofun⟩))))))⟩)))))))))))
theorem r_valid_b (y : Ass) (hb : ∀ i, (y.l.getD i default).b < B256) (hn : y.n ≤ 100000) {b : Bool} (hok : okA 0 y.l = b) (A : Facts) (hy : Sub y.L A) : Gives Tryd.prog 42 [y.v] A Unit (fun _ => .bool b) (fun _ => []) := by
  subst hok; exact r_valid y hb hn A hy
theorem r_load_1 (y : Ass) (v : Nat → Nat) (_hv : ∀ k, v k < B256) (hb : ∀ i, (y.l.getD i default).b < B256) (hn : y.n ≤ 100000) (hok : okA 0 y.l = false) (A : Facts) (hy : Sub y.L A) : Gives Tryd.prog 13 [y.v, VV4 v] A (Unit) (fun _ => .tuple #[.pointer none, .int .i64 2]) (fun _ => []) :=
  gives_of_vcF Tryd.mixed good_pontageref11_Load (args := [(y.v, y.L), (VV4 v, [])]) (B := []) (O := [.opt 1 [(0, .call Nat 0 (fun m => .slice (some ⟨m, 0, none⟩) 0 0) (fun m => [(m, .cells #[] 58)])), (2, .call (FrX (acws y.l)) (.inr (0, [])) (fun x => .slice (frO x) (lenB (acws y.l) 6) (frC 6 x)) (fun x => frL 58 x))], .reg [(1, .call Unit () (fun _ => .bool false) (fun _ => []))], .yes]) (.app (.nil _) (.app (hy) (.app (.nil _) (.nil _)))) (⟨build_a0 _, fun m0 => ⟨give_app00 _ y (by intro q h; simp [h]) (by omega), fun x => ⟨r_valid_b y hb hn hok _ (by intro q h; simp [h]), fun _ => ⟨rfl, ⟨(), rfl, nofun⟩⟩⟩⟩⟩)
theorem r_load_2 (y : Ass) (v : Nat → Nat) (hv : ∀ k, v k < B256) (hb : ∀ i, (y.l.getD i default).b < B256) (hn : y.n ≤ 100000) (hok : okA 0 y.l = true) (hs : ¬ totA y.l + sv v 4 < B256) (A : Facts) (hy : Sub y.L A) : Gives Tryd.prog 13 [y.v, VV4 v] A (Unit) (fun _ => .tuple #[.pointer none, .int .i64 4]) (fun _ => []) :=
  gives_of_vcF Tryd.mixed good_pontageref11_Load (args := [(y.v, y.L), (VV4 v, [])]) (B := []) (O := [.opt 1 [(0, .call Nat 0 (fun m => .slice (some ⟨m, 0, none⟩) 0 0) (fun m => [(m, .cells #[] 58)])), (2, .call (FrX (acws y.l)) (.inr (0, [])) (fun x => .slice (frO x) (lenB (acws y.l) 6) (frC 6 x)) (fun x => frL 58 x))], .reg [(1, .call Unit () (fun _ => .bool true) (fun _ => []))], .no, .pub 4 [8] (fun | [m] => [.reg [(1, .call (BigX (totA y.l + sv v 4)) (bigX0 (totA y.l + sv v 4)) (fun b => b.v) (fun b => b.L)), (2, .call Unit () (fun _ => .bool (decide (totA y.l + sv v 4 < B256))) (fun _ => []))], .yes] | _ => [])]) (.app (.nil _) (.app (hy) (.app (.nil _) (.nil _)))) (⟨build_a0 _, fun m0 => ⟨give_app00 _ y (by intro q h; simp [h]) (by omega), fun x => ⟨r_valid_b y hb hn hok _ (by intro q h; simp [h]), fun _ => ⟨rfl, fun m => ⟨gives_read (r_supply m y.l x v (by rw [y.hl]; omega) hb hv []) (by intro q h; have h : q ∈ (m, Obj.cells (rC y.l x v).toArray 55) :: frL 58 x := h; exact (List.mem_cons.1 h).elim (fun h => by simp [h]; exact .inl rfl) (fun h => by simp [h])), fun b => ⟨t_fits _ b _ (by intro q h; simp [h]), fun _ => ⟨by rw [decide_eq_false hs]; rfl, ⟨(), rfl, nofun⟩⟩⟩⟩⟩⟩⟩⟩)
theorem r_load_3 (y : Ass) (v : Nat → Nat) (hv : ∀ k, v k < B256) (hb : ∀ i, (y.l.getD i default).b < B256) (hn : y.n ≤ 100000) (hok : okA 0 y.l = true) (hs : totA y.l + sv v 4 < B256) (A : Facts) (hy : Sub y.L A) : Gives Tryd.prog 13 [y.v, VV4 v] A (Nat × FrX (acws y.l)) (fun q => .tuple #[.pointer (some ⟨q.1, 0, none⟩), .int .i64 0]) (fun q => rF q.1 y.l q.2 v) :=
  gives_of_vcF Tryd.mixed good_pontageref11_Load (args := [(y.v, y.L), (VV4 v, [])]) (B := []) (O := [.opt 1 [(0, .call Nat 0 (fun m => .slice (some ⟨m, 0, none⟩) 0 0) (fun m => [(m, .cells #[] 58)])), (2, .call (FrX (acws y.l)) (.inr (0, [])) (fun x => .slice (frO x) (lenB (acws y.l) 6) (frC 6 x)) (fun x => frL 58 x))], .reg [(1, .call Unit () (fun _ => .bool true) (fun _ => []))], .no, .pub 4 [8] (fun | [m] => [.reg [(1, .call (BigX (totA y.l + sv v 4)) (bigX0 (totA y.l + sv v 4)) (fun b => b.v) (fun b => b.L)), (2, .call Unit () (fun _ => .bool (decide (totA y.l + sv v 4 < B256))) (fun _ => []))], .no] | _ => [])]) (.app (.nil _) (.app (hy) (.app (.nil _) (.nil _)))) (⟨build_a0 _, fun m0 => ⟨give_app00 _ y (by intro q h; simp [h]) (by omega), fun x => ⟨r_valid_b y hb hn hok _ (by intro q h; simp [h]), fun _ => ⟨rfl, fun m => ⟨gives_read (r_supply m y.l x v (by rw [y.hl]; omega) hb hv []) (by intro q h; have h : q ∈ (m, Obj.cells (rC y.l x v).toArray 55) :: frL 58 x := h; exact (List.mem_cons.1 h).elim (fun h => by simp [h]; exact .inl rfl) (fun h => by simp [h])), fun b => ⟨t_fits _ b _ (by intro q h; simp [h]), fun _ => ⟨by rw [decide_eq_true hs]; rfl, ⟨(m, x), rfl, by intro q h; have h : q ∈ (m, Obj.cells (rC y.l x v).toArray 55) :: frL 58 x := h; exact (List.mem_cons.1 h).elim (fun h => by simp [h]; exact .inl rfl) (fun h => by simp [h])⟩⟩⟩⟩⟩⟩⟩⟩)
end Go.Proofs.YtkibbcomfjhgpaaDoor

