/- The reference ledger: its six calls do what the package does. No conditions. -/
import Derived.Test.YtkibbcomfjhgpaaDoorK2a
namespace Go.Proofs.YtkibbcomfjhgpaaDoor
open Go.RowKit Sx
set_option maxRecDepth 100000

/-! The reference ledger, told by lookups. -/
structure Same (l acc : List Ac) : Prop where
  once : Once l
  get : ∀ a, getA l a = getA acc a
/-- The reference ledger at p holds accounts with the same lookups as acc, at most c of them, and the vaults v. -/
def rs (p : Nat) (acc : List Ac) (v : Nat → Nat) (c : Nat) : TP := fun F => ∃ l, Same l acc ∧ l.length ≤ c ∧ rlg p ⟨l, v⟩ F
abbrev rqL (p : Nat) (L : Led) (c : Nat) : TP := rs p L.acc L.v c
theorem rs_mono {p : Nat} {acc : List Ac} {v : Nat → Nat} {c c' : Nat} {F : Facts} (h : rs p acc v c F) (hc : c ≤ c') : rs p acc v c' F := by
  obtain ⟨l, h1, h2, h3⟩ := h
  exact ⟨l, h1, Nat.le_trans h2 hc, h3⟩
theorem same_0 : Same [] [] := ⟨List.nodup_nil, fun _ => rfl⟩
theorem same_put {l acc : List Ac} (h : Same l acc) (z : Ac) : Same (putR l z) (putA acc z) :=
  ⟨once_putR h.once z, fun a => by rw [getA_putR, getA_put, h.get]⟩
theorem same_b {l : List Ac} {L : Led} (h : Same l L.acc) (hL : LOk L) (i : Nat) : (l.getD i default).b < B256 := by
  by_cases hi : i < l.length
  · have hm : l.getD i default ∈ l := by simp [List.getD, hi]
    have := getA_mem h.once hm
    rw [h.get] at this
    rw [← this]
    exact hL.b _
  · have e : l.getD i default = default := by simp [List.getD, List.getElem?_eq_none (Nat.le_of_not_lt hi)]
    rw [e]
    exact B256_pos
theorem tot_srt (l : List Ac) : ∀ o, totA (l.foldl (fun o x => if x.emp then o else insA x o) o) = totA o + totA l := by
  induction l with
  | nil => exact fun o => rfl
  | cons x r ih =>
    intro o
    rw [List.foldl_cons, ih, totA]
    by_cases e : x.emp
    · rw [if_pos e, e.1]; omega
    · rw [if_neg e, tot_ins]; omega
theorem same_tot {l : List Ac} {L : Led} (h : Same l L.acc) (hL : LOk L) : totA l = totA L.acc := by
  have h1 := srt_eq h.once hL.asc hL.full h.get
  have h2 := tot_srt l []
  unfold srtA at h1
  rw [h1] at h2
  rw [h2]
  exact (Nat.zero_add _).symm
theorem same_sum {l : List Ac} {L : Led} (h : Same l L.acc) (hL : LOk L) : totA l + sv L.v 4 = L.s := by
  rw [same_tot h hL, hL.sum]
  simp only [sv]
  omega
theorem rs_get {p : Nat} {acc : List Ac} {v : Nat → Nat} {c : Nat} {F : Facts} (g : rs p acc v c F) (hc : c ≤ 1000000) (a : Nat) (A : Facts) : CallR Tryd.prog 36 [.pointer (some ⟨p, 0, none⟩), .int .u64 (a : Int)] A F Unit (fun _ => AV (getA acc a)) (fun _ => []) := by
  obtain ⟨l, hs, hl, x, _, _, rfl⟩ := g
  rw [← hs.get]
  exact r_get p l x v (Nat.le_trans hl hc) a A
theorem rs_put {p : Nat} {acc : List Ac} {v : Nat → Nat} {c : Nat} (hc : c ≤ 1000000) (z : Ac) (A : Facts) : CallT Tryd.prog 63 [.pointer (some ⟨p, 0, none⟩), AV z] A (rs p acc v c) Unit (fun _ => .tuple #[]) (fun _ => []) (fun _ => rs p (putA acc z) v (c + 1)) :=
  callT_of fun F hF => by
    obtain ⟨l, hs, hl, hr⟩ := hF
    refine (r_put p ⟨l, v⟩ (Nat.le_trans hl hc) z A).mono (fun G e => ?_) (fun _ G g => ?_) (.refl _)
    · subst e; exact hr
    · exact ⟨putR l z, same_put hs z, Nat.le_trans (len_putR l z) (by show l.length + 1 ≤ c + 1; omega), g⟩
theorem rs_put_cr {p : Nat} {acc : List Ac} {v : Nat → Nat} {c : Nat} (hc : c ≤ 1000000) (a n : Nat) (A : Facts) : CallT Tryd.prog 63 [.pointer (some ⟨p, 0, none⟩), AV ⟨(getA acc a).a, (getA acc a).b + n, (getA acc a).n⟩] A (rs p acc v c) Unit (fun _ => .tuple #[]) (fun _ => []) (fun _ => rs p (putA acc (crA acc a n)) v (c + 1)) := by
  rw [getA_a]; exact rs_put hc _ A
theorem rs_put_db {p : Nat} {acc : List Ac} {v : Nat → Nat} {c : Nat} (hc : c ≤ 1000000) (a n : Nat) (A : Facts) : CallT Tryd.prog 63 [.pointer (some ⟨p, 0, none⟩), AV ⟨(getA acc a).a, (getA acc a).b - n, (getA acc a).n⟩] A (rs p acc v c) Unit (fun _ => .tuple #[]) (fun _ => []) (fun _ => rs p (putA acc (dbA acc a n)) v (c + 1)) := by
  rw [getA_a]; exact rs_put hc _ A
theorem rs_put_nn {p : Nat} {acc : List Ac} {v : Nat → Nat} {c : Nat} (hc : c ≤ 1000000) (a : Nat) (A : Facts) : CallT Tryd.prog 63 [.pointer (some ⟨p, 0, none⟩), AV ⟨(getA acc a).a, (getA acc a).b, (getA acc a).n + 1⟩] A (rs p acc v c) Unit (fun _ => .tuple #[]) (fun _ => []) (fun _ => rs p (putA acc ⟨a, (getA acc a).b, (getA acc a).n + 1⟩) v (c + 1)) := by
  rw [getA_a]; exact rs_put hc _ A
theorem rs_supply {p : Nat} {L : Led} {c : Nat} {F : Facts} (g : rqL p L c F) (hL : LOk L) (hc : c ≤ 1000000) (A : Facts) : CallR Tryd.prog 20 [.pointer (some ⟨p, 0, none⟩)] A F (BigX L.s) (fun b => b.v) (fun b => b.L) := by
  obtain ⟨l, hs, hl, x, _, _, rfl⟩ := g
  rw [← same_sum hs hL]
  exact r_supply p l x L.v (Nat.le_trans hl hc) (same_b hs hL) hL.v A
section
variable {ρ : Operand → Value} {dst : Option Tmp} {type : TypeId} {pos : String} {after : Array Edge} {guard : Option (Nat × Bool)} {p : Nat} {l acc : List Ac} {v : Nat → Nat} {c : Nat} {A F : Facts} {X Y : Operand}
theorem rs_ldv (g : rs p acc v c F) {k : Nat} (hk : k < 4) (hx : ρ X = .pointer (some ⟨p, 1 + k * 4, none⟩) := by rfl) : ReadsOp Tryd.prog (execOp ρ ⟨dst, .load 31 X, type, pos, after, guard⟩) A F Unit (fun _ => U (v k)) (fun _ => []) := by
  obtain ⟨l, _, _, x, _, _, rfl⟩ := g
  exact rr_ldv hk hx
theorem rs_ldvs (g : rs p acc v c F) (hx : ρ X = .pointer (some ⟨p, 1, none⟩) := by rfl) : ReadsOp Tryd.prog (execOp ρ ⟨dst, .load 41 X, type, pos, after, guard⟩) A F Unit (fun _ => VV4 v) (fun _ => []) := by
  obtain ⟨l, _, _, x, _, _, rfl⟩ := g
  refine rd_of fun w hF => ?_
  have hr : World.rangeAt w p 1 (cV v) := fun j u hj => by
    rw [cell_of_heap (rF_heap hF)]
    have e : rC l x v = .slice (frO x) (lenB (acws l) 6) (frC 6 x) :: cV v := rfl
    rw [e, Nat.add_comm, List.getElem?_cons_succ]
    exact hj
  have hl := run_loadVar_mid w p 1 _ _ _ hr Tryd.underlying41 rfl (by kernel_rfl)
  simp [execOp, Instr.loadAt, hx, Instr.sureAddr, hl]
theorem rC_stv (l : List Ac) (x : FrX (acws l)) (v : Nat → Nat) (n : Nat) {k : Nat} (hk : k < 4) : setRange (rC l x v) (1 + k * 4) (cU n) = rC l x (updV v k n) := by
  rcases (by omega : k = 0 ∨ k = 1 ∨ k = 2 ∨ k = 3) with rfl | rfl | rfl | rfl <;> rfl
theorem rs_stv {k : Nat} (hk : k < 4) (n : Nat) (hx : ρ X = .pointer (some ⟨p, 1 + k * 4, none⟩) := by rfl) (hy : ρ Y = U n := by rfl) :
    GivesT Tryd.prog (execOp ρ ⟨dst, .store 31 X Y, type, pos, after, guard⟩) A (rs p acc v c) Unit (fun _ => undef) (fun _ => []) (fun _ => rs p acc (updV v k n) c) := by
  refine gT_of fun F0 hT => ?_
  obtain ⟨l, hs, hl, x, hok, hne, rfl⟩ := hT
  obtain ⟨inf, hinf, hsz⟩ := info_U
  have h := store_thing (P := Tryd.prog) (ρ := ρ) (dst := dst) (type := type) (pos := pos) (after := after) (guard := guard) (A := A) (X := X) (Y := Y) (m := p) (off := 1 + k * 4) (c := rC l x v) (vs := cU n) (yv := U n) (e := 55) (F0 := rF p l x v) (G := rF p l x (updV v k n))
    hinf hx hy rfl (by rw [hsz]; rfl) (one_cU n) (by rw [hsz]; show 1 + k * 4 + 4 ≤ 17; omega) List.mem_cons_self (fun q hq => by
      rcases List.mem_cons.1 hq with rfl | hq
      · left; rw [rC_stv l x v n hk]
      · exact .inr ⟨List.mem_cons_of_mem _ hq, hne q hq⟩)
  exact gT_mono h fun _ F e => ⟨l, hs, hl, x, hok, hne, e⟩
end
theorem az_t {a : Nat} (h : a = 0) : ((a : Int) == 0) = true := by subst h; rfl
theorem az_f {a : Nat} (h : ¬ a = 0) : ((a : Int) == 0) = false := by simp; omega
theorem az_y {a : Nat} (h : ((a : Int) == 0) = true) : a = 0 := by have := eq_of_beq h; omega
theorem az_n {a : Nat} (h : ((a : Int) == 0) = false) : ¬ a = 0 := by have := ne_of_beq_false h; omega
theorem cmp_lt_t {a b : Nat} (h : a < b) : decide (cmpI a b < 0) = true := by unfold cmpI; rw [if_pos h]; rfl
theorem cmp_lt_f {a b : Nat} (h : ¬ a < b) : decide (cmpI a b < 0) = false := by unfold cmpI; rw [if_neg h]; split <;> rfl
theorem fits_fin (n : Nat) : Value.bool (decide ((nd n : Int) ≤ 16)) = .bool (decide (n < B256)) := by
  have : ((nd n : Int) ≤ 16) ↔ n < B256 := by rw [← nd_16]; omega
  simp only [this]
theorem isv_1 {v : Int} (h : v < 1) : isv v = false := by unfold isv; rw [decide_eq_false (by omega)]; rfl
theorem isv_4 {v : Int} (h : 4 < v) : isv v = false := by unfold isv; rw [decide_eq_false (p := v ≤ 4) (by omega), Bool.and_false]
theorem isv_y {v : Int} (h : ¬ v < 1) (h2 : ¬ 4 < v) : isv v = true := by unfold isv; rw [decide_eq_true (by omega), decide_eq_true (by omega)]; rfl
theorem inc_z {n : Nat} (hn : n < 18446744073709551616) (h : (IntKind.u64.wrap ((n : Int) + 1) == 0) = true) : n = 18446744073709551615 := by
  have h1 := eq_of_beq h
  rcases Nat.lt_or_ge (n + 1) 18446744073709551616 with h2 | h2
  · rw [show ((n : Int) + 1) = ((n + 1 : Nat) : Int) by omega, u64_wrap_nat h2] at h1
    omega
  · omega
theorem inc_nz {n : Nat} (h : (IntKind.u64.wrap ((n : Int) + 1) == 0) = false) : ¬ n = 18446744073709551615 := by
  intro e
  subst e
  exact absurd h (by decide)
theorem inc_lt {n : Nat} (hn : n < 18446744073709551616) (h : (IntKind.u64.wrap ((n : Int) + 1) == 0) = false) : n + 1 < 18446744073709551616 := by have := inc_nz h; omega
theorem good_pontageref1_Sub256 : Good Tryd.prog 62 Tryd.f62 2 := ⟨Tryd.func62, by kernel_rfl, by kernel_rfl⟩
theorem good_pontageref1_Fits : Good Tryd.prog 43 Tryd.f43 1 := ⟨Tryd.func43, by kernel_rfl, by kernel_rfl⟩
theorem good_pontageref11_Ledger_credit : Good Tryd.prog 60 Tryd.f60 3 := ⟨Tryd.func60, by kernel_rfl, by kernel_rfl⟩
theorem good_pontageref11_Ledger_debit : Good Tryd.prog 61 Tryd.f61 3 := ⟨Tryd.func61, by kernel_rfl, by kernel_rfl⟩
theorem good_pontageref11_Ledger_Mint : Good Tryd.prog 30 Tryd.f30 3 := ⟨Tryd.func30, by kernel_rfl, by kernel_rfl⟩
theorem good_pontageref11_Ledger_Transfer : Good Tryd.prog 31 Tryd.f31 4 := ⟨Tryd.func31, by kernel_rfl, by kernel_rfl⟩
theorem good_pontageref11_Ledger_PayVault : Good Tryd.prog 32 Tryd.f32 4 := ⟨Tryd.func32, by kernel_rfl, by kernel_rfl⟩
theorem good_pontageref11_Ledger_Withdraw : Good Tryd.prog 33 Tryd.f33 3 := ⟨Tryd.func33, by kernel_rfl, by kernel_rfl⟩
theorem good_pontageref11_Ledger_WithdrawVault : Good Tryd.prog 34 Tryd.f34 3 := ⟨Tryd.func34, by kernel_rfl, by kernel_rfl⟩
theorem good_pontageref11_Ledger_IncrementNonce : Good Tryd.prog 35 Tryd.f35 2 := ⟨Tryd.func35, by kernel_rfl, by kernel_rfl⟩
theorem r_sub_k (a b : Nat) (ha : a < B256) (hb : b < B256) (h : b ≤ a) : Det Tryd.prog 62 [U a, U b] (.tuple #[U (a - b), .int .i64 0]) :=
  det_of_vc Tryd.mixed good_pontageref1_Sub256 (O := [.reg [(1, big (a)), (3, big (b))], .reg [(2, .call Unit () (fun _ => .int .i64 (cmpI a b)) (fun _ => []))], .no, .reg [(2, big (a - b)), (3, det (U (a - b)))]]) fun _ => ⟨c_from a ha _, fun x => ⟨c_from b hb _, fun y => ⟨c_cmp x y _ (by intro q h; simp [h]) (by intro q h; simp [h]), fun _ => ⟨cmp_lt_f (Nat.not_lt.2 h), ⟨c_sub x y (nd_w ha) h _ (by intro q h; simp [h]) (by intro q h; simp [h]), fun d => ⟨c_to d (Nat.lt_of_le_of_lt (Nat.sub_le _ _) ha) _ (by intro q h; simp [h]), fun _ => ⟨(), rfl, nofun⟩⟩⟩⟩⟩⟩⟩
theorem r_sub_o (a b : Nat) (ha : a < B256) (hb : b < B256) (h : ¬ b ≤ a) : Det Tryd.prog 62 [U a, U b] (.tuple #[.agg #[.int .u64 0, .int .u64 0, .int .u64 0, .int .u64 0], .int .i64 4]) :=
  det_of_vc Tryd.mixed good_pontageref1_Sub256 (O := [.reg [(1, big (a)), (3, big (b))], .reg [(2, .call Unit () (fun _ => .int .i64 (cmpI a b)) (fun _ => []))], .yes]) fun _ => ⟨c_from a ha _, fun x => ⟨c_from b hb _, fun y => ⟨c_cmp x y _ (by intro q h; simp [h]) (by intro q h; simp [h]), fun _ => ⟨cmp_lt_t (Nat.lt_of_not_le h), ⟨(), rfl, nofun⟩⟩⟩⟩⟩
theorem t_fits (n : Nat) (x : BigX n) (A : Facts) (hx : Sub x.L A) : Gives Tryd.prog 43 [x.v] A (Unit) (fun _ => .bool (decide (n < B256))) (fun _ => []) :=
  gives_of_vcF Tryd.mixed good_pontageref1_Fits (args := [(x.v, x.L)]) (B := []) (O := []) (.app (.nil _) (.app (hx) (.nil _))) (⟨(), fits_fin n, nofun⟩)
theorem rs_credit (p : Nat) (acc : List Ac) (v : Nat → Nat) (c : Nat) (hc : c ≤ 1000000) (a n : Nat) (hn : n < B256) (hb : (getA acc a).b < B256) (hf : (getA acc a).b + n < B256) (A : Facts) : CallT Tryd.prog 60 [.pointer (some ⟨p, 0, none⟩), .int .u64 (a : Int), U n] A (rs p acc v c) (Unit) (fun _ => .tuple #[]) (fun _ => []) (fun _ => rs p (putA acc (crA acc a n)) v (c + 1)) :=
  givesT_of_vcF Tryd.mixed good_pontageref11_Ledger_credit (args := [(.pointer (some ⟨p, 0, none⟩), []), (.int .u64 (a : Int), []), (U n, [])]) (B := A) (O := [.reg [(2, .rdT 0 Unit () (fun _ => AV (getA acc a)) (fun _ => []))], .reg [(2, big ((getA acc a).b)), (4, big (n)), (5, big ((getA acc a).b + n)), (6, det (U ((getA acc a).b + n)))], .reg [(2, .thg 0 Unit () (fun _ => .tuple #[]) (fun _ => []) (fun _ => rs p (putA acc (crA acc a n)) v (c + 1)))]]) (.app ((.refl _)) (.app (.nil _) (.app (.nil _) (.app (.nil _) (.nil _))))) (⟨fun _ g => callR_op (rs_get g hc a _) rfl rfl, fun _ => ⟨c_from (getA acc a).b hb _, fun x => ⟨c_from n hn _, fun y => ⟨c_add x y (nd_w hb) (nd_w hn) _ (by intro q h; simp [h]) (by intro q h; simp [h]), fun z => ⟨c_to z hf _ (by intro q h; simp [h]), fun _ => ⟨callT_op (rs_put_cr hc a n _) rfl rfl, fun _ => ⟨(), rfl, nofun, fun _ g => g, trivial⟩⟩⟩⟩⟩⟩⟩)
theorem rs_debit (p : Nat) (acc : List Ac) (v : Nat → Nat) (c : Nat) (hc : c ≤ 1000000) (a n : Nat) (hn : n < B256) (hb : (getA acc a).b < B256) (hf : n ≤ (getA acc a).b) (A : Facts) : CallT Tryd.prog 61 [.pointer (some ⟨p, 0, none⟩), .int .u64 (a : Int), U n] A (rs p acc v c) (Unit) (fun _ => .bool true) (fun _ => []) (fun _ => rs p (putA acc (dbA acc a n)) v (c + 1)) :=
  givesT_of_vcF Tryd.mixed good_pontageref11_Ledger_debit (args := [(.pointer (some ⟨p, 0, none⟩), []), (.int .u64 (a : Int), []), (U n, [])]) (B := A) (O := [.reg [(2, .rdT 0 Unit () (fun _ => AV (getA acc a)) (fun _ => []))], .reg [(3, det (.tuple #[U ((getA acc a).b - n), .int .i64 0]))], .no, .reg [(2, .thg 0 Unit () (fun _ => .tuple #[]) (fun _ => []) (fun _ => rs p (putA acc (dbA acc a n)) v (c + 1)))]]) (.app ((.refl _)) (.app (.nil _) (.app (.nil _) (.app (.nil _) (.nil _))))) (⟨fun _ g => callR_op (rs_get g hc a _) rfl rfl, fun _ => ⟨r_sub_k (getA acc a).b n hb hn hf _, fun _ => ⟨rfl, ⟨callT_op (rs_put_db hc a n _) rfl rfl, fun _ => ⟨(), rfl, nofun, fun _ g => g, trivial⟩⟩⟩⟩⟩)
theorem rs_debit_o (p : Nat) (acc : List Ac) (v : Nat → Nat) (c : Nat) (hc : c ≤ 1000000) (a n : Nat) (hn : n < B256) (hb : (getA acc a).b < B256) (hf : ¬ n ≤ (getA acc a).b) (A : Facts) : CallT Tryd.prog 61 [.pointer (some ⟨p, 0, none⟩), .int .u64 (a : Int), U n] A (rs p acc v c) (Unit) (fun _ => .bool false) (fun _ => []) (fun _ => rs p acc v c) :=
  givesT_of_vcF Tryd.mixed good_pontageref11_Ledger_debit (args := [(.pointer (some ⟨p, 0, none⟩), []), (.int .u64 (a : Int), []), (U n, [])]) (B := A) (O := [.reg [(2, .rdT 0 Unit () (fun _ => AV (getA acc a)) (fun _ => []))], .reg [(3, det (.tuple #[.agg #[.int .u64 0, .int .u64 0, .int .u64 0, .int .u64 0], .int .i64 4]))], .yes]) (.app ((.refl _)) (.app (.nil _) (.app (.nil _) (.app (.nil _) (.nil _))))) (⟨fun _ g => callR_op (rs_get g hc a _) rfl rfl, fun _ => ⟨r_sub_o (getA acc a).b n hb hn hf _, fun _ => ⟨rfl, ⟨(), rfl, nofun, fun _ g => g, trivial⟩⟩⟩⟩)
theorem rs_mint (p : Nat) (L : Led) (hL : LOk L) (c : Nat) (hc : c + 2 ≤ 1000000) (a n : Nat) (hn : n < B256) (A : Facts) : CallT Tryd.prog 30 [.pointer (some ⟨p, 0, none⟩), .int .u64 (a : Int), U n] A (rqL p L c) (Unit) (fun _ => .int .i64 (mint L a n).1) (fun _ => []) (fun _ => rqL p (mint L a n).2 (c + 2)) :=
  givesT_of_vcF Tryd.mixed good_pontageref11_Ledger_Mint (args := [(.pointer (some ⟨p, 0, none⟩), []), (.int .u64 (a : Int), []), (U n, [])]) (B := A) (O := [.both [] [.reg [(1, .rdT 0 (BigX L.s) (bigX0 L.s) (fun b => b.v) (fun b => b.L)), (3, big (n)), (4, big (L.s + n)), (5, .call Unit () (fun _ => .bool (decide (L.s + n < B256))) (fun _ => []))], .both [] [.reg [(3, .thg 0 Unit () (fun _ => .tuple #[]) (fun _ => []) (fun _ => rs p (putA L.acc (crA L.acc a n)) L.v (c + 1)))]]]]) (.app ((.refl _)) (.app (.nil _) (.app (.nil _) (.app (.nil _) (.nil _))))) (⟨fun h1 => ⟨(), (by rw [mint_0 (az_y h1)]; rfl), nofun, fun _ g => by rw [mint_0 (az_y h1)]; exact rs_mono g (by omega), trivial⟩, fun h1 => ⟨fun _ g => callR_op (rs_supply g hL (by omega) _) rfl rfl, fun b0 => ⟨c_from n hn _, fun b1 => ⟨c_add b0 b1 (nd_w hL.s) (nd_w hn) _ (by intro q h; simp [h]) (by intro q h; simp [h]), fun b2 => ⟨t_fits _ b2 _ (by intro q h; simp [h]), fun _ => ⟨fun h2 => ⟨(), (by rw [mint_1 (az_n h1) (of_decide_eq_false (by simpa using h2))]; rfl), nofun, fun _ g => by rw [mint_1 (az_n h1) (of_decide_eq_false (by simpa using h2))]; exact rs_mono g (by omega), trivial⟩, fun h2 => ⟨callT_op (rs_credit p L.acc L.v c (by omega) a n hn (hL.b a) (by have := hL.bs a; have : L.s + n < B256 := of_decide_eq_true (by simpa using h2); show (getA L.acc a).b + n < _; omega) _) rfl rfl, fun _ => ⟨(), (by rw [mint_2 (az_n h1) (of_decide_eq_true (by simpa using h2))]; rfl), nofun, fun _ g => by rw [mint_2 (az_n h1) (of_decide_eq_true (by simpa using h2))]; exact rs_mono g (by omega), trivial⟩⟩⟩⟩⟩⟩⟩⟩)
theorem rs_trans (p : Nat) (L : Led) (hL : LOk L) (c : Nat) (hc : c + 2 ≤ 1000000) (a b n : Nat) (ha : a < 18446744073709551616) (hn : n < B256) (A : Facts) : CallT Tryd.prog 31 [.pointer (some ⟨p, 0, none⟩), .int .u64 (a : Int), .int .u64 (b : Int), U n] A (rqL p L c) (Unit) (fun _ => .int .i64 (trans L a b n).1) (fun _ => []) (fun _ => rqL p (trans L a b n).2 (c + 2)) :=
  givesT_of_vcF Tryd.mixed good_pontageref11_Ledger_Transfer (args := [(.pointer (some ⟨p, 0, none⟩), []), (.int .u64 (a : Int), []), (.int .u64 (b : Int), []), (U n, [])]) (B := A) (O := [.alt [(a = 0, [(3, .no), (4, .no), (5, .yes)], [.yes]), (b = 0, [(3, .yes), (4, .yes), (5, .no)], [.yes]), (True, [(3, .yes), (4, .yes), (5, .no)], [.no, .alt [(n ≤ (getA L.acc a).b, [(3, .thg 0 Unit () (fun _ => .bool true) (fun _ => []) (fun _ => rs p (putA L.acc (dbA L.acc a n)) L.v (c + 1)))], [.no, .reg [(3, .thg 0 Unit () (fun _ => .tuple #[]) (fun _ => []) (fun _ => rs p (putA (putA L.acc (dbA L.acc a n)) (crA (putA L.acc (dbA L.acc a n)) b n)) L.v (c + 1 + 1)))]]), (True, [(3, .thg 0 Unit () (fun _ => .bool false) (fun _ => []) (fun _ => rs p L.acc L.v c))], [.yes])]])]]) (.app ((.refl _)) (.app (.nil _) (.app (.nil _) (.app (.nil _) (.app (.nil _) (.nil _)))))) (⟨fun h1 => ⟨gft (az_t h1), ⟨gft (az_t h1), ⟨(az_t h1), ⟨rfl, ⟨(), (by rw [trans_0 (.inl h1)]; rfl), nofun, fun _ g => by rw [trans_0 (.inl h1)]; exact rs_mono g (by omega), trivial⟩⟩⟩⟩⟩, fun h1 => ⟨fun h2 => ⟨gff (az_f h1), ⟨gff (az_f h1), ⟨(az_f h1), ⟨(az_t h2), ⟨(), (by rw [trans_0 (.inr h2)]; rfl), nofun, fun _ g => by rw [trans_0 (.inr h2)]; exact rs_mono g (by omega), trivial⟩⟩⟩⟩⟩, fun h2 => ⟨fun _ => ⟨gff (az_f h1), ⟨gff (az_f h1), ⟨(az_f h1), ⟨(az_f h2), ⟨fun h3 => ⟨callT_op (rs_debit p L.acc L.v c (by omega) a n hn (hL.b a) h3 _) rfl rfl, fun _ => ⟨rfl, ⟨callT_op (rs_credit p (putA L.acc (dbA L.acc a n)) L.v (c + 1) (show c + 1 ≤ 1000000 by omega) b n hn (by have := (ok_mid hL ha h1 h3).b b; exact this) (by have := (ok_mid hL ha h1 h3).bs b; have := hL.bs a; have := hL.s; show (getA (putA L.acc (dbA L.acc a n)) b).b + n < _; simp only at *; omega) _) rfl rfl, fun _ => ⟨(), (by rw [trans_2 (fun e => e.elim h1 h2) h3]; rfl), nofun, fun _ g => by rw [trans_2 (fun e => e.elim h1 h2) h3]; exact rs_mono g (by omega), trivial⟩⟩⟩⟩, fun h3 => ⟨fun _ => ⟨callT_op (rs_debit_o p L.acc L.v c (by omega) a n hn (hL.b a) h3 _) rfl rfl, fun _ => ⟨rfl, ⟨(), (by rw [trans_1 (fun e => e.elim h1 h2) h3]; rfl), nofun, fun _ g => by rw [trans_1 (fun e => e.elim h1 h2) h3]; exact rs_mono g (by omega), trivial⟩⟩⟩, fun h => (h trivial).elim⟩⟩⟩⟩⟩⟩, fun h => (h trivial).elim⟩⟩⟩)
theorem rs_withd (p : Nat) (L : Led) (hL : LOk L) (c : Nat) (hc : c + 2 ≤ 1000000) (a n : Nat) (hn : n < B256) (A : Facts) : CallT Tryd.prog 33 [.pointer (some ⟨p, 0, none⟩), .int .u64 (a : Int), U n] A (rqL p L c) (Unit) (fun _ => .int .i64 (withd L a n).1) (fun _ => []) (fun _ => rqL p (withd L a n).2 (c + 2)) :=
  givesT_of_vcF Tryd.mixed good_pontageref11_Ledger_Withdraw (args := [(.pointer (some ⟨p, 0, none⟩), []), (.int .u64 (a : Int), []), (U n, [])]) (B := A) (O := [.both [] [.alt [(n ≤ (getA L.acc a).b, [(3, .thg 0 Unit () (fun _ => .bool true) (fun _ => []) (fun _ => rs p (putA L.acc (dbA L.acc a n)) L.v (c + 1)))], [.no]), (True, [(3, .thg 0 Unit () (fun _ => .bool false) (fun _ => []) (fun _ => rs p L.acc L.v c))], [.yes])]]]) (.app ((.refl _)) (.app (.nil _) (.app (.nil _) (.app (.nil _) (.nil _))))) (⟨fun h1 => ⟨(), (by rw [withd_0 (az_y h1)]; rfl), nofun, fun _ g => by rw [withd_0 (az_y h1)]; exact rs_mono g (by omega), trivial⟩, fun h1 => ⟨fun h3 => ⟨callT_op (rs_debit p L.acc L.v c (by omega) a n hn (hL.b a) h3 _) rfl rfl, fun _ => ⟨rfl, ⟨(), (by rw [withd_2 (az_n h1) h3]; rfl), nofun, fun _ g => by rw [withd_2 (az_n h1) h3]; exact rs_mono g (by omega), trivial⟩⟩⟩, fun h3 => ⟨fun _ => ⟨callT_op (rs_debit_o p L.acc L.v c (by omega) a n hn (hL.b a) h3 _) rfl rfl, fun _ => ⟨rfl, ⟨(), (by rw [withd_1 (az_n h1) h3]; rfl), nofun, fun _ g => by rw [withd_1 (az_n h1) h3]; exact rs_mono g (by omega), trivial⟩⟩⟩, fun h => (h trivial).elim⟩⟩⟩)
theorem rs_payv (p : Nat) (L : Led) (hL : LOk L) (c : Nat) (hc : c + 2 ≤ 1000000) (a n : Nat) (v : Int) (hn : n < B256) (A : Facts) : CallT Tryd.prog 32 [.pointer (some ⟨p, 0, none⟩), .int .u64 (a : Int), .int .i64 v, U n] A (rqL p L c) (Unit) (fun _ => .int .i64 (payv L a v n).1) (fun _ => []) (fun _ => rqL p (payv L a v n).2 (c + 2)) :=
  givesT_of_vcF Tryd.mixed good_pontageref11_Ledger_PayVault (args := [(.pointer (some ⟨p, 0, none⟩), []), (.int .u64 (a : Int), []), (.int .i64 v, []), (U n, [])]) (B := A) (O := [.alt [(a = 0, [(3, .no), (4, .no), (5, .yes), (7, .no), (8, .no), (9, .yes)], [.yes]), (v < 1, [(3, .yes), (4, .yes), (5, .no), (7, .no), (8, .no), (9, .yes)], [.yes]), (4 < v, [(3, .yes), (4, .yes), (5, .no), (7, .yes), (8, .yes), (9, .no)], [.yes]), (True, [(3, .yes), (4, .yes), (5, .no), (7, .yes), (8, .yes), (9, .no)], [.no, .alt [(n ≤ (getA L.acc a).b, [(3, .thg 0 Unit () (fun _ => .bool true) (fun _ => []) (fun _ => rs p (putA L.acc (dbA L.acc a n)) L.v (c + 1)))], [.no, .reg [(2, .ld (.int .i64 ((vix v : Nat) : Int))), (5, .ld (.int .i64 ((vix v : Nat) : Int))), (8, .ld (.pointer (some ⟨p, 1 + vix v * 4, none⟩))), (9, .rdT 0 Unit () (fun _ => U (L.v (vix v))) (fun _ => [])), (10, big ((L.v (vix v)))), (12, big (n)), (13, big (L.v (vix v) + n)), (14, det (U (L.v (vix v) + n))), (17, .ld (.pointer (some ⟨p, 1 + vix v * 4, none⟩))), (18, .thg 0 Unit () (fun _ => undef) (fun _ => []) (fun _ => rs p (putA L.acc (dbA L.acc a n)) (updV L.v (vix v) (L.v (vix v) + n)) (c + 1)))]]), (True, [(3, .thg 0 Unit () (fun _ => .bool false) (fun _ => []) (fun _ => rs p L.acc L.v c))], [.yes])]])]]) (.app ((.refl _)) (.app (.nil _) (.app (.nil _) (.app (.nil _) (.app (.nil _) (.nil _)))))) (⟨fun h1 => ⟨gft (az_t h1), ⟨gft (az_t h1), ⟨(az_t h1), ⟨gft rfl, ⟨gft rfl, ⟨rfl, ⟨rfl, ⟨(), (by rw [payv_0 (.inl h1)]; rfl), nofun, fun _ g => by rw [payv_0 (.inl h1)]; exact rs_mono g (by omega), trivial⟩⟩⟩⟩⟩⟩⟩⟩, fun h1 => ⟨fun h4 => ⟨gff (az_f h1), ⟨gff (az_f h1), ⟨(az_f h1), ⟨gft (v_lt1 h4), ⟨gft (v_lt1 h4), ⟨(v_lt1 h4), ⟨rfl, ⟨(), (by rw [payv_0 (.inr (isv_1 h4))]; rfl), nofun, fun _ g => by rw [payv_0 (.inr (isv_1 h4))]; exact rs_mono g (by omega), trivial⟩⟩⟩⟩⟩⟩⟩⟩, fun h4 => ⟨fun h5 => ⟨gff (az_f h1), ⟨gff (az_f h1), ⟨(az_f h1), ⟨gff (v_nlt1 h4), ⟨gff (v_nlt1 h4), ⟨(v_nlt1 h4), ⟨(v_gt4 h5), ⟨(), (by rw [payv_0 (.inr (isv_4 h5))]; rfl), nofun, fun _ g => by rw [payv_0 (.inr (isv_4 h5))]; exact rs_mono g (by omega), trivial⟩⟩⟩⟩⟩⟩⟩⟩, fun h5 => ⟨fun _ => ⟨gff (az_f h1), ⟨gff (az_f h1), ⟨(az_f h1), ⟨gff (v_nlt1 h4), ⟨gff (v_nlt1 h4), ⟨(v_nlt1 h4), ⟨(v_ngt4 h5), ⟨fun h3 => ⟨callT_op (rs_debit p L.acc L.v c (by omega) a n hn (hL.b a) h3 _) rfl rfl, fun _ => ⟨rfl, ⟨ld_sub1 (vix v) (isv_ix (isv_y h4 h5)).1 (isv_ix (isv_y h4 h5)).2 _, ⟨ld_sub1 (vix v) (isv_ix (isv_y h4 h5)).1 (isv_ix (isv_y h4 h5)).2 _, ⟨kt_ix p (isv_ix (isv_y h4 h5)).2 _ rfl, ⟨fun _ g => rs_ldv g (isv_ix (isv_y h4 h5)).2, fun _ => ⟨c_from (L.v (vix v)) (hL.v _) _, fun x => ⟨c_from n hn _, fun y => ⟨c_add x y (nd_w (hL.v _)) (nd_w hn) _ (by intro q h; simp [h]) (by intro q h; simp [h]), fun z => ⟨c_to z (by have := hL.bv a (isv_ix (isv_y h4 h5)).2; have := hL.s; omega) _ (by intro q h; simp [h]), fun _ => ⟨kt_ix p (isv_ix (isv_y h4 h5)).2 _ rfl, ⟨rs_stv (isv_ix (isv_y h4 h5)).2 _, fun _ => ⟨(), (by rw [payv_2 (fun e => e.elim h1 (fun e => by rw [(isv_y h4 h5)] at e; cases e)) h3]; rfl), nofun, fun _ g => by rw [payv_2 (fun e => e.elim h1 (fun e => by rw [(isv_y h4 h5)] at e; cases e)) h3]; exact rs_mono g (by omega), trivial⟩⟩⟩⟩⟩⟩⟩⟩⟩⟩⟩⟩⟩, fun h3 => ⟨fun _ => ⟨callT_op (rs_debit_o p L.acc L.v c (by omega) a n hn (hL.b a) h3 _) rfl rfl, fun _ => ⟨rfl, ⟨(), (by rw [payv_1 (fun e => e.elim h1 (fun e => by rw [(isv_y h4 h5)] at e; cases e)) h3]; rfl), nofun, fun _ g => by rw [payv_1 (fun e => e.elim h1 (fun e => by rw [(isv_y h4 h5)] at e; cases e)) h3]; exact rs_mono g (by omega), trivial⟩⟩⟩, fun h => (h trivial).elim⟩⟩⟩⟩⟩⟩⟩⟩⟩, fun h => (h trivial).elim⟩⟩⟩⟩)
theorem rs_withv (p : Nat) (L : Led) (hL : LOk L) (c : Nat) (_hc : c + 2 ≤ 1000000) (n : Nat) (v : Int) (hn : n < B256) (A : Facts) : CallT Tryd.prog 34 [.pointer (some ⟨p, 0, none⟩), .int .i64 v, U n] A (rqL p L c) (Unit) (fun _ => .int .i64 (withv L v n).1) (fun _ => []) (fun _ => rqL p (withv L v n).2 (c + 2)) :=
  givesT_of_vcF Tryd.mixed good_pontageref11_Ledger_WithdrawVault (args := [(.pointer (some ⟨p, 0, none⟩), []), (.int .i64 v, []), (U n, [])]) (B := A) (O := [.alt [(v < 1, [(3, .no), (4, .no), (5, .yes)], [.yes]), (4 < v, [(3, .yes), (4, .yes), (5, .no)], [.yes]), (True, [(3, .yes), (4, .yes), (5, .no)], [.no, .alt [(n ≤ L.v (vix v), [(2, .ld (.int .i64 ((vix v : Nat) : Int))), (5, .ld (.pointer (some ⟨p, 1 + vix v * 4, none⟩))), (6, .rdT 0 Unit () (fun _ => U (L.v (vix v))) (fun _ => [])), (8, det (.tuple #[U (L.v (vix v) - n), .int .i64 0]))], [.no, .opt 6 [(2, .ld (.int .i64 ((vix v : Nat) : Int))), (6, .ld (.pointer (some ⟨p, 1 + vix v * 4, none⟩))), (7, .thg 0 Unit () (fun _ => undef) (fun _ => []) (fun _ => rs p L.acc (updV L.v (vix v) (L.v (vix v) - n)) c))]]), (True, [(2, .ld (.int .i64 ((vix v : Nat) : Int))), (5, .ld (.pointer (some ⟨p, 1 + vix v * 4, none⟩))), (6, .rdT 0 Unit () (fun _ => U (L.v (vix v))) (fun _ => [])), (8, det (.tuple #[.agg #[.int .u64 0, .int .u64 0, .int .u64 0, .int .u64 0], .int .i64 4]))], [.yes])]])]]) (.app ((.refl _)) (.app (.nil _) (.app (.nil _) (.app (.nil _) (.nil _))))) (⟨fun h4 => ⟨gft (v_lt1 h4), ⟨gft (v_lt1 h4), ⟨(v_lt1 h4), ⟨rfl, ⟨(), (by rw [withv_0 (isv_1 h4)]; rfl), nofun, fun _ g => by rw [withv_0 (isv_1 h4)]; exact rs_mono g (by omega), trivial⟩⟩⟩⟩⟩, fun h4 => ⟨fun h5 => ⟨gff (v_nlt1 h4), ⟨gff (v_nlt1 h4), ⟨(v_nlt1 h4), ⟨(v_gt4 h5), ⟨(), (by rw [withv_0 (isv_4 h5)]; rfl), nofun, fun _ g => by rw [withv_0 (isv_4 h5)]; exact rs_mono g (by omega), trivial⟩⟩⟩⟩⟩, fun h5 => ⟨fun _ => ⟨gff (v_nlt1 h4), ⟨gff (v_nlt1 h4), ⟨(v_nlt1 h4), ⟨(v_ngt4 h5), ⟨fun h3 => ⟨ld_sub1 (vix v) (isv_ix (isv_y h4 h5)).1 (isv_ix (isv_y h4 h5)).2 _, ⟨kt_ix p (isv_ix (isv_y h4 h5)).2 _ rfl, ⟨fun _ g => rs_ldv g (isv_ix (isv_y h4 h5)).2, fun _ => ⟨r_sub_k (L.v (vix v)) n (hL.v _) hn h3 _, fun _ => ⟨rfl, ⟨ld_sub1 (vix v) (isv_ix (isv_y h4 h5)).1 (isv_ix (isv_y h4 h5)).2 _, ⟨kt_ix p (isv_ix (isv_y h4 h5)).2 _ rfl, ⟨rs_stv (isv_ix (isv_y h4 h5)).2 _, fun _ => ⟨(), (by rw [withv_2 (isv_y h4 h5) h3]; rfl), nofun, fun _ g => by rw [withv_2 (isv_y h4 h5) h3]; exact rs_mono g (by omega), trivial⟩⟩⟩⟩⟩⟩⟩⟩⟩, fun h3 => ⟨fun _ => ⟨ld_sub1 (vix v) (isv_ix (isv_y h4 h5)).1 (isv_ix (isv_y h4 h5)).2 _, ⟨kt_ix p (isv_ix (isv_y h4 h5)).2 _ rfl, ⟨fun _ g => rs_ldv g (isv_ix (isv_y h4 h5)).2, fun _ => ⟨r_sub_o (L.v (vix v)) n (hL.v _) hn h3 _, fun _ => ⟨rfl, ⟨(), (by rw [withv_1 (isv_y h4 h5) h3]; rfl), nofun, fun _ g => by rw [withv_1 (isv_y h4 h5) h3]; exact rs_mono g (by omega), trivial⟩⟩⟩⟩⟩⟩, fun h => (h trivial).elim⟩⟩⟩⟩⟩⟩, fun h => (h trivial).elim⟩⟩⟩)
theorem rs_incn (p : Nat) (L : Led) (hL : LOk L) (c : Nat) (hc : c + 2 ≤ 1000000) (a : Nat) (A : Facts) : CallT Tryd.prog 35 [.pointer (some ⟨p, 0, none⟩), .int .u64 (a : Int)] A (rqL p L c) (Unit) (fun _ => .int .i64 (incn L a).1) (fun _ => []) (fun _ => rqL p (incn L a).2 (c + 2)) :=
  givesT_of_vcF Tryd.mixed good_pontageref11_Ledger_IncrementNonce (args := [(.pointer (some ⟨p, 0, none⟩), []), (.int .u64 (a : Int), [])]) (B := A) (O := [.both [] [.reg [(2, .rdT 0 Unit () (fun _ => AV (getA L.acc a)) (fun _ => []))], .both [] [.opt 6 [(2, .ld (.int .u64 (((getA L.acc a).n + 1 : Nat) : Int)))], .reg [(2, .thg 0 Unit () (fun _ => .tuple #[]) (fun _ => []) (fun _ => rs p (putA L.acc ⟨a, (getA L.acc a).b, (getA L.acc a).n + 1⟩) L.v (c + 1)))]]]]) (.app ((.refl _)) (.app (.nil _) (.app (.nil _) (.nil _)))) (⟨fun h1 => ⟨(), (by rw [incn_0 (az_y h1)]; rfl), nofun, fun _ g => by rw [incn_0 (az_y h1)]; exact rs_mono g (by omega), trivial⟩, fun h1 => ⟨fun _ g => callR_op (rs_get g (by omega) a _) rfl rfl, fun _ => ⟨fun h2 => ⟨(), (by rw [incn_1 (az_n h1) (inc_z (hL.n a) h2)]; rfl), nofun, fun _ g => by rw [incn_1 (az_n h1) (inc_z (hL.n a) h2)]; exact rs_mono g (by omega), trivial⟩, fun h2 => ⟨ld_inc (n := (getA L.acc a).n) (inc_lt (hL.n a) h2) _, ⟨callT_op (rs_put_nn (by omega) a _) rfl rfl, fun _ => ⟨(), (by rw [incn_2 (az_n h1) (inc_nz h2)]; rfl), nofun, fun _ g => by rw [incn_2 (az_n h1) (inc_nz h2)]; exact rs_mono g (by omega), trivial⟩⟩⟩⟩⟩⟩)
end Go.Proofs.YtkibbcomfjhgpaaDoor

