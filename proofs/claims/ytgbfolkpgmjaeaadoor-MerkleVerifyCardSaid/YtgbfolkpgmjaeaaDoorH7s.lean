/- Package hash over this translation: Sum and Leaf. Condition: the table of round constants holds the round constants. -/
import Derived.Test.YtgbfolkpgmjaeaaDoorH7p
namespace Go.Proofs.YtgbfolkpgmjaeaaDoor
open Go.RowKit Sx
set_option maxRecDepth 100000

theorem ld_ch8 {t : TypeId} {L : Facts} (f : Nat → UInt32) : ldOwn Tryd.prog 65 ⟨t, ws f 8, L⟩ 0 = some (.agg (ws f 8).toArray) := by
  obtain ⟨inf, hinf, hs⟩ : ∃ i, Tryd.prog.info? 65 = some i ∧ i.size = 8 := by
    have h1 : (Tryd.prog.info? 65).map (fun i => i.size) = some 8 := by kernel_rfl
    cases h : Tryd.prog.info? 65 with
    | none => rw [h] at h1; cases h1
    | some i => rw [h] at h1; simp at h1; exact ⟨i, rfl, h1⟩
  unfold ldOwn
  simp only [Tryd.underlying65, hinf, hs]
  rfl
theorem ld_h32 {t : TypeId} {L : Facts} (f : Nat → UInt8) : ldOwn Tryd.prog 28 ⟨t, bsc f 32, L⟩ 0 = some (H8 f) := by
  obtain ⟨inf, hinf, hs⟩ : ∃ i, Tryd.prog.info? 28 = some i ∧ i.size = 32 := by
    have h1 : (Tryd.prog.info? 28).map (fun i => i.size) = some 32 := by kernel_rfl
    cases h : Tryd.prog.info? 28 with
    | none => rw [h] at h1; cases h1
    | some i => rw [h] at h1; simp at h1; exact ⟨i, rfl, h1⟩
  unfold ldOwn
  simp only [Tryd.underlying28, hinf, hs]
  rfl
theorem ix_ch {t : TypeId} {L : Facts} (f : Nat → UInt32) {i : Nat} (hi : i < 8) : ldOwn Tryd.prog 62 ⟨t, (ws f 8).toArray.toList, L⟩ ((i : Int).toNat * (elSize Tryd.prog 62)) = some (w32 (f i)) := by
  have h1 : elSize Tryd.prog 62 = 1 := by kernel_rfl
  rw [h1]
  show ((ws f 8).drop _).head? = _
  have := cl_at (fun i => w32 (f i)) (n := 8) (j := i) (z := (i : Int)) rfl hi
  rwa [Nat.zero_add] at this
/-- The loop over whole blocks. -/
structure AbX (y : Byt) (c : Nat → UInt32) where
  z : Byt
  s : Nat → UInt32
  hL : ∀ q ∈ z.L, q ∈ y.L
  hn : z.n ≤ y.n
  he : ab (z.n / 64) s z.l = ab (y.n / 64) c y.l
theorem ge64 {n : Nat} (h : decide ((n : Int) ≥ 64) = true) : 64 ≤ n := by have := of_decide_eq_true h; omega
theorem lt64 {n : Nat} (h : decide ((n : Int) ≥ 64) = false) : n < 64 := by have := of_decide_eq_false h; omega
theorem ab_step {l : List UInt8} {n : Nat} (hl : l.length = n) (h : 64 ≤ n) (s : Nat → UInt32) : ab ((n - 64) / 64) (blk s ((l.drop 0).take (64 - 0))) ((l.drop 64).take (n - 64)) = ab (n / 64) s l := by
  rw [show n / 64 = (n - 64) / 64 + 1 by omega, List.drop_zero]
  show _ = ab ((n - 64) / 64) (blk s (l.take 64)) (l.drop 64)
  rw [show (l.drop 64).take (n - 64) = l.drop 64 from List.take_of_length_le (by rw [List.length_drop]; omega)]
def AbX.next {y : Byt} {c : Nat → UInt32} (x : AbX y c) (h : 64 ≤ x.z.n) : AbX y c where
  z := x.z.sub 64 x.z.n h (Nat.le_refl _)
  s := blk x.s ((x.z.l.drop 0).take (64 - 0))
  hL := x.hL
  hn := Nat.le_trans (Nat.sub_le _ _) x.hn
  he := (ab_step x.z.hl h x.s).trans x.he
theorem AbX.fin {y : Byt} {c : Nat → UInt32} (x : AbX y c) (h : x.z.n < 64) : Value.agg (ws x.s 8).toArray = .agg (ws (ab (y.n / 64) c y.l) 8).toArray := by
  have := x.he
  rw [Nat.div_eq_of_lt h] at this
  rw [← this]
  rfl
theorem Byt.cut64 (y : Byt) (h : 64 ≤ y.n) : (0 : Int) ≤ 0 ∧ (0 : Int) ≤ 64 ∧ (64 : Int) ≤ (y.cap : Int) := by have := y.hc; omega
theorem Byt.cut64b (y : Byt) (h : 64 ≤ y.n) : (0 : Int) ≤ 64 ∧ (64 : Int) ≤ (y.n : Int) ∧ (y.n : Int) ≤ (y.cap : Int) := by have := y.hc; omega
theorem Byt.cuth (y : Byt) {k : Nat} (h : k ≤ y.n) : (0 : Int) ≤ 0 ∧ (0 : Int) ≤ (k : Int) ∧ (k : Int) ≤ (y.cap : Int) := by have := y.hc; omega

/-! The last blocks. -/
/-- The bytes of 'padded' while the length is written: i of its bytes stand. -/
def pdP (t : List UInt8) (N S i : Nat) : List UInt8 := t ++ 128 :: (List.replicate (S - t.length - 1 - i) 0 ++ dgb N i)
theorem pdP_len {t : List UInt8} {N S i : Nat} (h : t.length + 9 ≤ S) (hi : i ≤ 8) : (pdP t N S i).length = S := by
  simp [pdP, dgb_length]; omega
theorem bcs_rep (n : Nat) : List.replicate n (Value.int .u8 0) = bcs (List.replicate n 0) := by simp [bcs]
theorem bcs_sr (l m : List UInt8) (o : Nat) : setRange (bcs l) o (bcs m) = bcs (l.take o ++ m ++ l.drop (o + m.length)) := by
  simp [setRange, bcs]
theorem pd_c (t : List UInt8) (S : Nat) (h : t.length + 9 ≤ S) {n : Nat} (hn : t.length = n) : 0 + (n : Int).toNat * 1 + 1 ≤ (setRange (List.replicate S (.int .u8 0)) 0 (bcs t)).length := by
  rw [bcs_rep, bcs_sr, bcs_length]; simp; omega
theorem pd_0 (t : List UInt8) (N S : Nat) (_h : t.length + 9 ≤ S) {n : Nat} (hn : t.length = n := by first | rfl | exact (Byt.hl _)) : setRange (setRange (List.replicate S (.int .u8 0)) 0 (bcs t)) (0 + (n : Int).toNat * 1) [.int .u8 128] = bcs (pdP t N S 0) := by
  subst hn
  rw [bcs_rep, bcs_sr, show ([.int .u8 128] : List Value) = bcs [128] from rfl, bcs_sr]
  congr 1
  simp [pdP, dgb, List.drop_append, List.drop_replicate]
theorem rep_snoc {a : Nat} (h : 0 < a) : List.replicate a (0 : UInt8) = List.replicate (a - 1) 0 ++ [0] := by
  obtain ⟨k, rfl⟩ : ∃ k, a = k + 1 := ⟨a - 1, by omega⟩
  rw [List.replicate_succ']; rfl
theorem pd_s (t : List UInt8) (N : Nat) {S i : Nat} (h : t.length + 9 ≤ S) (hi : i < 8) : setRange (bcs (pdP t N S i)) (0 + ((S - 1 - i : Nat) : Int).toNat * 1) [v8 (byt N i)] = bcs (pdP t N S (i + 1)) := by
  rw [show ([v8 (byt N i)] : List Value) = bcs [byt N i] from rfl, bcs_sr]
  congr 1
  simp only [Int.toNat_natCast, Nat.zero_add, Nat.mul_one]
  unfold pdP
  have e1 : t ++ 128 :: (List.replicate (S - t.length - 1 - i) 0 ++ dgb N i) = (t ++ 128 :: List.replicate (S - t.length - 1 - (i + 1)) 0) ++ (0 :: dgb N i) := by
    rw [rep_snoc (a := S - t.length - 1 - i) (by omega), show S - t.length - 1 - i - 1 = S - t.length - 1 - (i + 1) by omega]; simp
  have e2 : (t ++ 128 :: List.replicate (S - t.length - 1 - (i + 1)) (0 : UInt8)).length = S - 1 - i := by simp; omega
  rw [e1, List.take_left' e2, ← List.drop_drop, List.drop_left' e2]
  simp [dgb]
theorem pd_in (t : List UInt8) (N : Nat) {S i : Nat} (h : t.length + 9 ≤ S) (hi : i < 8) : 0 + ((S - 1 - i : Nat) : Int).toNat * 1 + 1 ≤ (bcs (pdP t N S i)).length := by
  rw [bcs_length, pdP_len h (by omega), Int.toNat_natCast]; omega
theorem pd_fin {t : List UInt8} {N S i : Nat} (m : Nat) (ht : t.length + 9 ≤ S) (h : 8 ≤ i) (hi : i ≤ 8) : ∃ x : Nat, Sx.one [.slice (some ⟨m, 0, none⟩) S S] = (Byt.row x (pdP t N S 8)).v ∧ ∀ q ∈ (Byt.row x (pdP t N S 8)).L, q ∈ (m, Obj.cells (bcs (pdP t N S i)).toArray 5) :: ([] ++ ([] : Facts)) := by
  obtain rfl : i = 8 := by omega
  refine ⟨m, ?_, fun q hq => ?_⟩
  · show Value.slice (some ⟨m, 0, none⟩) S S = .slice (some ⟨m, 0, none⟩) (pdP t N S 8).length (pdP t N S 8).length
    rw [pdP_len ht hi]
  · rw [List.mem_singleton.1 hq]; exact List.mem_cons_self
theorem pd_le {n : Nat} (h : n + 9 ≤ 64) : decide (IntKind.i64.wrap (IntKind.i64.wrap ((n : Int) + 1) + 8) > 64) = false := by
  rw [add1 (by omega), show (((n + 1 : Nat) : Int) + 8) = ((n + 9 : Nat) : Int) by omega, wrap_nat (by omega)]
  apply decide_eq_false; omega
theorem pd_gt {n : Nat} (hn : n ≤ 63) (h : 64 < n + 9) : decide (IntKind.i64.wrap (IntKind.i64.wrap ((n : Int) + 1) + 8) > 64) = true := by
  rw [add1 (by omega), show (((n + 1 : Nat) : Int) + 8) = ((n + 9 : Nat) : Int) by omega, wrap_nat (by omega)]
  apply decide_eq_true; omega
theorem sub_two {i : Nat} (S : Nat) (hS : S ≤ 1000) (h : i + 1 ≤ S) : IntKind.i64.wrap (IntKind.i64.wrap ((S : Int) - 1) - (i : Int)) = ((S - 1 - i : Nat) : Int) := sub2 (by omega) (by omega)
theorem mul8i {i : Nat} (h : i < 1000000) : IntKind.i64.wrap (8 * (i : Int)) = ((8 * i : Nat) : Int) := by
  rw [show (8 : Int) * (i : Int) = ((8 * i : Nat) : Int) by omega, wrap_nat (by omega)]
theorem mul8 {N : Nat} (h : 8 * N < 18446744073709551616) : IntKind.u64.wrap ((N : Int) * 8) = ((8 * N : Nat) : Int) := by
  rw [show (N : Int) * 8 = ((8 * N : Nat) : Int) by omega, u64_wrap_nat h]
theorem byte_shr (N : Nat) {i : Nat} (hi : i < 8) : IntKind.u8.wrap ((N : Int).fdiv (2 ^ (min ((8 * i : Nat) : Int).toNat IntKind.u64.bits))) = ((byt N i).toNat : Int) := by
  rw [Int.toNat_natCast, show min (8 * i) IntKind.u64.bits = 8 * i from Nat.min_eq_left (by show 8 * i ≤ 64; omega), byt_toNat]
  rw [show ((2 : Int) ^ (8 * i)) = ((256 ^ i : Nat) : Int) by rw [Int.pow_mul]; simp, Int.fdiv_eq_ediv_of_nonneg _ (Int.natCast_nonneg _)]
  simp [IntKind.wrap, IntKind.bits, IntKind.signed]
section
variable {ρ : Operand → Value} {dst : Option Tmp} {type : TypeId} {pos : String} {after : Array Edge} {guard : Option (Nat × Bool)}
theorem ld_mul64 {a b c : Int} (h : IntKind.u64.wrap (a * b) = c) (A : Facts) {x y : Operand} (hx : ρ x = .int .u64 a := by rfl) (hy : ρ y = .int .u64 b := by rfl) :
    ∀ w, Sx.Holds w A → (execOp ρ ⟨dst, .binOp .mul 58 x y 58, type, pos, after, guard⟩).run Tryd.prog w = .ok (.value (.int .u64 c)) w := by
  intro w _
  have e : execOp ρ ⟨dst, .binOp .mul 58 x y 58, type, pos, after, guard⟩ = (do let v ← binOp .mul 58 (ρ x) (ρ y); pure (.value v)) := rfl
  rw [e, hx, hy, ← h]
  rfl
end

/-! The digest's bytes. -/
def dgP (c : Nat → UInt32) (i j : Nat) : UInt8 := if j < 4 * i then dgF c j else 0
theorem dgp_0 (c : Nat → UInt32) : bsc (fun _ => 0) 32 = bsc (dgP c 0) 32 := cl_ext fun j _ => by unfold dgP; rw [if_neg (by omega)]
theorem sr_len {c : List Value} {o : Nat} {v : Value} (h : o + 1 ≤ c.length) : (setRange c o [v]).length = c.length := by simp [setRange]; omega
theorem dg_p (f : Nat → UInt8) {i : Nat} (k : Nat) (hk : k < 4) (h : i < 8) : 0 + ((4 * i + k : Nat) : Int).toNat * 1 + 1 ≤ (bsc f 32).length := cl_in (fun i => v8 (f i)) (n := 32) (j := 4 * i + k) rfl (by omega)
theorem dg_in0 (f : Nat → UInt8) {i : Nat} (h : i < 8) : 0 + ((4 * i : Nat) : Int).toNat * 1 + 1 ≤ (bsc f 32).length := dg_p f 0 (by decide) h
theorem dg_in1 (f : Nat → UInt8) {i : Nat} (h : i < 8) {v : Value} : 0 + ((4 * i + 1 : Nat) : Int).toNat * 1 + 1 ≤ (setRange (bsc f 32) (0 + ((4 * i : Nat) : Int).toNat * 1) [v]).length := by rw [sr_len (dg_in0 f h)]; exact dg_p f 1 (by decide) h
theorem dg_in2 (f : Nat → UInt8) {i : Nat} (h : i < 8) {v v' : Value} : 0 + ((4 * i + 2 : Nat) : Int).toNat * 1 + 1 ≤ (setRange (setRange (bsc f 32) (0 + ((4 * i : Nat) : Int).toNat * 1) [v]) (0 + ((4 * i + 1 : Nat) : Int).toNat * 1) [v']).length := by rw [sr_len (dg_in1 f h), sr_len (dg_in0 f h)]; exact dg_p f 2 (by decide) h
theorem dg_in3 (f : Nat → UInt8) {i : Nat} (h : i < 8) {v v' v'' : Value} : 0 + ((4 * i + 3 : Nat) : Int).toNat * 1 + 1 ≤ (setRange (setRange (setRange (bsc f 32) (0 + ((4 * i : Nat) : Int).toNat * 1) [v]) (0 + ((4 * i + 1 : Nat) : Int).toNat * 1) [v']) (0 + ((4 * i + 2 : Nat) : Int).toNat * 1) [v'']).length := by rw [sr_len (dg_in2 f h), sr_len (dg_in1 f h), sr_len (dg_in0 f h)]; exact dg_p f 3 (by decide) h
theorem dg_s (c : Nat → UInt32) {i : Nat} (h : i < 8) : setRange (setRange (setRange (setRange (bsc (dgP c i) 32) (0 + ((4 * i : Nat) : Int).toNat * 1) [v8 (c i >>> UInt32.ofNat 24).toUInt8]) (0 + ((4 * i + 1 : Nat) : Int).toNat * 1) [v8 (c i >>> UInt32.ofNat 16).toUInt8]) (0 + ((4 * i + 2 : Nat) : Int).toNat * 1) [v8 (c i >>> UInt32.ofNat 8).toUInt8]) (0 + ((4 * i + 3 : Nat) : Int).toNat * 1) [v8 (c i).toUInt8] = bsc (dgP c (i + 1)) 32 := by
  rw [bsc_set _ _ rfl (by omega), bsc_set _ _ rfl (by omega), bsc_set _ _ rfl (by omega), bsc_set _ _ rfl (by omega)]
  refine cl_ext fun j hj => ?_
  congr 3
  unfold upd dgP
  by_cases h3 : j = 4 * i + 3
  · subst h3
    rw [if_pos rfl, if_pos (by omega)]
    unfold dgF
    rw [show (4 * i + 3) / 4 = i by omega, show 24 - 8 * ((4 * i + 3) % 4) = 0 by omega]
    rw [show UInt32.ofNat 0 = 0 from rfl, UInt32.shiftRight_zero]
  · rw [if_neg h3]
    by_cases h2 : j = 4 * i + 2
    · subst h2
      rw [if_pos rfl, if_pos (by omega)]
      unfold dgF
      rw [show (4 * i + 2) / 4 = i by omega, show 24 - 8 * ((4 * i + 2) % 4) = 8 by omega]
    · rw [if_neg h2]
      by_cases h1 : j = 4 * i + 1
      · subst h1
        rw [if_pos rfl, if_pos (by omega)]
        unfold dgF
        rw [show (4 * i + 1) / 4 = i by omega, show 24 - 8 * ((4 * i + 1) % 4) = 16 by omega]
      · rw [if_neg h1]
        by_cases h0 : j = 4 * i
        · subst h0
          rw [if_pos rfl, if_pos (by omega)]
          unfold dgF
          rw [show (4 * i) / 4 = i by omega, show 24 - 8 * ((4 * i) % 4) = 24 by omega]
        · rw [if_neg h0]
          by_cases hlt : j < 4 * i
          · rw [if_pos hlt, if_pos (by omega)]
          · rw [if_neg hlt, if_neg (by omega)]
theorem dg_fin (c : Nat → UInt32) {i : Nat} (h : 8 ≤ i) (hi : i ≤ 8) : H8 (dgP c i) = H8 (dgF c) := by
  obtain rfl : i = 8 := by omega
  unfold H8
  rw [show bsc (dgP c 8) 32 = bsc (dgF c) 32 from cl_ext fun j hj => by unfold dgP; rw [if_pos (by omega)]]
theorem addk {i : Nat} (k : Nat) (h : i + k < 1000000) : IntKind.i64.wrap (((i : Nat) : Int) + (k : Int)) = ((i + k : Nat) : Int) := by
  rw [show ((i : Nat) : Int) + (k : Int) = ((i + k : Nat) : Int) by omega, wrap_nat (by omega)]
theorem sub_mod {n : Nat} (h : n < 4611686018427387904) : IntKind.i64.wrap ((n : Int) - (n : Int).tmod 64) = ((n - n % 64 : Nat) : Int) := by
  rw [show (n : Int).tmod 64 = ((n % 64 : Nat) : Int) from rfl]
  exact sub1 (Nat.mod_le _ _) h

/-! Sum. -/
theorem ab_app : ∀ (k m : Nat) (c : Nat → UInt32) (l t : List UInt8), l.length = 64 * k → ab (k + m) c (l ++ t) = ab m (ab k c l) t
  | 0, m, c, l, t, h => by
    have : l = [] := List.length_eq_zero_iff.1 h
    subst this
    rw [Nat.zero_add]; rfl
  | k + 1, m, c, l, t, h => by
    rw [show k + 1 + m = (k + m) + 1 by omega]
    show ab (k + m) (blk c ((l ++ t).take 64)) ((l ++ t).drop 64) = ab m (ab k (blk c (l.take 64)) (l.drop 64)) t
    rw [List.take_append_of_le_length (by omega), List.drop_append_of_le_length (by omega)]
    exact ab_app k m _ _ t (by rw [List.length_drop]; omega)
theorem sha_split {l : List UInt8} {S : Nat} (hS : S % 64 = 0) (h1 : l.length % 64 + 9 ≤ S) (h2 : S ≤ l.length % 64 + 72) :
    ab ((pdP (l.drop (l.length - l.length % 64)) (8 * l.length) S 8).length / 64) (ab ((l.length - l.length % 64) / 64) init8 (l.take (l.length - l.length % 64))) (pdP (l.drop (l.length - l.length % 64)) (8 * l.length) S 8) = sha l := by
  have hm := Nat.mod_le l.length 64
  have hd : (l.drop (l.length - l.length % 64)).length = l.length % 64 := by rw [List.length_drop]; omega
  have e : l ++ tailF l.length = l.take (l.length - l.length % 64) ++ pdP (l.drop (l.length - l.length % 64)) (8 * l.length) S 8 := by
    unfold pdP tailF
    rw [hd, ← List.append_assoc, List.take_append_drop]
    rw [show S - l.length % 64 - 1 - 8 = (119 - l.length % 64) % 64 by omega]
  have hk : (l.take (l.length - l.length % 64)).length = 64 * ((l.length - l.length % 64) / 64) := by rw [List.length_take]; omega
  unfold sha
  rw [e, List.length_append, hk, show (64 * ((l.length - l.length % 64) / 64) + (pdP (l.drop (l.length - l.length % 64)) (8 * l.length) S 8).length) / 64 = (l.length - l.length % 64) / 64 + (pdP (l.drop (l.length - l.length % 64)) (8 * l.length) S 8).length / 64 by omega]
  exact (ab_app _ _ _ _ _ hk).symm
theorem sum_fin (y : Byt) {S : Nat} (hS : S % 64 = 0) (h1 : y.n % 64 + 9 ≤ S) (h2 : S ≤ y.n % 64 + 72) :
    H8 (dgF (ab ((pdP ((y.l.drop (y.n - y.n % 64)).take (y.n - (y.n - y.n % 64))) (8 * y.n) S 8).length / 64) (ab ((y.n - y.n % 64 - 0) / 64) init8 ((y.l.drop 0).take (y.n - y.n % 64 - 0))) (pdP ((y.l.drop (y.n - y.n % 64)).take (y.n - (y.n - y.n % 64))) (8 * y.n) S 8))) = H8 (dgF (sha y.l)) := by
  have hl := y.hl
  have e : (y.l.drop (y.n - y.n % 64)).take (y.n - (y.n - y.n % 64)) = y.l.drop (y.n - y.n % 64) := List.take_of_length_le (by rw [List.length_drop]; omega)
  have := sha_split (l := y.l) hS (by rw [hl]; exact h1) (by rw [hl]; exact h2)
  rw [hl] at this
  rw [e, List.drop_zero, Nat.sub_zero, this]

theorem c_ini  : Det Tryd.prog 39 [] (.agg (ws (init8) 8).toArray) :=
  det_of_vc Tryd.mixed good_hash_initialChain (O := [.opt 1 [(0, .ld (.agg (ws (init8) 8).toArray))]]) fun _ => ⟨ld_bld8 u_chain i_word z_chain init8 _, ⟨(), rfl, nofun⟩⟩
theorem c_abs (c : Nat → UInt32) (y : Byt) (A : Facts) (hA : EnvF RC A) (hy : Sub y.L A) : Gives Tryd.prog 38 [.agg (ws (c) 8).toArray, y.v] A (Unit) (fun _ => .agg (ws (ab (y.n / 64) c y.l) 8).toArray) (fun _ => []) :=
  gives_of_vcF Tryd.mixed good_hash_absorb (args := [(.agg (ws (c) 8).toArray, []), (y.v, y.L)]) (B := A) (O := [.inv (AbX y c) (fun x : AbX y c => ⟨16, [(1, .v x.z.v x.z.L), (2, .p 0 0), (4, .p 1 0)], [(0, ⟨65, ws x.s 8, []⟩), (1, ⟨65, ws (fun _ => 0) 8, []⟩)], 10⟩) (fun x => x.z.n) (fun x => [.both [.reg [(0, .ld (.agg (ws (x.s) 8).toArray)), (3, det (.agg (ws (sch ((x.z.l.drop 0).take (64 - 0)) 64) 64).toArray)), (4, det (.agg (ws (blk x.s ((x.z.l.drop 0).take (64 - 0))) 8).toArray))]] [.opt 4 [(0, .ld (.agg (ws (x.s) 8).toArray))]]])]) (.app ((.refl _)) (.app (.nil _) (.app (hy) (.nil _)))) (⟨⟨⟨y, c, fun _ h => h, Nat.le_refl _, rfl⟩, rfl, ⟨⟨rfl, fun _ h => h⟩, ⟨rfl, rfl, rfl⟩, ⟨rfl, rfl, rfl⟩, trivial⟩, ⟨rfl, rfl, nofun⟩, ⟨rfl, rfl, nofun⟩, trivial⟩, fun x => ⟨fun h => ⟨ld_ch8 x.s, ⟨x.z.cut64 (ge64 h), ⟨c_exp (x.z.sub 0 64 (by decide) (ge64 h)) rfl _ (by intro q h; have h : q ∈ x.z.L := h; simp [h]), fun _ => ⟨c_abk x.s (sch ((x.z.l.drop 0).take (64 - 0)) 64) _ (hA.app _), fun _ => ⟨x.z.cut64b (ge64 h), ⟨x.next (ge64 h), (by have := (ge64 h); show x.z.n - 64 < x.z.n; omega), rfl, ⟨⟨rfl, fun _ h => h⟩, ⟨rfl, rfl, rfl⟩, ⟨rfl, rfl, rfl⟩, trivial⟩, ⟨rfl, rfl, nofun⟩, ⟨rfl, rfl, nofun⟩, trivial⟩⟩⟩⟩⟩⟩, fun h => ⟨ld_ch8 x.s, ⟨(), x.fin (lt64 h), nofun⟩⟩⟩⟩)
theorem pd_64 (y : Byt) (N : Nat) (hN : 8 * N < 18446744073709551616) (hn : y.n ≤ 63) (h0 : y.n + 9 ≤ 64) (A : Facts) (hy : Sub y.L A) : Gives Tryd.prog 40 [y.v, .int .u64 (N : Int)] A (Nat) (fun m => (Byt.row m (pdP y.l (8 * N) 64 8)).v) (fun m => (Byt.row m (pdP y.l (8 * N) 64 8)).L) :=
  gives_of_vcF Tryd.mixed good_hash_padded (args := [(y.v, y.L), (.int .u64 (N : Int), [])]) (B := []) (O := [.no, .opt 4 [(1, .mk 64)], .opt 5 [(2, .cp y.n (bcs y.l))], .opt 6 [(4, .mk 0)], .opt 7 [(1, .ld (.int .u64 ((8 * N : Nat) : Int)))], .inv (Upto 8) (fun x : Upto 8 => ⟨41, [(5, .v (.int .i64 64) []), (6, .s 8 0 64 64), (7, .v (.int .u64 ((8 * N : Nat) : Int)) []), (25, .v (.int .i64 (x.1 : Int)) [])], [(8, ⟨5, bcs (pdP y.l (8 * N) 64 x.1), []⟩)], 60⟩) (fun x => 8 - x.1) (fun x => [.both [.opt 11 [(4, .ld (.int .i64 ((64 - 1 - x.1 : Nat) : Int))), (7, .ld (.int .i64 ((8 * x.1 : Nat) : Int))), (9, .ld (v8 (byt (8 * N) x.1))), (11, .mk 0)]] []])]) (.app (.nil _) (.app (hy) (.app (.nil _) (.nil _)))) (⟨(pd_le h0), ⟨⟨rfl, rfl, by decide, by decide⟩, fun _ => ⟨⟨y.src (by intro q h; simp [h]), by omega, by rw [List.length_replicate]; omega⟩, fun _ => ⟨⟨Int.natCast_nonneg _, by omega⟩, ⟨pd_c y.l 64 (by rw [y.hl]; omega) y.hl, ⟨ld_mul64 (mul8 hN) _, ⟨⟨⟨0, Nat.zero_le _⟩, rfl, ⟨⟨rfl, nofun⟩, ⟨rfl, rfl, rfl, rfl, rfl⟩, ⟨rfl, nofun⟩, ⟨rfl, nofun⟩, trivial⟩, ⟨rfl, pd_0 y.l (8 * N) 64 (by rw [y.hl]; omega), nofun⟩, trivial⟩, fun x => ⟨fun h => ⟨ld_sub (sub_two 64 (by decide) (by have := (lt_t (n := 8) h); omega)) _, ⟨ld_mul (mul8i (by have := (lt_t (n := 8) h); omega)) _, ⟨Int.natCast_nonneg _, ⟨ld_conv64 (byte_shr (8 * N) (lt_t (n := 8) h)) _, ⟨⟨Int.natCast_nonneg _, by have := (lt_t (n := 8) h); omega⟩, ⟨pd_in y.l (8 * N) (by rw [y.hl]; omega) (lt_t (n := 8) h), ⟨⟨x.1 + 1, (lt_t (n := 8) h)⟩, (by have := (lt_t (n := 8) h); show 8 - (x.1 + 1) < 8 - x.1; omega), rfl, ⟨⟨rfl, nofun⟩, ⟨rfl, rfl, rfl, rfl, rfl⟩, ⟨rfl, nofun⟩, ⟨congrArg _ (add1 (by have := (lt_t (n := 8) h); omega)), nofun⟩, trivial⟩, ⟨rfl, pd_s y.l (8 * N) (by rw [y.hl]; omega) (lt_t (n := 8) h), nofun⟩, trivial⟩⟩⟩⟩⟩⟩⟩, fun h => fun m => pd_fin m (by rw [y.hl]; omega) (lt_f (n := 8) h) x.2⟩⟩⟩⟩⟩⟩⟩⟩)
theorem pd_128 (y : Byt) (N : Nat) (hN : 8 * N < 18446744073709551616) (hn : y.n ≤ 63) (h0 : 64 < y.n + 9) (A : Facts) (hy : Sub y.L A) : Gives Tryd.prog 40 [y.v, .int .u64 (N : Int)] A (Nat) (fun m => (Byt.row m (pdP y.l (8 * N) 128 8)).v) (fun m => (Byt.row m (pdP y.l (8 * N) 128 8)).L) :=
  gives_of_vcF Tryd.mixed good_hash_padded (args := [(y.v, y.L), (.int .u64 (N : Int), [])]) (B := []) (O := [.yes, .opt 4 [(1, .mk 128)], .opt 5 [(2, .cp y.n (bcs y.l))], .opt 6 [(4, .mk 0)], .opt 7 [(1, .ld (.int .u64 ((8 * N : Nat) : Int)))], .inv (Upto 8) (fun x : Upto 8 => ⟨41, [(5, .v (.int .i64 128) []), (6, .s 9 0 128 128), (7, .v (.int .u64 ((8 * N : Nat) : Int)) []), (25, .v (.int .i64 (x.1 : Int)) [])], [(9, ⟨5, bcs (pdP y.l (8 * N) 128 x.1), []⟩)], 60⟩) (fun x => 8 - x.1) (fun x => [.both [.opt 11 [(4, .ld (.int .i64 ((128 - 1 - x.1 : Nat) : Int))), (7, .ld (.int .i64 ((8 * x.1 : Nat) : Int))), (9, .ld (v8 (byt (8 * N) x.1))), (11, .mk 0)]] []])]) (.app (.nil _) (.app (hy) (.app (.nil _) (.nil _)))) (⟨(pd_gt hn h0), ⟨⟨rfl, rfl, by decide, by decide⟩, fun _ => ⟨⟨y.src (by intro q h; simp [h]), by omega, by rw [List.length_replicate]; omega⟩, fun _ => ⟨⟨Int.natCast_nonneg _, by omega⟩, ⟨pd_c y.l 128 (by rw [y.hl]; omega) y.hl, ⟨ld_mul64 (mul8 hN) _, ⟨⟨⟨0, Nat.zero_le _⟩, rfl, ⟨⟨rfl, nofun⟩, ⟨rfl, rfl, rfl, rfl, rfl⟩, ⟨rfl, nofun⟩, ⟨rfl, nofun⟩, trivial⟩, ⟨rfl, pd_0 y.l (8 * N) 128 (by rw [y.hl]; omega), nofun⟩, trivial⟩, fun x => ⟨fun h => ⟨ld_sub (sub_two 128 (by decide) (by have := (lt_t (n := 8) h); omega)) _, ⟨ld_mul (mul8i (by have := (lt_t (n := 8) h); omega)) _, ⟨Int.natCast_nonneg _, ⟨ld_conv64 (byte_shr (8 * N) (lt_t (n := 8) h)) _, ⟨⟨Int.natCast_nonneg _, by have := (lt_t (n := 8) h); omega⟩, ⟨pd_in y.l (8 * N) (by rw [y.hl]; omega) (lt_t (n := 8) h), ⟨⟨x.1 + 1, (lt_t (n := 8) h)⟩, (by have := (lt_t (n := 8) h); show 8 - (x.1 + 1) < 8 - x.1; omega), rfl, ⟨⟨rfl, nofun⟩, ⟨rfl, rfl, rfl, rfl, rfl⟩, ⟨rfl, nofun⟩, ⟨congrArg _ (add1 (by have := (lt_t (n := 8) h); omega)), nofun⟩, trivial⟩, ⟨rfl, pd_s y.l (8 * N) (by rw [y.hl]; omega) (lt_t (n := 8) h), nofun⟩, trivial⟩⟩⟩⟩⟩⟩⟩, fun h => fun m => pd_fin m (by rw [y.hl]; omega) (lt_f (n := 8) h) x.2⟩⟩⟩⟩⟩⟩⟩⟩)
theorem c_dig (c : Nat → UInt32) : Det Tryd.prog 41 [.agg (ws (c) 8).toArray] (H8 (dgF c)) :=
  det_of_vc Tryd.mixed good_hash_digest (O := [.opt 2 [(0, .ld (.agg (ws (c) 8).toArray))], .inv (Upto 8) (fun x : Upto 8 => ⟨39, [(2, .p 1 0), (3, .p 2 0), (6, .v (.agg (ws (c) 8).toArray) []), (7, .v (.int .i64 (x.1 : Int)) [])], [(1, ⟨28, bsc (fun _ => 0) 32, []⟩), (2, ⟨28, bsc (dgP c x.1) 32, []⟩)], 20⟩) (fun x => 8 - x.1) (fun x => [.both [.opt 4 [(1, .ld (w32 (c x.1)))], .opt 5 [(1, .ld (.int .i64 ((4 * x.1 : Nat) : Int))), (4, .ld (v8 (c x.1 >>> UInt32.ofNat 24).toUInt8)), (6, .mk 0)], .opt 6 [(1, .ld (.int .i64 ((4 * x.1 : Nat) : Int))), (2, .ld (.int .i64 ((4 * x.1 + 1 : Nat) : Int))), (5, .ld (v8 (c x.1 >>> UInt32.ofNat 16).toUInt8)), (7, .mk 0)], .opt 7 [(1, .ld (.int .i64 ((4 * x.1 : Nat) : Int))), (2, .ld (.int .i64 ((4 * x.1 + 2 : Nat) : Int))), (5, .ld (v8 (c x.1 >>> UInt32.ofNat 8).toUInt8)), (7, .mk 0)], .opt 8 [(1, .ld (.int .i64 ((4 * x.1 : Nat) : Int))), (2, .ld (.int .i64 ((4 * x.1 + 3 : Nat) : Int))), (4, .ld (v8 (c x.1).toUInt8)), (6, .mk 0)]] [.opt 10 [(0, .ld (H8 (dgP c x.1)))]]])]) fun _ => ⟨ld_ch8 c, ⟨⟨⟨0, Nat.zero_le _⟩, rfl, ⟨⟨rfl, rfl, rfl⟩, ⟨rfl, rfl, rfl⟩, ⟨rfl, nofun⟩, ⟨rfl, nofun⟩, trivial⟩, ⟨rfl, rfl, nofun⟩, ⟨rfl, dgp_0 c, nofun⟩, trivial⟩, fun x => ⟨fun h => ⟨⟨Int.natCast_nonneg _, Int.ofNat_lt.2 (lt_t (n := 8) h)⟩, ix_ch c (lt_t (n := 8) h), ⟨ld_mul (mul4i (by have := (lt_t (n := 8) h); omega)) _, ⟨by decide, ⟨ld_u32_8 (shr32 (c x.1) 24 (by decide)) _, ⟨⟨Int.natCast_nonneg _, by have := (lt_t (n := 8) h); omega⟩, ⟨dg_in0 (dgP c x.1) (lt_t (n := 8) h), ⟨ld_mul (mul4i (by have := (lt_t (n := 8) h); omega)) _, ⟨ld_add (addk 1 (by have := (lt_t (n := 8) h); omega)) _, ⟨by decide, ⟨ld_u32_8 (shr32 (c x.1) 16 (by decide)) _, ⟨⟨Int.natCast_nonneg _, by have := (lt_t (n := 8) h); omega⟩, ⟨dg_in1 (dgP c x.1) (lt_t (n := 8) h), ⟨ld_mul (mul4i (by have := (lt_t (n := 8) h); omega)) _, ⟨ld_add (addk 2 (by have := (lt_t (n := 8) h); omega)) _, ⟨by decide, ⟨ld_u32_8 (shr32 (c x.1) 8 (by decide)) _, ⟨⟨Int.natCast_nonneg _, by have := (lt_t (n := 8) h); omega⟩, ⟨dg_in2 (dgP c x.1) (lt_t (n := 8) h), ⟨ld_mul (mul4i (by have := (lt_t (n := 8) h); omega)) _, ⟨ld_add (addk 3 (by have := (lt_t (n := 8) h); omega)) _, ⟨ld_u32_8 rfl _, ⟨⟨Int.natCast_nonneg _, by have := (lt_t (n := 8) h); omega⟩, ⟨dg_in3 (dgP c x.1) (lt_t (n := 8) h), ⟨⟨x.1 + 1, (lt_t (n := 8) h)⟩, (by have := (lt_t (n := 8) h); show 8 - (x.1 + 1) < 8 - x.1; omega), rfl, ⟨⟨rfl, rfl, rfl⟩, ⟨rfl, rfl, rfl⟩, ⟨rfl, nofun⟩, ⟨congrArg _ (add1 (by have := (lt_t (n := 8) h); omega)), nofun⟩, trivial⟩, ⟨rfl, rfl, nofun⟩, ⟨rfl, dg_s c (lt_t (n := 8) h), nofun⟩, trivial⟩⟩⟩⟩⟩⟩⟩⟩⟩⟩⟩⟩⟩⟩⟩⟩⟩⟩⟩⟩⟩⟩⟩⟩, fun h => ⟨ld_h32 _, ⟨(), dg_fin c (lt_f (n := 8) h) x.2, nofun⟩⟩⟩⟩⟩
theorem sum_64 (y : Byt) (hy0 : y.n ≤ 100000000000) (h0 : y.n - (y.n - y.n % 64) + 9 ≤ 64) (A : Facts) (hA : EnvF RC A) (hy : Sub y.L A) : Gives Tryd.prog 30 [y.v] A (Unit) (fun _ => H8 (dgF (sha y.l))) (fun _ => []) :=
  gives_of_vcF Tryd.mixed good_hash_Sum (args := [(y.v, y.L)]) (B := A) (O := [.opt 1 [(5, .ld (.int .i64 ((y.n - y.n % 64 : Nat) : Int)))], .reg [(0, det (.agg (ws (init8) 8).toArray)), (4, det (.agg (ws (ab (((y.n - y.n % 64) - 0) / 64) init8 ((y.l.drop 0).take ((y.n - y.n % 64) - 0))) 8).toArray))], .reg [(0, .ld (.agg (ws (ab (((y.n - y.n % 64) - 0) / 64) init8 ((y.l.drop 0).take ((y.n - y.n % 64) - 0))) 8).toArray)), (6, .ld (.int .u64 (y.n : Int))), (7, .call Nat 0 (fun m => (Byt.row m (pdP ((y.l.drop (y.n - y.n % 64)).take (y.n - (y.n - y.n % 64))) (8 * y.n) 64 8)).v) (fun m => (Byt.row m (pdP ((y.l.drop (y.n - y.n % 64)).take (y.n - (y.n - y.n % 64))) (8 * y.n) 64 8)).L)), (8, det (.agg (ws (ab ((pdP ((y.l.drop (y.n - y.n % 64)).take (y.n - (y.n - y.n % 64))) (8 * y.n) 64 8).length / 64) (ab (((y.n - y.n % 64) - 0) / 64) init8 ((y.l.drop 0).take ((y.n - y.n % 64) - 0))) (pdP ((y.l.drop (y.n - y.n % 64)).take (y.n - (y.n - y.n % 64))) (8 * y.n) 64 8)) 8).toArray))], .reg [(0, .ld (.agg (ws (ab ((pdP ((y.l.drop (y.n - y.n % 64)).take (y.n - (y.n - y.n % 64))) (8 * y.n) 64 8).length / 64) (ab (((y.n - y.n % 64) - 0) / 64) init8 ((y.l.drop 0).take ((y.n - y.n % 64) - 0))) (pdP ((y.l.drop (y.n - y.n % 64)).take (y.n - (y.n - y.n % 64))) (8 * y.n) 64 8)) 8).toArray)), (1, det (H8 (dgF (ab ((pdP ((y.l.drop (y.n - y.n % 64)).take (y.n - (y.n - y.n % 64))) (8 * y.n) 64 8).length / 64) (ab (((y.n - y.n % 64) - 0) / 64) init8 ((y.l.drop 0).take ((y.n - y.n % 64) - 0))) (pdP ((y.l.drop (y.n - y.n % 64)).take (y.n - (y.n - y.n % 64))) (8 * y.n) 64 8)))))]]) (.app ((.refl _)) (.app (hy) (.nil _))) (⟨⟨by decide, rfl⟩, ⟨ld_sub (sub_mod (by omega)) _, ⟨c_ini _, fun _ => ⟨y.cuth (Nat.sub_le _ _), ⟨c_abs init8 (y.sub 0 (y.n - y.n % 64) (Nat.zero_le _) (Nat.sub_le _ _)) _ (hA.app _) (by intro q h; have h : q ∈ y.L := h; simp [h]), fun _ => ⟨ld_ch8 _, ⟨y.cutk (Nat.sub_le _ _), ⟨ld_to64 (by omega) _, ⟨pd_64 (y.sub (y.n - y.n % 64) y.n (Nat.sub_le _ _) (Nat.le_refl _)) y.n (by omega) (by show y.n - (y.n - y.n % 64) ≤ 63; omega) (by show _; exact h0) _ (by intro q h; have h : q ∈ y.L := h; simp [h]), fun m => ⟨c_abs (ab (((y.n - y.n % 64) - 0) / 64) init8 ((y.l.drop 0).take ((y.n - y.n % 64) - 0))) (Byt.row m (pdP ((y.l.drop (y.n - y.n % 64)).take (y.n - (y.n - y.n % 64))) (8 * y.n) 64 8)) _ (hA.app _) (by intro z h; have h : z ∈ (Byt.row m (pdP ((y.l.drop (y.n - y.n % 64)).take (y.n - (y.n - y.n % 64))) (8 * y.n) 64 8)).L := h; simp [h]), fun _ => ⟨ld_ch8 _, ⟨c_dig _ _, fun _ => ⟨(), sum_fin y (S := 64) (by decide) (by have := Nat.mod_le y.n 64; omega) (by omega), nofun⟩⟩⟩⟩⟩⟩⟩⟩⟩⟩⟩⟩⟩)
theorem sum_128 (y : Byt) (hy0 : y.n ≤ 100000000000) (h0 : 64 < y.n - (y.n - y.n % 64) + 9) (A : Facts) (hA : EnvF RC A) (hy : Sub y.L A) : Gives Tryd.prog 30 [y.v] A (Unit) (fun _ => H8 (dgF (sha y.l))) (fun _ => []) :=
  gives_of_vcF Tryd.mixed good_hash_Sum (args := [(y.v, y.L)]) (B := A) (O := [.opt 1 [(5, .ld (.int .i64 ((y.n - y.n % 64 : Nat) : Int)))], .reg [(0, det (.agg (ws (init8) 8).toArray)), (4, det (.agg (ws (ab (((y.n - y.n % 64) - 0) / 64) init8 ((y.l.drop 0).take ((y.n - y.n % 64) - 0))) 8).toArray))], .reg [(0, .ld (.agg (ws (ab (((y.n - y.n % 64) - 0) / 64) init8 ((y.l.drop 0).take ((y.n - y.n % 64) - 0))) 8).toArray)), (6, .ld (.int .u64 (y.n : Int))), (7, .call Nat 0 (fun m => (Byt.row m (pdP ((y.l.drop (y.n - y.n % 64)).take (y.n - (y.n - y.n % 64))) (8 * y.n) 128 8)).v) (fun m => (Byt.row m (pdP ((y.l.drop (y.n - y.n % 64)).take (y.n - (y.n - y.n % 64))) (8 * y.n) 128 8)).L)), (8, det (.agg (ws (ab ((pdP ((y.l.drop (y.n - y.n % 64)).take (y.n - (y.n - y.n % 64))) (8 * y.n) 128 8).length / 64) (ab (((y.n - y.n % 64) - 0) / 64) init8 ((y.l.drop 0).take ((y.n - y.n % 64) - 0))) (pdP ((y.l.drop (y.n - y.n % 64)).take (y.n - (y.n - y.n % 64))) (8 * y.n) 128 8)) 8).toArray))], .reg [(0, .ld (.agg (ws (ab ((pdP ((y.l.drop (y.n - y.n % 64)).take (y.n - (y.n - y.n % 64))) (8 * y.n) 128 8).length / 64) (ab (((y.n - y.n % 64) - 0) / 64) init8 ((y.l.drop 0).take ((y.n - y.n % 64) - 0))) (pdP ((y.l.drop (y.n - y.n % 64)).take (y.n - (y.n - y.n % 64))) (8 * y.n) 128 8)) 8).toArray)), (1, det (H8 (dgF (ab ((pdP ((y.l.drop (y.n - y.n % 64)).take (y.n - (y.n - y.n % 64))) (8 * y.n) 128 8).length / 64) (ab (((y.n - y.n % 64) - 0) / 64) init8 ((y.l.drop 0).take ((y.n - y.n % 64) - 0))) (pdP ((y.l.drop (y.n - y.n % 64)).take (y.n - (y.n - y.n % 64))) (8 * y.n) 128 8)))))]]) (.app ((.refl _)) (.app (hy) (.nil _))) (⟨⟨by decide, rfl⟩, ⟨ld_sub (sub_mod (by omega)) _, ⟨c_ini _, fun _ => ⟨y.cuth (Nat.sub_le _ _), ⟨c_abs init8 (y.sub 0 (y.n - y.n % 64) (Nat.zero_le _) (Nat.sub_le _ _)) _ (hA.app _) (by intro q h; have h : q ∈ y.L := h; simp [h]), fun _ => ⟨ld_ch8 _, ⟨y.cutk (Nat.sub_le _ _), ⟨ld_to64 (by omega) _, ⟨pd_128 (y.sub (y.n - y.n % 64) y.n (Nat.sub_le _ _) (Nat.le_refl _)) y.n (by omega) (by show y.n - (y.n - y.n % 64) ≤ 63; omega) (by show _; exact h0) _ (by intro q h; have h : q ∈ y.L := h; simp [h]), fun m => ⟨c_abs (ab (((y.n - y.n % 64) - 0) / 64) init8 ((y.l.drop 0).take ((y.n - y.n % 64) - 0))) (Byt.row m (pdP ((y.l.drop (y.n - y.n % 64)).take (y.n - (y.n - y.n % 64))) (8 * y.n) 128 8)) _ (hA.app _) (by intro z h; have h : z ∈ (Byt.row m (pdP ((y.l.drop (y.n - y.n % 64)).take (y.n - (y.n - y.n % 64))) (8 * y.n) 128 8)).L := h; simp [h]), fun _ => ⟨ld_ch8 _, ⟨c_dig _ _, fun _ => ⟨(), sum_fin y (S := 128) (by decide) (by have := Nat.mod_lt y.n (show 0 < 64 by decide); omega) (by have := Nat.mod_le y.n 64; omega), nofun⟩⟩⟩⟩⟩⟩⟩⟩⟩⟩⟩⟩⟩)
theorem c_sum (y : Byt) (hy0 : y.n ≤ 100000000000) (A : Facts) (hA : EnvF RC A) (hy : Sub y.L A) : Gives Tryd.prog 30 [y.v] A Unit (fun _ => H8 (dgF (sha y.l))) (fun _ => []) := by
  by_cases h : y.n - (y.n - y.n % 64) + 9 ≤ 64
  · exact sum_64 y hy0 h A hA hy
  · exact sum_128 y hy0 (by omega) A hA hy

end Go.Proofs.YtgbfolkpgmjaeaaDoor

