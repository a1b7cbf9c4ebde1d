/- Package wire over this translation: its four Append; the digits of the reference. No conditions. -/
import Derived.Test.YtfpigcaihmlelaaW6a
namespace Go.Proofs.Ytfpigcaihmlelaa
open Go.RowKit Sx
set_option maxRecDepth 100000

theorem two_sub (k : Nat) (y z : Byt) : Sub (rowL k [y, z]) ((k, .cells #[y.v, z.v] 22) :: (y.L ++ z.L)) := by intro q hq; simpa [rowL] using hq
theorem three_sub (k : Nat) (y z u : Byt) : Sub (rowL k [y, z, u]) ((k, .cells #[y.v, z.v, u.v] 22) :: (y.L ++ (z.L ++ u.L))) := by intro q hq; simpa [rowL] using hq
theorem c_cat2 (k : Nat) (y z : Byt) (hy : y.n ≤ 100000000000) (hz : z.n ≤ 100000000000) (A : Facts) (hA : Sub ((k, .cells #[y.v, z.v] 22) :: (y.L ++ z.L)) A) : GivesA Try.prog 29 [.slice (some ⟨k, 0, none⟩) 2 2] A Unit 5 1 (fun _ => bcs (y.l ++ z.l)) := by
  have := c_concat k [y, z] (by simp) (by simp [sumN]; omega) A (fun q hq => hA q (two_sub k y z q hq))
  simpa using this
theorem c_cat3 (k : Nat) (y z u : Byt) (hy : y.n ≤ 100000000000) (hz : z.n ≤ 100000000000) (hu : u.n ≤ 100000000000) (A : Facts) (hA : Sub ((k, .cells #[y.v, z.v, u.v] 22) :: (y.L ++ (z.L ++ u.L))) A) : GivesA Try.prog 29 [.slice (some ⟨k, 0, none⟩) 3 3] A Unit 5 1 (fun _ => bcs (y.l ++ z.l ++ u.l)) := by
  have := c_concat k [y, z, u] (by simp) (by simp [sumN]; omega) A (fun q hq => hA q (three_sub k y z u q hq))
  simpa using this
theorem enc_small {n : Nat} (hn : n < B256) (m : Nat) : (Byt.row m (enc n)).n ≤ 100000000000 := by
  show (enc n).length ≤ _
  have := nb_32 hn
  rw [enc_length]; omega

theorem c_app256 (y : Byt) (n : Nat) (hn : n < B256) (hy0 : y.n ≤ 100000000000) (A : Facts) (hy : Sub y.L A) : GivesA Try.prog 11 [y.v, U n] A Unit 5 1 (fun _ => bcs (y.l ++ enc n)) :=
  givesA_of_vcF Try.mixed good_wire_AppendUint256 (args := [(y.v, y.L), (U n, [])]) (B := []) (O := [.reg [(2, .call Nat 0 (fun m => (Byt.row m (enc n)).v) (fun m => (Byt.row m (enc n)).L)), (3, .call (Nat × Nat) (0, 0) (fun k => .slice (some ⟨k.1, 0, none⟩) 2 2) (fun k => (k.1, .cells #[y.v, (Byt.row k.2 (enc n)).v] 22) :: (y.L ++ (Byt.row k.2 (enc n)).L))), (4, .own Unit () 5 1 (fun _ => bcs (y.l ++ enc n)))]]) (.app (.nil _) (.app (hy) (.app (.nil _) (.nil _)))) (⟨c_enc n hn _, fun m => ⟨build_r2 (fun k => (k, m)) y (Byt.row m (enc n)) _ (by intro q h; simp [h]) (by intro z h; have h : z ∈ (Byt.row m (enc n)).L := h; simp [h]) (fun _ => rfl) (fun _ => rfl), fun k => ⟨(c_cat2 k.1 y (Byt.row k.2 (enc n)) hy0 (enc_small hn k.2) _ (by intro z h; simpa using h)).op rfl rfl, fun _ => ⟨(), rfl⟩⟩⟩⟩)
theorem good_uint256_FromUint64 : Good Try.prog 32 Try.f32 1 := ⟨Try.func32, by kernel_rfl, by kernel_rfl⟩
theorem c_app64 (y : Byt) (n : Nat) (hn : n < 18446744073709551616) (hy0 : y.n ≤ 100000000000) (A : Facts) (hy : Sub y.L A) : GivesA Try.prog 13 [y.v, .int .u64 (n : Int)] A Unit 5 1 (fun _ => bcs (y.l ++ enc n)) :=
  givesA_of_vcF Try.mixed good_wire_AppendUint64 (args := [(y.v, y.L), (.int .u64 (n : Int), [])]) (B := []) (O := [.reg [(2, det (U n)), (3, .own Unit () 5 1 (fun _ => bcs (y.l ++ enc n)))]]) (.app (.nil _) (.app (hy) (.app (.nil _) (.nil _)))) (⟨d_u64 n hn _, fun _ => ⟨(c_app256 y n (lt_B hn) hy0 _ (by intro q h; simp [h])).op rfl rfl, fun _ => ⟨(), rfl⟩⟩⟩)
theorem c_appb (y x : Byt) (hy0 : y.n ≤ 100000000000) (hx0 : x.n ≤ 100000000000) (A : Facts) (hy : Sub y.L A) (hx : Sub x.L A) : GivesA Try.prog 15 [y.v, x.v] A Unit 5 1 (fun _ => bcs (y.l ++ enc x.n ++ x.l)) :=
  givesA_of_vcF Try.mixed good_wire_AppendBytes (args := [(y.v, y.L), (x.v, x.L)]) (B := []) (O := [.reg [(2, .ld (.int .u64 (x.n : Int))), (3, det (U x.n)), (4, .call Nat 0 (fun m => (Byt.row m (enc x.n)).v) (fun m => (Byt.row m (enc x.n)).L))], .reg [(3, .call (Nat × Nat) (0, 0) (fun k => .slice (some ⟨k.1, 0, none⟩) 3 3) (fun k => (k.1, .cells #[y.v, (Byt.row k.2 (enc x.n)).v, x.v] 22) :: (y.L ++ ((Byt.row k.2 (enc x.n)).L ++ x.L)))), (4, .own Unit () 5 1 (fun _ => bcs (y.l ++ enc x.n ++ x.l)))]]) (.app (.nil _) (.app (hy) (.app (hx) (.nil _)))) (⟨ld_to64 (by omega) _, ⟨d_u64 x.n (show x.n < 18446744073709551616 by omega) _, fun _ => ⟨c_enc x.n (lt_B (show x.n < 18446744073709551616 by omega)) _, fun m => ⟨build_r3 (fun k => (k, m)) y (Byt.row m (enc x.n)) x _ (by intro q h; simp [h]) (by intro z h; have h : z ∈ (Byt.row m (enc x.n)).L := h; simp [h]) (by intro q h; simp [h]) (fun _ => rfl) (fun _ => rfl), fun k => ⟨(c_cat3 k.1 y (Byt.row k.2 (enc x.n)) x hy0 (enc_small (lt_B (show x.n < 18446744073709551616 by omega)) k.2) hx0 _ (by intro z h; simpa using h)).op rfl rfl, fun _ => ⟨(), rfl⟩⟩⟩⟩⟩⟩)
/-- The bytes of a signed number: none where it is not valid. -/
def encI (s : Bool) (n : Nat) : List UInt8 := if s && isz n then [] else (if s then 1 else 0) :: enc n
theorem encI_no {s : Bool} {n : Nat} (h : (s && isz n) = true) : encI s n = [] := if_pos h
theorem encI_yes {s : Bool} {n : Nat} (h : (s && isz n) = false) : encI s n = (if s then 1 else 0) :: enc n := if_neg (by rw [h]; exact Bool.false_ne_true)
theorem encI_cells {s : Bool} {n : Nat} (l : List UInt8) (b : UInt8) (h : (s && isz n) = false) (hb : b = if s then 1 else 0) : bcs (l ++ [b] ++ enc n) = bcs (l ++ encI s n) := by
  rw [encI_yes h, hb]; simp

theorem c_appi_no (y : Byt) (s : Bool) (n : Nat) (hy0 : y.n ≤ 100000000000) (A : Facts) (hy : Sub y.L A) (h : (s && isz n) = true) : GivesA Try.prog 17 [y.v, Ic s n] A Unit 5 1 (fun _ => bcs (y.l ++ encI s n)) :=
  givesA_of_vcF Try.mixed good_wire_AppendInt256 (args := [(y.v, y.L), (Ic s n, [])]) (B := []) (O := [.reg [(1, det (.bool (!s || !isz n)))], .yes, .reg [(1, .own Unit () 5 1 (fun _ => bcs y.l))]]) (.app (.nil _) (.app (hy) (.app (.nil _) (.nil _)))) (⟨c_val s n _, fun _ => ⟨(and_nt h), ⟨(c_clone y (by omega) _ (by intro q h; simp [h])).op rfl rfl, fun _ => ⟨(), by rw [encI_no h, List.append_nil]⟩⟩⟩⟩)
theorem c_appi_false (y : Byt) (n : Nat) (hn : n < B256) (hy0 : y.n ≤ 100000000000) (A : Facts) (hy : Sub y.L A) (h : (false && isz n) = false) : GivesA Try.prog 17 [y.v, Ic false n] A Unit 5 1 (fun _ => bcs (y.l ++ encI false n)) :=
  givesA_of_vcF Try.mixed good_wire_AppendInt256 (args := [(y.v, y.L), (Ic false n, [])]) (B := []) (O := [.reg [(1, det (.bool (!false || !isz n)))], .no, .no, .reg [(2, .call Nat 0 (fun m => (Byt.row m [0]).v) (fun m => (Byt.row m [0]).L)), (5, .call Nat 0 (fun m => (Byt.row m (enc n)).v) (fun m => (Byt.row m (enc n)).L)), (6, .call (Nat × Nat × Nat) (0, 0, 0) (fun k => .slice (some ⟨k.1, 0, none⟩) 3 3) (fun k => (k.1, .cells #[y.v, (Byt.row k.2.1 [0]).v, (Byt.row k.2.2 (enc n)).v] 22) :: (y.L ++ ((Byt.row k.2.1 [0]).L ++ (Byt.row k.2.2 (enc n)).L)))), (7, .own Unit () 5 1 (fun _ => bcs (y.l ++ [0] ++ enc n)))]]) (.app (.nil _) (.app (hy) (.app (.nil _) (.nil _)))) (⟨c_val false n _, fun _ => ⟨(and_nf h), ⟨rfl, ⟨build_1 0 _, fun q => ⟨c_enc n hn _, fun m => ⟨build_r3 (fun k => (k, q, m)) y (Byt.row q [0]) (Byt.row m (enc n)) _ (by intro q h; simp [h]) (by intro z h; have h : z ∈ (Byt.row q [0]).L := h; simp [h]) (by intro z h; have h : z ∈ (Byt.row m (enc n)).L := h; simp [h]) (fun _ => rfl) (fun _ => rfl), fun k => ⟨(c_cat3 k.1 y (Byt.row k.2.1 [0]) (Byt.row k.2.2 (enc n)) hy0 (show 1 ≤ 100000000000 by omega) (enc_small hn k.2.2) _ (by intro z h; simpa using h)).op rfl rfl, fun _ => ⟨(), encI_cells y.l 0 h rfl⟩⟩⟩⟩⟩⟩⟩⟩)
theorem c_appi_true (y : Byt) (n : Nat) (hn : n < B256) (hy0 : y.n ≤ 100000000000) (A : Facts) (hy : Sub y.L A) (h : (true && isz n) = false) : GivesA Try.prog 17 [y.v, Ic true n] A Unit 5 1 (fun _ => bcs (y.l ++ encI true n)) :=
  givesA_of_vcF Try.mixed good_wire_AppendInt256 (args := [(y.v, y.L), (Ic true n, [])]) (B := []) (O := [.reg [(1, det (.bool (!true || !isz n)))], .no, .yes, .reg [(2, .call Nat 0 (fun m => (Byt.row m [1]).v) (fun m => (Byt.row m [1]).L)), (5, .call Nat 0 (fun m => (Byt.row m (enc n)).v) (fun m => (Byt.row m (enc n)).L)), (6, .call (Nat × Nat × Nat) (0, 0, 0) (fun k => .slice (some ⟨k.1, 0, none⟩) 3 3) (fun k => (k.1, .cells #[y.v, (Byt.row k.2.1 [1]).v, (Byt.row k.2.2 (enc n)).v] 22) :: (y.L ++ ((Byt.row k.2.1 [1]).L ++ (Byt.row k.2.2 (enc n)).L)))), (7, .own Unit () 5 1 (fun _ => bcs (y.l ++ [1] ++ enc n)))]]) (.app (.nil _) (.app (hy) (.app (.nil _) (.nil _)))) (⟨c_val true n _, fun _ => ⟨(and_nf h), ⟨rfl, ⟨build_1 1 _, fun q => ⟨c_enc n hn _, fun m => ⟨build_r3 (fun k => (k, q, m)) y (Byt.row q [1]) (Byt.row m (enc n)) _ (by intro q h; simp [h]) (by intro z h; have h : z ∈ (Byt.row q [1]).L := h; simp [h]) (by intro z h; have h : z ∈ (Byt.row m (enc n)).L := h; simp [h]) (fun _ => rfl) (fun _ => rfl), fun k => ⟨(c_cat3 k.1 y (Byt.row k.2.1 [1]) (Byt.row k.2.2 (enc n)) hy0 (show 1 ≤ 100000000000 by omega) (enc_small hn k.2.2) _ (by intro z h; simpa using h)).op rfl rfl, fun _ => ⟨(), encI_cells y.l 1 h rfl⟩⟩⟩⟩⟩⟩⟩⟩)
theorem c_appi (y : Byt) (s : Bool) (n : Nat) (hn : n < B256) (hy0 : y.n ≤ 100000000000) (A : Facts) (hy : Sub y.L A) : GivesA Try.prog 17 [y.v, Ic s n] A Unit 5 1 (fun _ => bcs (y.l ++ encI s n)) := by
  cases h : (s && isz n) with
  | true => exact c_appi_no y s n hy0 A hy h
  | false =>
    cases s with
    | false => exact c_appi_false y n hn hy0 A hy h
    | true => exact c_appi_true y n hn hy0 A hy h

/-- The digits' loop: nothing yet, or some. -/
inductive DgX (n : Nat) where
  | z (k : Nat) (hk : k ≤ 32) (h : n / 256 ^ k = 0)
  | a (k : Nat) (hk : k ≤ 32) (h : 0 < n / 256 ^ k)
def DgX.k {n : Nat} : DgX n → Nat
  | .z k _ _ => k
  | .a k _ _ => k
def DgX.S {n : Nat} : DgX n → Ls
  | .z k _ _ => ⟨32, [(1, .p 0 0), (3, .v (.slice none 0 0) []), (4, .v (.int .i64 ((k : Int) - 1)) [])], [(0, ⟨25, cU n, []⟩)], 10⟩
  | .a k _ _ => ⟨32, [(1, .p 0 0), (3, .a 33 1 1), (4, .v (.int .i64 ((k : Int) - 1)) [])], [(0, ⟨25, cU n, []⟩), (33, ⟨bufT 5 1, bcs (dg (n / 256 ^ k)), []⟩)], 10⟩
def DgX.of (n k : Nat) (hk : k ≤ 32) : DgX n := if h : n / 256 ^ k = 0 then .z k hk h else .a k hk (Nat.pos_of_ne_zero h)
theorem ge_t {k : Nat} (h : decide ((k : Int) - 1 ≥ 0) = true) : (k : Int) - 1 = ((k - 1 : Nat) : Int) := by have := of_decide_eq_true h; omega
theorem ge_pos {k : Nat} (h : decide ((k : Int) - 1 ≥ 0) = true) : 0 < k := by have := of_decide_eq_true h; omega
theorem ge_f {k : Nat} (h : decide ((k : Int) - 1 ≥ 0) = false) : k = 0 := by have := of_decide_eq_false h; omega
theorem dg_dec {k : Nat} (h : 0 < k) (hk : k ≤ 32) : IntKind.i64.wrap ((k : Int) - 1 - 1) = ((k - 1 : Nat) : Int) - 1 := by
  rw [IntKind.wrap_i64] <;> omega
theorem by_pos {b : UInt8} (h : decide ((b.toNat : Int) > 0) = true) : 0 < b.toNat := by have := of_decide_eq_true h; omega
theorem by_zero {b : UInt8} (h : decide ((b.toNat : Int) > 0) = false) : b.toNat = 0 := by have := of_decide_eq_false h; omega
theorem dv (n : Nat) {k : Nat} (h : 0 < k) : n / 256 ^ (k - 1) = n / 256 ^ k * 256 + (byt n (k - 1)).toNat := by
  have := div_snoc n (k - 1)
  rwa [show k - 1 + 1 = k by omega] at this
theorem dg_first {n k : Nat} (h : 0 < k) (hz : n / 256 ^ k = 0) (hb : 0 < (byt n (k - 1)).toNat) : bcs [byt n (k - 1)] = bcs (dg (n / 256 ^ (k - 1))) := by
  rw [dv n h, hz, dg_snoc _ (.inr hb)]; rfl
theorem dg_more {n k : Nat} (h : 0 < k) (hz : 0 < n / 256 ^ k) : bcs (dg (n / 256 ^ k)) ++ bcs [byt n (k - 1)] = bcs (dg (n / 256 ^ (k - 1))) := by
  rw [dv n h, dg_snoc _ (.inl hz), bcs_append]
theorem dg_small {n : Nat} (k : Nat) (hn : n < B256) : nb (n / 256 ^ k) ≤ 32 := nb_32 (Nat.lt_of_le_of_lt (Nat.div_le_self _ _) hn)
theorem top_z {n : Nat} (hn : n < B256) : n / 256 ^ 32 = 0 := Nat.div_eq_of_lt hn
theorem dg_len {n k : Nat} (hz : 0 < n / 256 ^ k) : decide ((lenB (bcs (dg (n / 256 ^ k))) 1 : Int) > 0) = true := by
  have := nb_pos hz
  show decide (((bcs (dg (n / 256 ^ k))).length : Int) > 0) = true
  rw [bcs_length, dg_length]; apply decide_eq_true; omega

theorem t_dig (n : Nat) (hn : n < B256) (A : Facts) : GivesA Try.prog 31 [U n] A Unit 5 1 (fun _ => bcs (dg n)) :=
  givesA_of_vcF Try.mixed good_pontageref6_digits (args := [(U n, [])]) (B := []) (O := [.inv (DgX n) (DgX.S) (DgX.k) (fun | .z k hk hz => [.both [.opt 5 [(3, .ld (.int .u64 (limb n ((k - 1) / 8)))), (7, .ld (.int .u64 ((8 * ((k - 1) % 8) : Nat) : Int))), (9, .ld (.int .u8 ((byt n (k - 1)).toNat : Int)))], .reg [(4, .yes), (5, .yes), (6, .no)], .both [.opt 7 [(2, .call Nat 0 (fun m => (Byt.row m [(byt n (k - 1))]).v) (fun m => (Byt.row m [(byt n (k - 1))]).L)), (3, .own Unit () 5 1 (fun _ => bcs [(byt n (k - 1))]))]] []] []] | .a k hk hz => [.both [.opt 5 [(3, .ld (.int .u64 (limb n ((k - 1) / 8)))), (7, .ld (.int .u64 ((8 * ((k - 1) % 8) : Nat) : Int))), (9, .ld (.int .u8 ((byt n (k - 1)).toNat : Int)))], .reg [(4, .no), (5, .no), (6, .yes)], .yes, .opt 7 [(2, .call Nat 0 (fun m => (Byt.row m [(byt n (k - 1))]).v) (fun m => (Byt.row m [(byt n (k - 1))]).L)), (3, .app 1 (bcs [(byt n (k - 1))]))]] []])]) (.app (.nil _) (.app (.nil _) (.nil _))) (⟨⟨.z 32 (by decide) (top_z hn), rfl, ⟨⟨rfl, rfl, rfl⟩, ⟨rfl, nofun⟩, ⟨rfl, nofun⟩, trivial⟩, ⟨rfl, rfl, nofun⟩, trivial⟩, fun | .z k hk hz => ⟨fun h => ⟨⟨by decide, rfl⟩, ⟨quo8_4z (ge_t h) (by omega), ⟨get_cellz n (ge_t h) (by omega), ⟨⟨by decide, rfl⟩, ⟨ld_uintz (ge_t h) _, ⟨Int.natCast_nonneg _, ⟨ld_conv64 (en_byte8 n (k - 1)) _, ⟨gff rfl, ⟨gff rfl, ⟨rfl, ⟨fun g => ⟨build_1 _ _, fun m => ⟨own_app (Byt.row m [(byt n (k - 1))]) (by intro z h; have h : z ∈ (Byt.row m [(byt n (k - 1))]).L := h; simp [h]) (show 1 ≤ 1099511627776 by omega), fun _ => ⟨.a (k - 1) (by omega) (by rw [dv n (ge_pos h), hz]; have := by_pos g; omega), (by have := ge_pos h; show k - 1 < k; omega), rfl, ⟨⟨rfl, rfl, rfl⟩, ⟨rfl, rfl, rfl⟩, ⟨congrArg _ (dg_dec (ge_pos h) hk), nofun⟩, trivial⟩, ⟨rfl, rfl, nofun⟩, ⟨⟨rfl, rfl⟩, dg_first (ge_pos h) hz (by_pos g), nofun⟩, trivial⟩⟩⟩, fun g => ⟨.z (k - 1) (by omega) (by rw [dv n (ge_pos h), hz, by_zero g]), (by have := ge_pos h; show k - 1 < k; omega), rfl, ⟨⟨rfl, rfl, rfl⟩, ⟨rfl, nofun⟩, ⟨congrArg _ (dg_dec (ge_pos h) hk), nofun⟩, trivial⟩, ⟨rfl, rfl, nofun⟩, trivial⟩⟩⟩⟩⟩⟩⟩⟩⟩⟩⟩⟩, fun h => ⟨(), by have h0 := ge_f h; subst h0; rw [Nat.pow_zero, Nat.div_one] at hz; subst hz; rfl⟩⟩ | .a k hk hz => ⟨fun h => ⟨⟨by decide, rfl⟩, ⟨quo8_4z (ge_t h) (by omega), ⟨get_cellz n (ge_t h) (by omega), ⟨⟨by decide, rfl⟩, ⟨ld_uintz (ge_t h) _, ⟨Int.natCast_nonneg _, ⟨ld_conv64 (en_byte8 n (k - 1)) _, ⟨gft (dg_len hz), ⟨gft (dg_len hz), ⟨(dg_len hz), ⟨rfl, ⟨build_1 _ _, fun m => ⟨⟨(Byt.row m [(byt n (k - 1))]).src (by intro z h; have h : z ∈ (Byt.row m [(byt n (k - 1))]).L := h; simp [h]), (by rw [bcs_length, dg_length]; have := dg_small k hn; show _ + 1 ≤ _; omega)⟩, fun _ => ⟨.a (k - 1) (by omega) (by rw [dv n (ge_pos h)]; omega), (by have := ge_pos h; show k - 1 < k; omega), rfl, ⟨⟨rfl, rfl, rfl⟩, ⟨rfl, rfl, rfl⟩, ⟨congrArg _ (dg_dec (ge_pos h) hk), nofun⟩, trivial⟩, ⟨rfl, rfl, nofun⟩, ⟨⟨rfl, rfl⟩, dg_more (ge_pos h) hz, nofun⟩, trivial⟩⟩⟩⟩⟩⟩⟩⟩⟩⟩⟩⟩⟩⟩, fun h => ⟨(), by have h0 := ge_f h; subst h0; show bcs (dg (n / 256 ^ 0)) = _; rw [Nat.pow_zero, Nat.div_one]⟩⟩⟩)
theorem ld_dg {n : Nat} : IntKind.u8.wrap ((lenB (bcs (dg n)) 1 : Nat) : Int) = ((UInt8.ofNat (nb n)).toNat : Int) := by
  refine u8_wrap ?_
  show (((bcs (dg n)).length : Nat) : Int) = _
  rw [bcs_length, dg_length]
theorem enc_cells (l : List UInt8) (n : Nat) : (bcs l ++ bcs [UInt8.ofNat (nb n)]) ++ bcs (dg n) = bcs (l ++ enc n) := by
  rw [bcs_append, bcs_append]; simp [enc, dg]
theorem app_ok {l : List UInt8} {k j : Nat} (h : l.length = k) (hk : k ≤ 100000000000) (hj : j ≤ 100000000000) : (bcs l).length + j ≤ 1099511627776 := by rw [bcs_length]; omega
theorem app_ok2 {l m : List UInt8} {k j : Nat} (h : l.length = k) (hk : k ≤ 100000000000) (hm : m.length ≤ 100000000000) (hj : j ≤ 100000000000) : (bcs l ++ bcs m).length + j ≤ 1099511627776 := by rw [List.length_append, bcs_length, bcs_length]; omega
theorem dg_ok {n : Nat} (hn : n < B256) : (bcs (dg n)).length ≤ 100000000000 := by rw [bcs_length, dg_length]; have := nb_32 hn; omega

theorem t_app256 (y : Byt) (n : Nat) (hn : n < B256) (hy0 : y.n ≤ 100000000000) (A : Facts) (hy : Sub y.L A) : GivesA Try.prog 12 [y.v, U n] A Unit 5 1 (fun _ => bcs (y.l ++ enc n)) :=
  givesA_of_vcF Try.mixed good_pontageref6_AppendUint256 (args := [(y.v, y.L), (U n, [])]) (B := []) (O := [.reg [(1, frv (bcs (dg n)))], .opt 2 [(0, .call Nat 0 (fun m => (Byt.row m []).v) (fun m => (Byt.row m []).L)), (2, .own Unit () 5 1 (fun _ => bcs y.l)), (5, .ld (.int .u8 ((UInt8.ofNat (nb n)).toNat : Int))), (6, .call Nat 0 (fun m => (Byt.row m [UInt8.ofNat (nb n)]).v) (fun m => (Byt.row m [UInt8.ofNat (nb n)]).L)), (7, .app 1 (bcs [UInt8.ofNat (nb n)])), (9, .app (lenB (bcs (dg n)) 1) (bcs (dg n)))]]) (.app (.nil _) (.app (hy) (.app (.nil _) (.nil _)))) (⟨(t_dig n hn _).gives, fun v => ⟨build_0 _, fun _ => ⟨own_app y (by intro q h; simp [h]) (by omega), fun _ => ⟨ld_conv8 ld_dg _, ⟨build_1 _ _, fun m => ⟨⟨(Byt.row m [UInt8.ofNat (nb n)]).src (by intro z h; have h : z ∈ (Byt.row m [UInt8.ofNat (nb n)]).L := h; simp [h]), app_ok y.hl hy0 (show 1 ≤ 100000000000 by omega)⟩, fun _ => ⟨⟨(Byt.ofFr (bcs (dg n)) (dg n) (rfl) v).src (by intro z h; have h : z ∈ frL 5 v := h; simp [h]), app_ok2 y.hl hy0 (show 1 ≤ 100000000000 by omega) (dg_ok hn)⟩, fun _ => ⟨(), enc_cells y.l n⟩⟩⟩⟩⟩⟩⟩⟩)
theorem t_app256w (y : Byt) (n : Nat) (hn : n < 18446744073709551616) (hy0 : y.n ≤ 100000000000) (A : Facts) (hy : Sub y.L A) : GivesA Try.prog 12 [y.v, .agg #[.int .u64 (n : Int), .int .u64 0, .int .u64 0, .int .u64 0]] A Unit 5 1 (fun _ => bcs (y.l ++ enc n)) := by
  have := t_app256 y n (lt_B hn) hy0 A hy
  rwa [U_word n hn] at this

theorem t_app64 (y : Byt) (n : Nat) (hn : n < 18446744073709551616) (hy0 : y.n ≤ 100000000000) (A : Facts) (hy : Sub y.L A) : GivesA Try.prog 14 [y.v, .int .u64 (n : Int)] A Unit 5 1 (fun _ => bcs (y.l ++ enc n)) :=
  givesA_of_vcF Try.mixed good_pontageref6_AppendUint64 (args := [(y.v, y.L), (.int .u64 (n : Int), [])]) (B := []) (O := [.reg [(3, .own Unit () 5 1 (fun _ => bcs (y.l ++ enc n)))]]) (.app (.nil _) (.app (hy) (.app (.nil _) (.nil _)))) (⟨(t_app256w y n hn hy0 _ (by intro q h; simp [h])).op rfl rfl, fun _ => ⟨(), rfl⟩⟩)
theorem app_ok3 {l : List UInt8} {n k j : Nat} (h : l.length = k) (hk : k ≤ 100000000000) (hn : n < B256) (hj : j ≤ 100000000000) : (bcs (l ++ enc n)).length + j ≤ 1099511627776 := by
  have := nb_32 hn
  rw [bcs_length, List.length_append, enc_length]; omega
theorem Byt.len_ok (x : Byt) (h : x.n ≤ 100000000000) : (bcs x.l).length ≤ 100000000000 := by rw [bcs_length, x.hl]; exact h

theorem t_appb (y x : Byt) (hy0 : y.n ≤ 100000000000) (hx0 : x.n ≤ 100000000000) (A : Facts) (hy : Sub y.L A) (hx : Sub x.L A) : GivesA Try.prog 16 [y.v, x.v] A Unit 5 1 (fun _ => bcs (y.l ++ enc x.n ++ x.l)) :=
  givesA_of_vcF Try.mixed good_pontageref6_AppendBytes (args := [(y.v, y.L), (x.v, x.L)]) (B := []) (O := [.reg [(3, .ld (.int .u64 (x.n : Int))), (4, .own Unit () 5 1 (fun _ => bcs (y.l ++ enc x.n))), (6, .app x.n (bcs x.l))]]) (.app (.nil _) (.app (hy) (.app (hx) (.nil _)))) (⟨ld_to64 (by omega) _, ⟨(t_app64 y x.n (show x.n < 18446744073709551616 by omega) hy0 _ (by intro q h; simp [h])).op rfl rfl, fun _ => ⟨⟨x.src (by intro q h; simp [h]), app_ok3 y.hl hy0 (lt_B (show x.n < 18446744073709551616 by omega)) (x.len_ok hx0)⟩, fun _ => ⟨(), bcs_append _ _⟩⟩⟩⟩)
theorem fr_cast {c d : List Value} (e : c = d) (x : FrX c) : ∃ z : FrX d, Sx.one [.slice (frO x) (lenB c 1) (frC 1 x)] = .slice (frO z) (lenB d 1) (frC 1 z) ∧ ∀ q ∈ frL 5 z, q ∈ frL 5 x ++ ([] ++ ([] : Facts)) := by
  subst e; exact ⟨x, rfl, fun q h => List.mem_append.2 (.inl h)⟩
theorem fr_cast1 {c d : List Value} (e : c = d) (x : FrX c) : ∃ z : FrX d, Sx.one [.slice (frO x) (lenB c 1) (frC 1 x)] = .slice (frO z) (lenB d 1) (frC 1 z) ∧ ∀ q ∈ frL 5 z, q ∈ frL 5 x ++ ([] : Facts) := by
  subst e; exact ⟨x, rfl, fun q h => List.mem_append.2 (.inl h)⟩

theorem t_appi_no (y : Byt) (n : Nat) (hy0 : y.n ≤ 100000000000) (A : Facts) (hy : Sub y.L A) (h : isz n = true) : Gives Try.prog 18 [y.v, Ic true n] A (FrX (bcs (y.l ++ encI true n))) (fun x => .slice (frO x) (lenB (bcs (y.l ++ encI true n)) 1) (frC 1 x)) (fun x => frL 5 x) :=
  gives_of_vcF Try.mixed good_pontageref6_AppendInt256 (args := [(y.v, y.L), (Ic true n, [])]) (B := []) (O := [.reg [(3, .yes), (4, .yes), (5, .yes), (6, .yes), (7, .yes)], .yes, .opt 2 [(0, .call Nat 0 (fun m => (Byt.row m []).v) (fun m => (Byt.row m []).L)), (2, .own Unit () 5 1 (fun _ => bcs y.l))]]) (.app (.nil _) (.app (hy) (.app (.nil _) (.nil _)))) (⟨gtt rfl, ⟨gtt rfl, ⟨gtt rfl, ⟨⟨gtt rfl, eqT_api_Uint256 rfl rfl⟩, ⟨rfl, ⟨h, ⟨build_0 _, fun _ => ⟨own_app y (by intro q h; simp [h]) (by omega), fun _ => fun x => fr_cast (by rw [encI_no (by rw [h]; rfl), List.append_nil]) x⟩⟩⟩⟩⟩⟩⟩⟩)
theorem t_appi_false (y : Byt) (n : Nat) (hn : n < B256) (hy0 : y.n ≤ 1000000000) (A : Facts) (hy : Sub y.L A) : Gives Try.prog 18 [y.v, Ic false n] A (FrX (bcs (y.l ++ encI false n))) (fun x => .slice (frO x) (lenB (bcs (y.l ++ encI false n)) 1) (frC 1 x)) (fun x => frL 5 x) :=
  gives_of_vcF Try.mixed good_pontageref6_AppendInt256 (args := [(y.v, y.L), (Ic false n, [])]) (B := []) (O := [.reg [(3, .no), (4, .no), (5, .no), (6, .no), (7, .no)], .no, .no, .reg [(0, .call Nat 0 (fun m => (Byt.row m []).v) (fun m => (Byt.row m []).L)), (2, .own Unit () 5 1 (fun _ => bcs y.l)), (4, .call Nat 0 (fun m => (Byt.row m [0]).v) (fun m => (Byt.row m [0]).L)), (5, .appf 1 (bcs [0])), (8, frv (bcs (y.l ++ [0] ++ enc n)))]]) (.app (.nil _) (.app (hy) (.app (.nil _) (.nil _)))) (⟨gtf rfl, ⟨gtf rfl, ⟨gtf rfl, ⟨gtf rfl, ⟨rfl, ⟨rfl, ⟨rfl, ⟨build_0 _, fun _ => ⟨own_app y (by intro q h; simp [h]) (by omega), fun _ => ⟨build_1 0 _, fun m => ⟨⟨(Byt.row m [0]).src (by intro z h; have h : z ∈ (Byt.row m [0]).L := h; simp [h]), app_ok y.hl (by omega) (show 1 ≤ 100000000000 by omega)⟩, fun u => ⟨(t_app256 (Byt.ofFr (bcs y.l ++ bcs [0]) (y.l ++ [0]) (bcs_append _ _) u) n hn (by show (bcs y.l ++ bcs [0]).length ≤ _; rw [List.length_append, bcs_length, bcs_length, y.hl]; show y.n + 1 ≤ _; omega) _ (by intro z h; have h : z ∈ frL 5 u := h; simp [h])).gives, fun v => fr_cast1 (encI_cells y.l 0 rfl rfl) v⟩⟩⟩⟩⟩⟩⟩⟩⟩⟩⟩⟩)
theorem t_appi_true (y : Byt) (n : Nat) (hn : n < B256) (hy0 : y.n ≤ 1000000000) (A : Facts) (hy : Sub y.L A) (h : isz n = false) : Gives Try.prog 18 [y.v, Ic true n] A (FrX (bcs (y.l ++ encI true n))) (fun x => .slice (frO x) (lenB (bcs (y.l ++ encI true n)) 1) (frC 1 x)) (fun x => frL 5 x) :=
  gives_of_vcF Try.mixed good_pontageref6_AppendInt256 (args := [(y.v, y.L), (Ic true n, [])]) (B := []) (O := [.reg [(3, .yes), (4, .yes), (5, .yes), (6, .yes), (7, .yes)], .no, .yes, .reg [(0, .call Nat 0 (fun m => (Byt.row m []).v) (fun m => (Byt.row m []).L)), (2, .own Unit () 5 1 (fun _ => bcs y.l)), (4, .call Nat 0 (fun m => (Byt.row m [1]).v) (fun m => (Byt.row m [1]).L)), (5, .appf 1 (bcs [1])), (8, frv (bcs (y.l ++ [1] ++ enc n)))]]) (.app (.nil _) (.app (hy) (.app (.nil _) (.nil _)))) (⟨gtt rfl, ⟨gtt rfl, ⟨gtt rfl, ⟨⟨gtt rfl, eqT_api_Uint256 rfl rfl⟩, ⟨rfl, ⟨h, ⟨rfl, ⟨build_0 _, fun _ => ⟨own_app y (by intro q h; simp [h]) (by omega), fun _ => ⟨build_1 1 _, fun m => ⟨⟨(Byt.row m [1]).src (by intro z h; have h : z ∈ (Byt.row m [1]).L := h; simp [h]), app_ok y.hl (by omega) (show 1 ≤ 100000000000 by omega)⟩, fun u => ⟨(t_app256 (Byt.ofFr (bcs y.l ++ bcs [1]) (y.l ++ [1]) (bcs_append _ _) u) n hn (by show (bcs y.l ++ bcs [1]).length ≤ _; rw [List.length_append, bcs_length, bcs_length, y.hl]; show y.n + 1 ≤ _; omega) _ (by intro z h; have h : z ∈ frL 5 u := h; simp [h])).gives, fun v => fr_cast1 (encI_cells y.l 1 (by rw [h]; rfl) rfl) v⟩⟩⟩⟩⟩⟩⟩⟩⟩⟩⟩⟩)
theorem t_appi (y : Byt) (s : Bool) (n : Nat) (hn : n < B256) (hy0 : y.n ≤ 1000000000) (A : Facts) (hy : Sub y.L A) : Gives Try.prog 18 [y.v, Ic s n] A (FrX (bcs (y.l ++ encI s n))) (fun x => .slice (frO x) (lenB (bcs (y.l ++ encI s n)) 1) (frC 1 x)) (fun x => frL 5 x) := by
  cases s with
  | false => exact t_appi_false y n hn hy0 A hy
  | true =>
    cases h : isz n with
    | true => exact t_appi_no y n (by omega) A hy h
    | false => exact t_appi_true y n hn hy0 A hy h

end Go.Proofs.Ytfpigcaihmlelaa

