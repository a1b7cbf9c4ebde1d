/- Contracts of the reference of layer 4 over this translation: numbers and their decimal numerals, the same results as the package's. No conditions besides. -/
import Derived.Test.YtkionnggdncncaaDoorD4m
namespace Go.Proofs.YtkionnggdncncaaDoor
open Go.RowKit Sx
set_option maxRecDepth 100000

theorem canon_e {s : ByteArray} (he : s.size = 0) : canon (bs s) = false := by rw [List.eq_nil_of_length_eq_zero ((bs_len s).trans he)]; rfl
theorem nil_v (s : ByteArray) : Value.slice none 0 0 = (RpX.first s).x.v := by
  show _ = Value.slice none (nd 0) 0
  rw [nd_zero]
theorem canon_z {s : ByteArray} (hz : byteAt s 0 = 48 ∧ 1 < s.size) : canon (bs s) = false := by
  have hl := bs_len s
  rcases hb : bs s with _ | ⟨b, _ | ⟨c, r⟩⟩
  · rfl
  · rw [hb] at hl; simp at hl; omega
  · rw [byteAt0 hb] at hz
    have : b.toNat = 48 := by omega
    simp [canon, this]
theorem nd_nz {n : Nat} (h : n ≠ 0) : decide ((nd n : Int) = 0) = false := by have := ndY_pos (Nat.pos_of_ne_zero h); apply decide_eq_false; omega
theorem dec0 : Value.string { data := #[48] } = .string (dec 0) := by rw [dec, dec_small (by omega)]; rfl
theorem val_z {n : Nat} (h : n = 0) : val true n = false := by simp [val, h]
theorem val_nz {n : Nat} (h : n ≠ 0) : val true n = true := by simp [val, h]

theorem good_pontageref4_FormatBig : Good Tryd.prog 24 Tryd.f24 1 := ⟨Tryd.func24, by kernel_rfl, by kernel_rfl⟩
theorem good_pontageref4_Format : Good Tryd.prog 9 Tryd.f9 1 := ⟨Tryd.func9, by kernel_rfl, by kernel_rfl⟩
theorem good_pontageref4_IsCanonical : Good Tryd.prog 30 Tryd.f30 1 := ⟨Tryd.func30, by kernel_rfl, by kernel_rfl⟩
theorem good_pontageref4_Parse : Good Tryd.prog 15 Tryd.f15 1 := ⟨Tryd.func15, by kernel_rfl, by kernel_rfl⟩
theorem good_pontageref4_FormatInt : Good Tryd.prog 11 Tryd.f11 1 := ⟨Tryd.func11, by kernel_rfl, by kernel_rfl⟩
theorem good_pontageref4_ParseInt : Good Tryd.prog 17 Tryd.f17 1 := ⟨Tryd.func17, by kernel_rfl, by kernel_rfl⟩
theorem ic_loop (s : ByteArray) (hs : s.size < 4611686018427387904) (hne : s.size ≠ 0) (hz : ¬ (byteAt s 0 = 48 ∧ 1 < s.size)) : Det Tryd.prog 30 [.string s] (.bool (canon (bs s))) :=
  det_of_vc Tryd.mixed good_pontageref4_IsCanonical (O := [.alt [(1 < s.size, [(4, .yes), (5, .yes), (6, .yes), (7, .yes), (8, .yes), (9, .yes), (10, .yes), (11, .yes), (12, .no)], [.no, .inv (WfX s) (fun x : WfX s => ⟨33, [(0, .v (.string s) []), (3, .v (.int .i64 x.i) [])], [], 0⟩) (fun x => s.size - x.i) (fun x => [.both [.alt [(byteAt s x.i < 48, [(5, .no), (6, .no), (7, .no), (8, .no), (9, .yes)], [.yes]), (True, [(5, .yes), (6, .yes), (7, .yes), (8, .yes), (9, .no)], [.both [] []])]] []])]), (True, [(4, .yes), (5, .yes), (6, .yes), (7, .yes), (8, .no), (9, .no), (10, .no), (11, .els), (12, .no)], [.no, .inv (WfX s) (fun x : WfX s => ⟨33, [(0, .v (.string s) []), (3, .v (.int .i64 x.i) [])], [], 0⟩) (fun x => s.size - x.i) (fun x => [.both [.alt [(byteAt s x.i < 48, [(5, .no), (6, .no), (7, .no), (8, .no), (9, .yes)], [.yes]), (True, [(5, .yes), (6, .yes), (7, .yes), (8, .yes), (9, .no)], [.both [] []])]] []])])]]) fun _ => ⟨fun h0 => ⟨gff (len_nz hne), ⟨gff (len_nz hne), ⟨gff (len_nz hne), ⟨gff (len_nz hne), ⟨gtt (gt_dec h0), ⟨⟨gtt (gt_dec h0), ix_ok (Nat.pos_of_ne_zero hne)⟩, ⟨gtt (gt_dec h0), ⟨⟨gff (len_nz hne), (gt_dec h0)⟩, ⟨(len_nz hne), ⟨(decide_eq_false fun h1 => hz ⟨h1, h0⟩), ⟨⟨⟨0, Nat.zero_le _, rfl⟩, rfl, ⟨⟨rfl, nofun⟩, ⟨rfl, nofun⟩, trivial⟩, trivial⟩, fun x => ⟨fun h => ⟨fun h1 => ⟨ix_ok (lt_of_dec h), ⟨gft (decide_eq_true h1), ⟨gft (decide_eq_true h1), ⟨gft (decide_eq_true h1), ⟨gft (decide_eq_true h1), ⟨(decide_eq_true h1), ⟨rfl, ⟨(), x.low (lt_of_dec h) h1, nofun⟩⟩⟩⟩⟩⟩⟩⟩, fun h1 => ⟨fun _ => ⟨ix_ok (lt_of_dec h), ⟨gff (decide_eq_false h1), ⟨gff (decide_eq_false h1), ⟨⟨gff (decide_eq_false h1), ix_ok (lt_of_dec h)⟩, ⟨gff (decide_eq_false h1), ⟨(decide_eq_false h1), ⟨fun h2 => ⟨(), x.high (lt_of_dec h) h1 h2, nofun⟩, fun h2 => ⟨x.next (lt_of_dec h) h1 h2, x.next_lt (lt_of_dec h) h1 h2, rfl, ⟨⟨rfl, nofun⟩, ⟨x.next_i hs (lt_of_dec h) h1 h2, nofun⟩, trivial⟩, trivial⟩⟩⟩⟩⟩⟩⟩⟩, fun h => (h trivial).elim⟩⟩, fun h => ⟨(), x.done hne hz (ge_of_dec h), nofun⟩⟩⟩⟩⟩⟩⟩⟩⟩⟩⟩⟩⟩, fun h0 => ⟨fun _ => ⟨gff (len_nz hne), ⟨gff (len_nz hne), ⟨gff (len_nz hne), ⟨gff (len_nz hne), ⟨gtf (ngt1 h0), ⟨gtf (ngt1 h0), ⟨gtf (ngt1 h0), ⟨⟨gff (len_nz hne), (ngt1 h0)⟩, ⟨(len_nz hne), ⟨rfl, ⟨⟨⟨0, Nat.zero_le _, rfl⟩, rfl, ⟨⟨rfl, nofun⟩, ⟨rfl, nofun⟩, trivial⟩, trivial⟩, fun x => ⟨fun h => ⟨fun h1 => ⟨ix_ok (lt_of_dec h), ⟨gft (decide_eq_true h1), ⟨gft (decide_eq_true h1), ⟨gft (decide_eq_true h1), ⟨gft (decide_eq_true h1), ⟨(decide_eq_true h1), ⟨rfl, ⟨(), x.low (lt_of_dec h) h1, nofun⟩⟩⟩⟩⟩⟩⟩⟩, fun h1 => ⟨fun _ => ⟨ix_ok (lt_of_dec h), ⟨gff (decide_eq_false h1), ⟨gff (decide_eq_false h1), ⟨⟨gff (decide_eq_false h1), ix_ok (lt_of_dec h)⟩, ⟨gff (decide_eq_false h1), ⟨(decide_eq_false h1), ⟨fun h2 => ⟨(), x.high (lt_of_dec h) h1 h2, nofun⟩, fun h2 => ⟨x.next (lt_of_dec h) h1 h2, x.next_lt (lt_of_dec h) h1 h2, rfl, ⟨⟨rfl, nofun⟩, ⟨x.next_i hs (lt_of_dec h) h1 h2, nofun⟩, trivial⟩, trivial⟩⟩⟩⟩⟩⟩⟩⟩, fun h => (h trivial).elim⟩⟩, fun h => ⟨(), x.done hne hz (ge_of_dec h), nofun⟩⟩⟩⟩⟩⟩⟩⟩⟩⟩⟩⟩⟩, fun h => (h trivial).elim⟩⟩
theorem ic_empty (s : ByteArray) (he : s.size = 0) : Det Tryd.prog 30 [.string s] (.bool false) :=
  det_of_vc Tryd.mixed good_pontageref4_IsCanonical (O := [.reg [(4, .no), (5, .no), (6, .no), (7, .no), (11, .no), (12, .yes)], .yes]) fun _ => ⟨gft (len_z he), ⟨gft (len_z he), ⟨gft (len_z he), ⟨gft (len_z he), ⟨gft (len_z he), ⟨(len_z he), ⟨rfl, ⟨(), rfl, nofun⟩⟩⟩⟩⟩⟩⟩⟩
theorem ic_zero (s : ByteArray) (hne : s.size ≠ 0) (h0 : byteAt s 0 = 48) (h1 : 1 < s.size) : Det Tryd.prog 30 [.string s] (.bool false) :=
  det_of_vc Tryd.mixed good_pontageref4_IsCanonical (O := [.reg [(4, .yes), (5, .yes), (6, .yes), (7, .yes), (8, .yes), (9, .yes), (10, .yes), (11, .yes), (12, .no)], .yes]) fun _ => ⟨gff (len_nz hne), ⟨gff (len_nz hne), ⟨gff (len_nz hne), ⟨gff (len_nz hne), ⟨gtt (gt_dec h1), ⟨⟨gtt (gt_dec h1), ix_ok (Nat.pos_of_ne_zero hne)⟩, ⟨gtt (gt_dec h1), ⟨⟨gff (len_nz hne), (gt_dec h1)⟩, ⟨(len_nz hne), ⟨(decide_eq_true h0), ⟨(), rfl, nofun⟩⟩⟩⟩⟩⟩⟩⟩⟩⟩⟩
theorem ic_any (s : ByteArray) (hs : s.size < 4611686018427387904) : Det Tryd.prog 30 [.string s] (.bool (canon (bs s))) := by
  by_cases he : s.size = 0
  · have := ic_empty s he
    rw [canon_e he]
    exact this
  · by_cases hz : byteAt s 0 = 48 ∧ 1 < s.size
    · rw [canon_z hz]
      exact ic_zero s he hz.1 hz.2
    · exact ic_loop s hs he hz
theorem fb_pos {n : Nat} (xn : BigX n) (hn : n < B256) (h0 : n ≠ 0) (A : Facts) (hx : Sub xn.L A) : Gives Tryd.prog 24 [xn.v] A (Unit) (fun _ => .string (dec n)) (fun _ => []) :=
  gives_of_vcF Tryd.mixed good_pontageref4_FormatBig (args := [(xn.v, xn.L)]) (B := []) (O := [.no, .reg [(0, big 10)], .inv (FbX n) (fun x : FbX n => ⟨35, [(0, .v x.x.v x.x.L), (3, .v (.string ⟨x.s.toArray⟩) []), (4, .v x.ten.v x.ten.L)], [], 0⟩) (fun x => x.b) (fun x => [.both [.alt [(x.b % 10 = 0, [(2, big2 (x.b / 10) (x.b % 10))], [.no]), (True, [(2, bigXY (x.b / 10) (x.b % 10))], [.yes, .opt 9 [(2, .ld (.int .i64 ((x.b % 10 : Nat) : Int)))]])]] []])]) (.app (.nil _) (.app (hx) (.nil _))) (⟨(nd_nz h0), ⟨c_from64 10 (by omega) _, fun y => ⟨⟨⟨n, xn, y, [], Nat.le_refl _, fun h => absurd h h0, fun _ => by simp⟩, rfl, ⟨⟨rfl, fun _ h => h⟩, ⟨rfl, nofun⟩, ⟨rfl, fun _ h => h⟩, trivial⟩, trivial⟩, fun x => ⟨fun h => ⟨fun hz => ⟨c_div x.x x.ten (nd_B (Nat.lt_of_le_of_lt x.hb hn)) nd_ten (by omega) _ (by intro q h; simp [h]) (by intro q h; simp [h]), fun u => ⟨(nd_dec0 hz), ⟨cut_ok (d := 0) (by omega), ⟨cut_sum (d := 0) (by omega) x hn, ⟨x.next (nd_gt h) u.1, x.next_lt (nd_gt h) u.1, rfl, ⟨⟨rfl, by intro q h; exact List.mem_append.2 (.inl (List.mem_append.2 (.inl h)))⟩, ⟨x.zero hz, nofun⟩, ⟨rfl, fun _ h => h⟩, trivial⟩, trivial⟩⟩⟩⟩⟩, fun hz => ⟨fun _ => ⟨c_divY x.x x.ten (nd_B (Nat.lt_of_le_of_lt x.hb hn)) nd_ten (by omega) (Nat.pos_of_ne_zero hz) _ (by intro q h; simp [h]) (by intro q h; simp [h]), fun u => ⟨(nd_dec (Nat.pos_of_ne_zero hz)), ⟨⟨Int.le_refl _, by have := ndY_pos (Nat.pos_of_ne_zero hz); omega⟩, ⟨y_load u.2 (Nat.pos_of_ne_zero hz) (by omega) (by intro q h; simp [h]), ⟨cut_ok (Nat.mod_lt _ (by omega)), ⟨cut_sum (Nat.mod_lt _ (by omega)) x hn, ⟨x.next (nd_gt h) u.1, x.next_lt (nd_gt h) u.1, rfl, ⟨⟨rfl, by intro q h; exact List.mem_append.2 (.inl (List.mem_append.2 (.inl h)))⟩, ⟨cut_val (Nat.mod_lt _ (by omega)) x.s, nofun⟩, ⟨rfl, fun _ h => h⟩, trivial⟩, trivial⟩⟩⟩⟩⟩⟩⟩, fun h => (h trivial).elim⟩⟩, fun h => ⟨(), x.fin (nd_le0 h), nofun⟩⟩⟩⟩⟩)
theorem fb_zero (xn : BigX 0) (A : Facts) (hx : Sub xn.L A) : Gives Tryd.prog 24 [xn.v] A (Unit) (fun _ => .string (dec 0)) (fun _ => []) :=
  gives_of_vcF Tryd.mixed good_pontageref4_FormatBig (args := [(xn.v, xn.L)]) (B := []) (O := [.yes]) (.app (.nil _) (.app (hx) (.nil _))) (⟨rfl, ⟨(), dec0, nofun⟩⟩)
theorem c_fb {n : Nat} (xn : BigX n) (hn : n < B256) (A : Facts) (hx : Sub xn.L A) : Gives Tryd.prog 24 [xn.v] A Unit (fun _ => .string (dec n)) (fun _ => []) := by
  by_cases h0 : n = 0
  · subst h0; exact fb_zero xn A hx
  · exact fb_pos xn hn h0 A hx
theorem rformat_any (n : Nat) (hn : n < B256) : Det Tryd.prog 9 [U n] (.string (dec n)) :=
  det_of_vc Tryd.mixed good_pontageref4_Format (O := [.reg [(1, big n), (2, det (.string (dec n)))]]) fun _ => ⟨c_from n hn _, fun y => ⟨c_fb y hn _ (by intro q h; simp [h]), fun _ => ⟨(), rfl, nofun⟩⟩⟩
theorem rp_bad (s : ByteArray) (hs : s.size < 4611686018427387904) (hc : canon (bs s) = false) : Det Tryd.prog 15 [.string s] (.tuple #[U (parN s), .int .i64 (parE s)]) :=
  det_of_vc Tryd.mixed good_pontageref4_Parse (O := [.reg [(1, det (.bool (canon (bs s))))], .yes]) fun _ => ⟨ic_any s hs _, fun _ => ⟨(nf hc), ⟨(), par_bad hc, nofun⟩⟩⟩
theorem rp_long (s : ByteArray) (hs : s.size < 4611686018427387904) (hc : canon (bs s) = true) (h78 : 78 < s.size) : Det Tryd.prog 15 [.string s] (.tuple #[U (parN s), .int .i64 (parE s)]) :=
  det_of_vc Tryd.mixed good_pontageref4_Parse (O := [.reg [(1, det (.bool (canon (bs s))))], .no, .yes]) fun _ => ⟨ic_any s hs _, fun _ => ⟨(nt hc), ⟨(gt78 h78), ⟨(), par_over hc (canon_big hc h78), nofun⟩⟩⟩⟩
theorem rp_loop (s : ByteArray) (hs : s.size < 4611686018427387904) (hc : canon (bs s) = true) (h78 : s.size ≤ 78) : Det Tryd.prog 15 [.string s] (.tuple #[U (parN s), .int .i64 (parE s)]) :=
  det_of_vc Tryd.mixed good_pontageref4_Parse (O := [.reg [(1, det (.bool (canon (bs s))))], .no, .no, .inv (RpX s) (fun x : RpX s => ⟨34, [(0, .v (.string s) []), (2, .p 0 0), (4, .v x.x.v x.x.L), (5, .v (.int .i64 x.i) [])], [(0, ⟨24, [.int .u64 0, .int .u64 0, .int .u64 0, .int .u64 0], []⟩)], 10⟩) (fun x => s.size - x.i) (fun x => [.both [.reg [(1, big 10), (2, big (x.v * 10)), (8, big x.d), (9, big (x.v * 10 + x.d))]] [.reg [(1, det (.tuple #[U (chkR x.v), .int .i64 (chkE x.v)]))]]])]) fun _ => ⟨ic_any s hs _, fun _ => ⟨(nt hc), ⟨(le78 h78), ⟨⟨RpX.first s, rfl, ⟨⟨rfl, nofun⟩, ⟨rfl, rfl, rfl⟩, ⟨nil_v s, nofun⟩, ⟨rfl, nofun⟩, trivial⟩, ⟨rfl, rfl, nofun⟩, trivial⟩, fun x => ⟨fun h => ⟨c_from64 10 (by omega) _, fun y => ⟨c_mul x.x y (x.nd_v hc h78) (Nat.le_trans nd_ten (by omega)) _ (by intro q h; simp [h]) (by intro q h; simp [h]), fun z => ⟨ix_ok (lt_of_dec h), ⟨x.c_d hc (lt_of_dec h) _, fun t => ⟨c_add z t (x.nd_v10 hc h78) (x.nd_d hc (lt_of_dec h)) _ (by intro q h; simp [h]) (by intro q h; simp [h]), fun u => ⟨x.next (lt_of_dec h) u, x.next_lt (lt_of_dec h) u, rfl, ⟨⟨rfl, nofun⟩, ⟨rfl, rfl, rfl⟩, ⟨rfl, fun _ h => h⟩, ⟨x.next_i h78 (lt_of_dec h) u, nofun⟩, trivial⟩, ⟨rfl, rfl, nofun⟩, trivial⟩⟩⟩⟩⟩⟩, fun h => ⟨c_checked x.x _ (by intro q h; simp [h]), fun _ => ⟨(), x.done hc (ge_of_dec h), nofun⟩⟩⟩⟩⟩⟩⟩
theorem rparse_any (s : ByteArray) (hs : s.size < 4611686018427387904) : Det Tryd.prog 15 [.string s] (.tuple #[U (parN s), .int .i64 (parE s)]) := by
  cases hc : canon (bs s) with
  | false => exact rp_bad s hs hc
  | true =>
    by_cases h : s.size ≤ 78
    · exact rp_loop s hs hc h
    · exact rp_long s hs hc (by omega)
theorem rparse_same (s : ByteArray) (hs : s.size < 4611686018427387904) (h : negS s = false) : Det Tryd.prog 15 [.string s] (.tuple #[U (parN (tailS s)), .int .i64 (parE (tailS s))]) := by
  rw [tail_no h]; exact rparse_any s hs
theorem rparse_cut (s : ByteArray) (hs : s.size < 4611686018427387904) (h : negS s = true) : Det Tryd.prog 15 [.string (s.extract (1 : Int).toNat (s.size : Int).toNat)] (.tuple #[U (parN (tailS s)), .int .i64 (parE (tailS s))]) := by
  rw [tail_yes h]; exact rparse_any _ (tail_lt hs)
theorem rfi_no (n : Nat) (hn : n < B256) (hv : n = 0) : Det Tryd.prog 11 [Ic true n] (.string (decI true n)) :=
  det_of_vc Tryd.mixed good_pontageref4_FormatInt (O := [.reg [(3, .yes), (4, .yes), (5, det (.bool (decide (n = 0)))), (6, .yes)], .yes]) fun _ => ⟨gtt rfl, ⟨gtt rfl, ⟨⟨gtt rfl, d_zero n hn _⟩, fun _ => ⟨rfl, ⟨(decide_eq_true hv), ⟨(), decI_no (val_z hv), nofun⟩⟩⟩⟩⟩⟩
theorem rfi_neg (n : Nat) (hn : n < B256) (hv : n ≠ 0) : Det Tryd.prog 11 [Ic true n] (.string (decI true n)) :=
  det_of_vc Tryd.mixed good_pontageref4_FormatInt (O := [.reg [(3, .yes), (4, .yes), (5, det (.bool (decide (n = 0)))), (6, .yes)], .no, .yes, .reg [(2, det (.string (dec n)))]]) fun _ => ⟨gtt rfl, ⟨gtt rfl, ⟨⟨gtt rfl, d_zero n hn _⟩, fun _ => ⟨rfl, ⟨(decide_eq_false hv), ⟨rfl, ⟨rformat_any n hn _, fun _ => ⟨sum_dec1 hn, ⟨(), decI_neg (val_nz hv), nofun⟩⟩⟩⟩⟩⟩⟩⟩⟩
theorem rfi_pos (n : Nat) (hn : n < B256) : Det Tryd.prog 11 [Ic false n] (.string (decI false n)) :=
  det_of_vc Tryd.mixed good_pontageref4_FormatInt (O := [.reg [(3, .no), (4, .no), (5, .no), (6, .no)], .no, .no, .reg [(2, det (.string (dec n)))]]) fun _ => ⟨gtf rfl, ⟨gtf rfl, ⟨gtf rfl, ⟨rfl, ⟨rfl, ⟨rfl, ⟨rformat_any n hn _, fun _ => ⟨(), decI_pos n, nofun⟩⟩⟩⟩⟩⟩⟩⟩
theorem rformatInt_any (s : Bool) (n : Nat) (hn : n < B256) : Det Tryd.prog 11 [Ic s n] (.string (decI s n)) := by
  cases s with
  | false => exact rfi_pos n hn
  | true =>
    by_cases h : n = 0
    · exact rfi_no n hn h
    · exact rfi_neg n hn h
theorem rpi_err_e (s : ByteArray) (hs : s.size < 4611686018427387904) (hz : s.size = 0) (he : parE (tailS s) ≠ 0) : Det Tryd.prog 17 [.string s] (.tuple #[Ic (piS s) (piN s), .int .i64 (piE s)]) :=
  det_of_vc Tryd.mixed good_pontageref4_ParseInt (O := [.reg [(4, .no), (5, .no), (6, .no), (7, .no)], .no, .reg [(1, det (.tuple #[U (parN (tailS s)), .int .i64 (parE (tailS s))]))], .yes]) fun _ => ⟨gtf (len_np hz), ⟨gtf (len_np hz), ⟨gtf (len_np hz), ⟨(len_np hz), ⟨rfl, ⟨rparse_same s hs (neg_empty hz) _, fun _ => ⟨(bne_t he), ⟨(), pi_err_fin he, nofun⟩⟩⟩⟩⟩⟩⟩⟩
theorem rpi_pos_e (s : ByteArray) (hs : s.size < 4611686018427387904) (hz : s.size = 0) (he : parE (tailS s) = 0) : Det Tryd.prog 17 [.string s] (.tuple #[Ic (piS s) (piN s), .int .i64 (piE s)]) :=
  det_of_vc Tryd.mixed good_pontageref4_ParseInt (O := [.reg [(4, .no), (5, .no), (6, .no), (7, .no)], .no, .reg [(1, det (.tuple #[U (parN (tailS s)), .int .i64 (parE (tailS s))]))], .no, .reg [(2, .no), (3, .no), (4, .no)], .no]) fun _ => ⟨gtf (len_np hz), ⟨gtf (len_np hz), ⟨gtf (len_np hz), ⟨(len_np hz), ⟨rfl, ⟨rparse_same s hs (neg_empty hz) _, fun _ => ⟨(bne_f he), ⟨gtf rfl, ⟨gtf rfl, ⟨rfl, ⟨rfl, ⟨(), rpi_ok (neg_empty hz).symm he (.inl (neg_empty hz)), nofun⟩⟩⟩⟩⟩⟩⟩⟩⟩⟩⟩⟩
theorem rpi_err_f (s : ByteArray) (hs : s.size < 4611686018427387904) (hz : s.size ≠ 0) (hg : negS s = false) (he : parE (tailS s) ≠ 0) : Det Tryd.prog 17 [.string s] (.tuple #[Ic (piS s) (piN s), .int .i64 (piE s)]) :=
  det_of_vc Tryd.mixed good_pontageref4_ParseInt (O := [.reg [(4, .yes), (5, .yes), (6, .yes), (7, .yes)], .no, .reg [(1, det (.tuple #[U (parN (tailS s)), .int .i64 (parE (tailS s))]))], .yes]) fun _ => ⟨gtt (len_p hz), ⟨⟨gtt (len_p hz), ix_ok (Nat.pos_of_ne_zero hz)⟩, ⟨gtt (len_p hz), ⟨(len_p hz), ⟨((neg_byte hz).trans hg), ⟨rparse_same s hs hg _, fun _ => ⟨(bne_t he), ⟨(), pi_err_fin he, nofun⟩⟩⟩⟩⟩⟩⟩⟩
theorem rpi_pos_f (s : ByteArray) (hs : s.size < 4611686018427387904) (hz : s.size ≠ 0) (hg : negS s = false) (he : parE (tailS s) = 0) : Det Tryd.prog 17 [.string s] (.tuple #[Ic (piS s) (piN s), .int .i64 (piE s)]) :=
  det_of_vc Tryd.mixed good_pontageref4_ParseInt (O := [.reg [(4, .yes), (5, .yes), (6, .yes), (7, .yes)], .no, .reg [(1, det (.tuple #[U (parN (tailS s)), .int .i64 (parE (tailS s))]))], .no, .reg [(2, .no), (3, .no), (4, .no)], .no]) fun _ => ⟨gtt (len_p hz), ⟨⟨gtt (len_p hz), ix_ok (Nat.pos_of_ne_zero hz)⟩, ⟨gtt (len_p hz), ⟨(len_p hz), ⟨((neg_byte hz).trans hg), ⟨rparse_same s hs hg _, fun _ => ⟨(bne_f he), ⟨gtf ((neg_byte hz).trans hg), ⟨gtf ((neg_byte hz).trans hg), ⟨((neg_byte hz).trans hg), ⟨rfl, ⟨(), rpi_ok (neg_byte hz) he (.inl hg), nofun⟩⟩⟩⟩⟩⟩⟩⟩⟩⟩⟩⟩
theorem rpi_err_t (s : ByteArray) (hs : s.size < 4611686018427387904) (hz : s.size ≠ 0) (hg : negS s = true) (he : parE (tailS s) ≠ 0) : Det Tryd.prog 17 [.string s] (.tuple #[Ic (piS s) (piN s), .int .i64 (piE s)]) :=
  det_of_vc Tryd.mixed good_pontageref4_ParseInt (O := [.reg [(4, .yes), (5, .yes), (6, .yes), (7, .yes)], .yes, .reg [(1, det (.tuple #[U (parN (tailS s)), .int .i64 (parE (tailS s))]))], .yes]) fun _ => ⟨gtt (len_p hz), ⟨⟨gtt (len_p hz), ix_ok (Nat.pos_of_ne_zero hz)⟩, ⟨gtt (len_p hz), ⟨(len_p hz), ⟨((neg_byte hz).trans hg), ⟨slice1 hg, ⟨rparse_cut s hs hg _, fun _ => ⟨(bne_t he), ⟨(), pi_err_fin he, nofun⟩⟩⟩⟩⟩⟩⟩⟩⟩
theorem rpi_zero (s : ByteArray) (hs : s.size < 4611686018427387904) (hz : s.size ≠ 0) (hg : negS s = true) (he : parE (tailS s) = 0) (h0 : parN (tailS s) = 0) : Det Tryd.prog 17 [.string s] (.tuple #[Ic (piS s) (piN s), .int .i64 (piE s)]) :=
  det_of_vc Tryd.mixed good_pontageref4_ParseInt (O := [.reg [(4, .yes), (5, .yes), (6, .yes), (7, .yes)], .yes, .reg [(1, det (.tuple #[U (parN (tailS s)), .int .i64 (parE (tailS s))]))], .no, .reg [(2, .yes), (3, det (.bool (decide (parN (tailS s) = 0)))), (4, .yes)], .yes]) fun _ => ⟨gtt (len_p hz), ⟨⟨gtt (len_p hz), ix_ok (Nat.pos_of_ne_zero hz)⟩, ⟨gtt (len_p hz), ⟨(len_p hz), ⟨((neg_byte hz).trans hg), ⟨slice1 hg, ⟨rparse_cut s hs hg _, fun _ => ⟨(bne_f he), ⟨gtt ((neg_byte hz).trans hg), ⟨⟨gtt ((neg_byte hz).trans hg), d_zero (parN (tailS s)) (parN_lt _) _⟩, fun _ => ⟨((neg_byte hz).trans hg), ⟨(decide_eq_true h0), ⟨(), pi_zero_fin he hg h0, nofun⟩⟩⟩⟩⟩⟩⟩⟩⟩⟩⟩⟩⟩
theorem rpi_neg (s : ByteArray) (hs : s.size < 4611686018427387904) (hz : s.size ≠ 0) (hg : negS s = true) (he : parE (tailS s) = 0) (h0 : parN (tailS s) ≠ 0) : Det Tryd.prog 17 [.string s] (.tuple #[Ic (piS s) (piN s), .int .i64 (piE s)]) :=
  det_of_vc Tryd.mixed good_pontageref4_ParseInt (O := [.reg [(4, .yes), (5, .yes), (6, .yes), (7, .yes)], .yes, .reg [(1, det (.tuple #[U (parN (tailS s)), .int .i64 (parE (tailS s))]))], .no, .reg [(2, .yes), (3, det (.bool (decide (parN (tailS s) = 0)))), (4, .yes)], .no]) fun _ => ⟨gtt (len_p hz), ⟨⟨gtt (len_p hz), ix_ok (Nat.pos_of_ne_zero hz)⟩, ⟨gtt (len_p hz), ⟨(len_p hz), ⟨((neg_byte hz).trans hg), ⟨slice1 hg, ⟨rparse_cut s hs hg _, fun _ => ⟨(bne_f he), ⟨gtt ((neg_byte hz).trans hg), ⟨⟨gtt ((neg_byte hz).trans hg), d_zero (parN (tailS s)) (parN_lt _) _⟩, fun _ => ⟨((neg_byte hz).trans hg), ⟨(decide_eq_false h0), ⟨(), rpi_ok (neg_byte hz) he (.inr h0), nofun⟩⟩⟩⟩⟩⟩⟩⟩⟩⟩⟩⟩⟩
theorem rparseInt_any (s : ByteArray) (hs : s.size < 4611686018427387904) : Det Tryd.prog 17 [.string s] (.tuple #[Ic (piS s) (piN s), .int .i64 (piE s)]) := by
  by_cases he : parE (tailS s) = 0
  · by_cases hz : s.size = 0
    · exact rpi_pos_e s hs hz he
    · cases hg : negS s with
      | false => exact rpi_pos_f s hs hz hg he
      | true =>
        by_cases h0 : parN (tailS s) = 0
        · exact rpi_zero s hs hz hg he h0
        · exact rpi_neg s hs hz hg he h0
  · by_cases hz : s.size = 0
    · exact rpi_err_e s hs hz he
    · cases hg : negS s with
      | false => exact rpi_err_f s hs hz hg he
      | true => exact rpi_err_t s hs hz hg he
end Go.Proofs.YtkionnggdncncaaDoor

