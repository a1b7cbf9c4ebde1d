/- Contracts of package decimal over this translation: Parse, Format, ParseInt, FormatInt: numbers and their decimal numerals. Condition of Format and FormatInt: the library's table of powers of ten holds the powers of ten. -/
import Derived.Test.YtkionnggdncncaaDoorD4n
namespace Go.Proofs.YtkionnggdncncaaDoor
open Go.RowKit Sx
set_option maxRecDepth 100000

theorem ad_ok (a g : Nat) (ha : a * 10 < B256) (hg : g < 10) : Det Tryd.prog 29 [U a, .int .u8 g] (.tuple #[U (chkR (a * 10 + g)), .int .i64 (chkE (a * 10 + g))]) :=
  det_of_vc Tryd.mixed good_decimal_appendDigit (O := [.reg [(1, det (U 10)), (2, det (.tuple #[U (mulR a 10), .int .i64 (mulE a 10)]))], .no, .reg [(3, det (U g)), (4, det (.tuple #[U (addR (mulR a 10) g), .int .i64 (addE (mulR a 10) g)]))]]) fun _ => ⟨d_u64 10 (by omega) _, fun _ => ⟨d_mul a 10 (ten_lt ha) ten_B _, fun _ => ⟨(mulE_0 ha), ⟨d_u64w g hg _, fun _ => ⟨d_add _ g (mulR_lt _ _) (dig_B hg) _, fun _ => ⟨(), ad_fin ha, nofun⟩⟩⟩⟩⟩⟩
theorem ad_over (a g : Nat) (hB : a < B256) (ha : ¬ a * 10 < B256) : Det Tryd.prog 29 [U a, .int .u8 g] (.tuple #[U (chkR (a * 10 + g)), .int .i64 (chkE (a * 10 + g))]) :=
  det_of_vc Tryd.mixed good_decimal_appendDigit (O := [.reg [(1, det (U 10)), (2, det (.tuple #[U (mulR a 10), .int .i64 (mulE a 10)]))], .yes]) fun _ => ⟨d_u64 10 (by omega) _, fun _ => ⟨d_mul a 10 hB ten_B _, fun _ => ⟨(mulE_4 ha), ⟨(), ad_fin4 ha, nofun⟩⟩⟩⟩
theorem ad_any (a g : Nat) (hB : a < B256) (hg : g < 10) : Det Tryd.prog 29 [U a, .int .u8 g] (.tuple #[U (chkR (a * 10 + g)), .int .i64 (chkE (a * 10 + g))]) := by
  by_cases h : a * 10 < B256
  · exact ad_ok a g h hg
  · exact ad_over a g hB h
theorem PsX.app {s : ByteArray} (x : PsX s) (hc : canon (bs s) = true) (h : x.i < s.size) : Det Tryd.prog 29 [U x.v, .int .u8 (IntKind.u8.wrap (byteAt s x.i - 48))] (.tuple #[U (chkR (x.v * 10 + dgt ((bs s)[x.i]'h))), .int .i64 (chkE (x.v * 10 + dgt ((bs s)[x.i]'h)))]) := by
  rw [byte_dig hc h]
  exact ad_any _ _ x.hv (dgt_lt (canon_dig hc h))

theorem PsX.rv_ok {s : ByteArray} (x : PsX s) (hc : canon (bs s) = true) (h : x.i < s.size) : Det Tryd.prog 29 [U x.v, .int .u8 (IntKind.u8.wrap (byteAt s x.i - 48))] x.rv := by
  unfold PsX.rv PsX.nv
  rw [getD_at h]
  exact x.app hc h
theorem ps_loop (s : ByteArray) (hs : s.size < 4611686018427387904) (hc : canon (bs s) = true) : Det Tryd.prog 14 [.string s] (.tuple #[U (parN s), .int .i64 (parE s)]) :=
  det_of_vc Tryd.mixed good_decimal_Parse (O := [.reg [(1, det (.bool (canon (bs s))))], .no, .inv (PsX s) (fun x : PsX s => ⟨33, [(0, .v (.string s) []), (2, .p 0 0), (4, .p 5 0), (13, .v (.int .i64 s.size) []), (14, .v (.int .i64 x.i) [])], [(0, ⟨24, [.int .u64 0, .int .u64 0, .int .u64 0, .int .u64 0], []⟩), (5, ⟨24, cU x.v, []⟩)], 9⟩) (fun x => s.size - x.i) (fun x => [.both [.reg [(5, .call Unit () (fun _ => x.rv) (fun _ => []))], .both [] []] []])]) fun _ => ⟨wf_any s hs _, fun _ => ⟨(nt hc), ⟨⟨PsX.first s, rfl, ⟨⟨rfl, nofun⟩, ⟨rfl, rfl, rfl⟩, ⟨rfl, rfl, rfl⟩, ⟨rfl, nofun⟩, ⟨rfl, nofun⟩, trivial⟩, ⟨⟨rfl, rfl, nofun⟩, ⟨rfl, cU0, nofun⟩, trivial⟩⟩, fun x => ⟨fun h => ⟨ix_ok (lt_of_dec h), ⟨x.rv_ok hc (lt_of_dec h) _, fun _ => ⟨fun h2 => ⟨(), x.over hc (lt_of_dec h) h2, nofun⟩, fun h2 => ⟨x.next (lt_of_dec h) h2, x.next_lt (lt_of_dec h) h2, rfl, ⟨⟨rfl, nofun⟩, ⟨rfl, rfl, rfl⟩, ⟨rfl, rfl, rfl⟩, ⟨rfl, nofun⟩, ⟨x.next_i hs (lt_of_dec h) h2, nofun⟩, trivial⟩, ⟨⟨rfl, rfl, nofun⟩, ⟨rfl, x.next_v (lt_of_dec h) h2, nofun⟩, trivial⟩⟩⟩⟩⟩, fun h => ⟨(), x.done hc (ge_of_dec h), nofun⟩⟩⟩⟩⟩
theorem ps_bad (s : ByteArray) (hs : s.size < 4611686018427387904) (hc : canon (bs s) = false) : Det Tryd.prog 14 [.string s] (.tuple #[U (parN s), .int .i64 (parE s)]) :=
  det_of_vc Tryd.mixed good_decimal_Parse (O := [.reg [(1, det (.bool (canon (bs s))))], .yes]) fun _ => ⟨wf_any s hs _, fun _ => ⟨(nf hc), ⟨(), par_bad hc, nofun⟩⟩⟩
theorem parse_any (s : ByteArray) (hs : s.size < 4611686018427387904) : Det Tryd.prog 14 [.string s] (.tuple #[U (parN s), .int .i64 (parE s)]) := by
  cases hc : canon (bs s) with
  | true => exact ps_loop s hs hc
  | false => exact ps_bad s hs hc
theorem e_group (k : Nat) (hk : k < 10000000000000000000) : DetE Tab 22 [.int .u64 k] (.string ⟨(dgs 19 k).toArray⟩) := fun A hA =>
  gives_of_vcF Tryd.mixed good_decimal_formatGroup (args := bare [.int .u64 k]) (B := A) (O := [.reg [(1, det (.string (dec k)))], .reg [(3, det (.string ⟨(List.replicate (19 - Lib.nDigits k) 48).toArray⟩))]]) (.app (.refl _) (.none (bare_facts _))) (⟨e_fmt k (by omega) _ (hA.app _), fun _ => ⟨d_rep19 k hk _, fun _ => ⟨sum_le (rep_20 k) (dec_20 (show k < 18446744073709551616 by omega)), ⟨(), group_fin hk, nofun⟩⟩⟩⟩)
theorem e_group0 (k : Nat) (hk : k < 10000000000000000000) : DetE Tab 22 [.int .u64 (limb k 0)] (.string ⟨(dgs 19 k).toArray⟩) := by
  rw [limb_self (by omega)]; exact e_group k hk
theorem e_fmt0 (k : Nat) (hk : k < 18446744073709551616) : DetE Tab 23 [.int .u64 (limb k 0), .int .i64 10] (.string (dec k)) := by
  rw [limb_self hk]; exact e_fmt k hk
theorem format_any (n : Nat) (hn : n < B256) : DetE Tab 8 [U n] (.string (dec n)) := fun A hA =>
  gives_of_vcF Tryd.mixed good_decimal_Format (args := bare [U n]) (B := A) (O := [.inv (FmX n) (fun x : FmX n => ⟨30, [(3, .p 3 0), (4, .v (.string ⟨x.g.toArray⟩) [])], [(3, ⟨24, cU x.r, []⟩)], 6⟩) (fun x => x.r) (fun x => [.reg [(1, det (.int .i64 (blen x.r)))], .both [.reg [(1, det (U 10000000000000000000)), (2, det (.tuple #[U (x.r / 10000000000000000000), U (x.r % 10000000000000000000), .int .i64 0]))], .reg [(2, det (.string ⟨(dgs 19 (x.r % 10000000000000000000)).toArray⟩))]] [.reg [(2, det (.string (dec x.r)))]]])]) (.app (.refl _) (.none (bare_facts _))) (⟨⟨⟨n, [], Nat.le_refl _, by simp⟩, rfl, ⟨⟨rfl, rfl, rfl⟩, ⟨rfl, nofun⟩, trivial⟩, ⟨rfl, rfl, nofun⟩, trivial⟩, fun x => ⟨d_blen x.r (x.lt hn) _, fun _ => ⟨fun h => ⟨d_u64 10000000000000000000 (by omega) _, fun _ => ⟨d_dm19 x.r (x.lt hn) _, fun _ => ⟨by decide, ⟨e_group0 (x.r % 10000000000000000000) (Nat.mod_lt _ (by omega)) _ (hA.app _), fun _ => ⟨x.sum hn, ⟨x.next (big_of_dec h), x.next_lt (big_of_dec h), rfl, ⟨⟨rfl, rfl, rfl⟩, ⟨x.next_g (big_of_dec h), nofun⟩, trivial⟩, ⟨rfl, rfl, nofun⟩, trivial⟩⟩⟩⟩⟩⟩, fun h => ⟨by decide, ⟨e_fmt0 x.r (small_of_dec h) _ (hA.app _), fun _ => ⟨x.sum2 hn (small_of_dec h), ⟨(), x.fin, nofun⟩⟩⟩⟩⟩⟩⟩)
theorem fi_no (s : Bool) (n : Nat) (hn : n < B256) (hv : val s n = false) : DetE Tab 10 [Ic s n] (.string (decI s n)) := fun A _ =>
  gives_of_vcF Tryd.mixed good_decimal_FormatInt (args := bare [Ic s n]) (B := A) (O := [.reg [(1, det (.bool (val s n)))], .yes]) (.app (.refl _) (.none (bare_facts _))) (⟨valid_any s n hn _, fun _ => ⟨(nf hv), ⟨(), decI_no hv, nofun⟩⟩⟩)
theorem fi_neg (n : Nat) (hn : n < B256) (hv : val true n = true) : DetE Tab 10 [Ic true n] (.string (decI true n)) := fun A hA =>
  gives_of_vcF Tryd.mixed good_decimal_FormatInt (args := bare [Ic true n]) (B := A) (O := [.reg [(1, det (.bool (val true n)))], .no, .yes, .reg [(2, det (.string (dec n)))]]) (.app (.refl _) (.none (bare_facts _))) (⟨valid_any true n hn _, fun _ => ⟨(nt hv), ⟨rfl, ⟨format_any n hn _ (hA.app _), fun _ => ⟨sum_dec1 hn, ⟨(), decI_neg hv, nofun⟩⟩⟩⟩⟩⟩)
theorem fi_pos (n : Nat) (hn : n < B256) : DetE Tab 10 [Ic false n] (.string (decI false n)) := fun A hA =>
  gives_of_vcF Tryd.mixed good_decimal_FormatInt (args := bare [Ic false n]) (B := A) (O := [.reg [(1, det (.bool (val false n)))], .no, .no, .reg [(2, det (.string (dec n)))]]) (.app (.refl _) (.none (bare_facts _))) (⟨valid_any false n hn _, fun _ => ⟨rfl, ⟨rfl, ⟨format_any n hn _ (hA.app _), fun _ => ⟨(), decI_pos n, nofun⟩⟩⟩⟩⟩)
theorem formatInt_any (s : Bool) (n : Nat) (hn : n < B256) : DetE Tab 10 [Ic s n] (.string (decI s n)) := by
  cases hv : val s n with
  | false => exact fi_no s n hn hv
  | true =>
    cases s with
    | false => exact fi_pos n hn
    | true => exact fi_neg n hn hv
theorem d_hasp (s : ByteArray) : Det Tryd.prog 66 [.string s, .string ⟨#[45]⟩] (.bool (negS s)) := .of_calls ⟨_, Tryd.func66, by kernel_rfl, rfl⟩ fun w => (Any.stringslite_HasPrefix (ρ := renR) lays206 s ⟨#[45]⟩ w).mono fun e w' ⟨h1, h2⟩ => ⟨h1, h2 ▸ .refl _ _⟩
theorem cut_no (s : ByteArray) (h : negS s = false) : Det Tryd.prog 48 [.string s, .string ⟨#[45]⟩] (.tuple #[.string (tailS s), .bool (negS s)]) :=
  det_of_vc Tryd.mixed good_stringslite_CutPrefix (O := [.reg [(2, det (.bool (negS s)))], .yes]) fun _ => ⟨d_hasp s _, fun _ => ⟨(nf h), ⟨(), cut_fin h, nofun⟩⟩⟩
theorem cut_yes (s : ByteArray) (h : negS s = true) : Det Tryd.prog 48 [.string s, .string ⟨#[45]⟩] (.tuple #[.string (tailS s), .bool (negS s)]) :=
  det_of_vc Tryd.mixed good_stringslite_CutPrefix (O := [.reg [(2, det (.bool (negS s)))], .no]) fun _ => ⟨d_hasp s _, fun _ => ⟨(nt h), ⟨neg_slice h, ⟨(), cut_fin1 h, nofun⟩⟩⟩⟩
theorem icut_any (s : ByteArray) : Det Tryd.prog 48 [.string s, .string ⟨#[45]⟩] (.tuple #[.string (tailS s), .bool (negS s)]) := by
  cases h : negS s with
  | true => rw [← h]; exact cut_yes s h
  | false => rw [← h]; exact cut_no s h
theorem cut_any (s : ByteArray) : Det Tryd.prog 35 [.string s, .string ⟨#[45]⟩] (.tuple #[.string (tailS s), .bool (negS s)]) :=
  det_of_vc Tryd.mixed good_strings_CutPrefix (O := [.reg [(2, det (.tuple #[.string (tailS s), .bool (negS s)]))]]) fun _ => ⟨icut_any s _, fun _ => ⟨(), rfl, nofun⟩⟩
theorem pi_err (s : ByteArray) (hs : s.size < 4611686018427387904) (he : parE (tailS s) ≠ 0) : Det Tryd.prog 16 [.string s] (.tuple #[Ic (piS s) (piN s), .int .i64 (piE s)]) :=
  det_of_vc Tryd.mixed good_decimal_ParseInt (O := [.reg [(1, det (.tuple #[.string (tailS s), .bool (negS s)]))], .reg [(1, det (.tuple #[U (parN (tailS s)), .int .i64 (parE (tailS s))]))], .yes]) fun _ => ⟨cut_any s _, fun _ => ⟨parse_any (tailS s) (tail_lt hs) _, fun _ => ⟨(bne_t he), ⟨(), pi_err_fin he, nofun⟩⟩⟩⟩
theorem pi_zero (s : ByteArray) (hs : s.size < 4611686018427387904) (he : parE (tailS s) = 0) (hn : negS s = true) (h0 : parN (tailS s) = 0) : Det Tryd.prog 16 [.string s] (.tuple #[Ic (piS s) (piN s), .int .i64 (piE s)]) :=
  det_of_vc Tryd.mixed good_decimal_ParseInt (O := [.reg [(1, det (.tuple #[.string (tailS s), .bool (negS s)]))], .reg [(1, det (.tuple #[U (parN (tailS s)), .int .i64 (parE (tailS s))]))], .no, .reg [(2, .yes), (3, .yes), (4, .yes), (5, .yes)], .yes]) fun _ => ⟨cut_any s _, fun _ => ⟨parse_any (tailS s) (tail_lt hs) _, fun _ => ⟨(bne_f he), ⟨gtt hn, ⟨gtt hn, ⟨⟨gtt hn, eqT_api_Uint256 rfl rfl⟩, ⟨hn, ⟨(isz_t h0), ⟨(), pi_zero_fin he hn h0, nofun⟩⟩⟩⟩⟩⟩⟩⟩⟩
theorem pi_neg (s : ByteArray) (hs : s.size < 4611686018427387904) (he : parE (tailS s) = 0) (hn : negS s = true) (h0 : parN (tailS s) ≠ 0) : Det Tryd.prog 16 [.string s] (.tuple #[Ic (piS s) (piN s), .int .i64 (piE s)]) :=
  det_of_vc Tryd.mixed good_decimal_ParseInt (O := [.reg [(1, det (.tuple #[.string (tailS s), .bool (negS s)]))], .reg [(1, det (.tuple #[U (parN (tailS s)), .int .i64 (parE (tailS s))]))], .no, .reg [(2, .yes), (3, .yes), (4, .yes), (5, .yes)], .no, .reg [(2, det (Ic (negS s && decide (parN (tailS s) ≠ 0)) (parN (tailS s))))]]) fun _ => ⟨cut_any s _, fun _ => ⟨parse_any (tailS s) (tail_lt hs) _, fun _ => ⟨(bne_f he), ⟨gtt hn, ⟨gtt hn, ⟨⟨gtt hn, eqT_api_Uint256 rfl rfl⟩, ⟨hn, ⟨(isz_f (parN_lt _) h0), ⟨new_any (negS s) (parN (tailS s)) (parN_lt _) _, fun _ => ⟨(), pi_ok_fin he (.inr h0), nofun⟩⟩⟩⟩⟩⟩⟩⟩⟩⟩
theorem pi_pos (s : ByteArray) (hs : s.size < 4611686018427387904) (he : parE (tailS s) = 0) (hn : negS s = false) : Det Tryd.prog 16 [.string s] (.tuple #[Ic (piS s) (piN s), .int .i64 (piE s)]) :=
  det_of_vc Tryd.mixed good_decimal_ParseInt (O := [.reg [(1, det (.tuple #[.string (tailS s), .bool (negS s)]))], .reg [(1, det (.tuple #[U (parN (tailS s)), .int .i64 (parE (tailS s))]))], .no, .reg [(2, .no), (3, .no), (4, .no), (5, .no)], .no, .reg [(2, det (Ic (negS s && decide (parN (tailS s) ≠ 0)) (parN (tailS s))))]]) fun _ => ⟨cut_any s _, fun _ => ⟨parse_any (tailS s) (tail_lt hs) _, fun _ => ⟨(bne_f he), ⟨gtf hn, ⟨gtf hn, ⟨gtf hn, ⟨hn, ⟨rfl, ⟨new_any (negS s) (parN (tailS s)) (parN_lt _) _, fun _ => ⟨(), pi_ok_fin he (.inl hn), nofun⟩⟩⟩⟩⟩⟩⟩⟩⟩⟩
theorem parseInt_any (s : ByteArray) (hs : s.size < 4611686018427387904) : Det Tryd.prog 16 [.string s] (.tuple #[Ic (piS s) (piN s), .int .i64 (piE s)]) := by
  by_cases he : parE (tailS s) = 0
  · cases hn : negS s with
    | false => exact pi_pos s hs he hn
    | true =>
      by_cases h0 : parN (tailS s) = 0
      · exact pi_zero s hs he hn h0
      · exact pi_neg s hs he hn h0
  · exact pi_err s hs he
end Go.Proofs.YtkionnggdncncaaDoor

