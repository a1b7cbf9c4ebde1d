/- Walks of package decimal over this translation: whether a string is a decimal numeral. No conditions besides; strconv.FormatUint where the library's table of powers of ten holds the powers of ten. -/
import Derived.Test.YtkionnggdncncaaDoorMx
import Derived.Test.YtkionnggdncncaaDoorFmt
import Derived.Test.YtkionnggdncncaaDoorRep
namespace Go.Proofs.YtkionnggdncncaaDoor
open Go.RowKit Sx
set_option maxRecDepth 100000

/-- What is known ahead of a round of wellFormed's loop: the first i bytes are digits. -/
structure WfX (s : ByteArray) where
  i : Nat
  hi : i ≤ s.size
  ha : ((bs s).take i).all isD = true
theorem byteAt0 {s : ByteArray} {b : UInt8} {r : List UInt8} (e : bs s = b :: r) : byteAt s 0 = (b.toNat : Int) := by
  have h : 0 < s.size := by rw [← bs_len, e]; simp
  rw [byteAt_eq s 0 h]
  simp [e]
theorem isD_iff (s : ByteArray) (i : Nat) (h : i < s.size) : isD ((bs s)[i]'h) = true ↔ ¬ byteAt s i < 48 ∧ ¬ 57 < byteAt s i := by
  rw [byteAt_eq s i h]; simp only [isD, Bool.and_eq_true, decide_eq_true_eq]; omega
def WfX.next {s : ByteArray} (x : WfX s) (h : x.i < s.size) (h1 : ¬ byteAt s x.i < 48) (h2 : decide (byteAt s x.i > 57) = false) : WfX s :=
  ⟨x.i + 1, h, by
    rw [take_succ s x.i h, List.all_append, x.ha]
    simp only [List.all_cons, List.all_nil, Bool.and_true, Bool.true_and]
    exact (isD_iff s x.i h).2 ⟨h1, by simpa using h2⟩⟩
theorem WfX.next_lt {s : ByteArray} (x : WfX s) (h : x.i < s.size) (h1 : ¬ byteAt s x.i < 48) (h2 : decide (byteAt s x.i > 57) = false) : s.size - (x.next h h1 h2).i < s.size - x.i := by
  show s.size - (x.i + 1) < s.size - x.i
  omega
theorem WfX.next_i {s : ByteArray} (x : WfX s) (hs : s.size < 4611686018427387904) (h : x.i < s.size) (h1 : ¬ byteAt s x.i < 48) (h2 : decide (byteAt s x.i > 57) = false) : Value.int .i64 (IntKind.i64.wrap ((x.i : Int) + 1)) = .int .i64 ((x.next h h1 h2).i : Int) := by
  rw [wrap_succ (by omega)]; rfl
theorem canon_bad {s : ByteArray} {i : Nat} (h : i < s.size) (hb : ¬ isD ((bs s)[i]'h) = true) : canon (bs s) = false := by
  cases hc : canon (bs s) with
  | false => rfl
  | true =>
    exfalso
    apply hb
    revert hc
    unfold canon
    split
    · intro hc; cases hc
    · rename_i b r e
      intro hc
      simp only [Bool.and_eq_true] at hc
      have := List.all_eq_true.1 hc.2 ((bs s)[i]'h) (by rw [← e]; exact List.getElem_mem h)
      exact this
theorem WfX.low {s : ByteArray} (x : WfX s) (h : x.i < s.size) (h1 : byteAt s x.i < 48) : Value.bool false = .bool (canon (bs s)) := by
  rw [canon_bad h fun hd => ((isD_iff s x.i h).1 hd).1 h1]
theorem WfX.high {s : ByteArray} (x : WfX s) (h : x.i < s.size) (_ : ¬ byteAt s x.i < 48) (h2 : decide (byteAt s x.i > 57) = true) : Value.bool false = .bool (canon (bs s)) := by
  rw [canon_bad h fun hd => ((isD_iff s x.i h).1 hd).2 (by simpa using h2)]
theorem WfX.done {s : ByteArray} (x : WfX s) (hne : s.size ≠ 0) (hz : ¬ (byteAt s 0 = 48 ∧ 1 < s.size)) (h : s.size ≤ x.i) : Value.bool true = .bool (canon (bs s)) := by
  have ha := x.ha
  have : x.i = s.size := Nat.le_antisymm x.hi h
  rw [this, take_all] at ha
  have hl := bs_len s
  cases hb : bs s with
  | nil => exfalso; apply hne; rw [← hl, hb]; rfl
  | cons b r =>
    rw [hb] at ha hl
    have : canon (b :: r) = true := by
      unfold canon
      simp only [ha, Bool.and_true, Bool.or_eq_true, decide_eq_true_eq, List.isEmpty_iff]
      rw [byteAt0 hb] at hz
      by_cases hb48 : b.toNat = 48
      · right
        cases r with
        | nil => rfl
        | cons c r => exfalso; apply hz; refine ⟨by omega, by rw [← hl]; simp⟩
      · exact .inl hb48
    rw [this]
theorem str_ne {s : ByteArray} (h : s.size ≠ 0) : (s.toList == ByteArray.toList { data := #[] }) = false := by
  rw [seq_eq]; apply decide_eq_false; intro e; apply h; rw [← bs_len, e]; rfl
theorem str_e {s : ByteArray} (h : s.size = 0) : (s.toList == ByteArray.toList { data := #[] }) = true := by
  rw [seq_eq]; apply decide_eq_true
  exact List.eq_nil_of_length_eq_zero ((bs_len s).trans h)
theorem le_dec {s : ByteArray} (hz : ¬ (byteAt s 0 = 48 ∧ 1 < s.size)) (h0 : byteAt s 0 = 48) : decide ((s.size : Int) > 1) = false := by
  apply decide_eq_false; omega
theorem gt_dec {s : ByteArray} (h : 1 < s.size) : decide ((s.size : Int) > 1) = true := by
  apply decide_eq_true; omega
/-- The decimal numeral as a string. -/
abbrev dec (n : Nat) : ByteArray := ⟨(Lib.decDigits n).toArray⟩
theorem good_decimal_Format : Good Tryd.prog 8 Tryd.f8 1 := ⟨Tryd.func8, by kernel_rfl, by kernel_rfl⟩
theorem good_decimal_Parse : Good Tryd.prog 14 Tryd.f14 1 := ⟨Tryd.func14, by kernel_rfl, by kernel_rfl⟩
theorem good_decimal_FormatInt : Good Tryd.prog 10 Tryd.f10 1 := ⟨Tryd.func10, by kernel_rfl, by kernel_rfl⟩
theorem good_decimal_ParseInt : Good Tryd.prog 16 Tryd.f16 1 := ⟨Tryd.func16, by kernel_rfl, by kernel_rfl⟩
theorem good_decimal_formatGroup : Good Tryd.prog 22 Tryd.f22 1 := ⟨Tryd.func22, by kernel_rfl, by kernel_rfl⟩
theorem good_decimal_wellFormed : Good Tryd.prog 28 Tryd.f28 1 := ⟨Tryd.func28, by kernel_rfl, by kernel_rfl⟩
theorem good_decimal_appendDigit : Good Tryd.prog 29 Tryd.f29 2 := ⟨Tryd.func29, by kernel_rfl, by kernel_rfl⟩
theorem good_strconv_FormatUint : Good Tryd.prog 23 Tryd.f23 2 := ⟨Tryd.func23, by kernel_rfl, by kernel_rfl⟩
theorem good_strings_CutPrefix : Good Tryd.prog 35 Tryd.f35 2 := ⟨Tryd.func35, by kernel_rfl, by kernel_rfl⟩
theorem good_stringslite_CutPrefix : Good Tryd.prog 48 Tryd.f48 2 := ⟨Tryd.func48, by kernel_rfl, by kernel_rfl⟩
theorem good_stringslite_HasPrefix : Good Tryd.prog 66 Tryd.f66 2 := ⟨Tryd.func66, by kernel_rfl, by kernel_rfl⟩
theorem e_ifmt (n : Nat) (hn : n < 18446744073709551616) : DetE Tab 41 [.int .u64 n, .int .i64 10] (.string (dec n)) := .of_calls ⟨_, Tryd.func41, by kernel_rfl, rfl⟩ fun w hw => ifmt_any n hn w hw
theorem e_fmt (n : Nat) (hn : n < 18446744073709551616) : DetE Tab 23 [.int .u64 n, .int .i64 10] (.string (dec n)) := fun A hA =>
  gives_of_vcF Tryd.mixed good_strconv_FormatUint (args := bare [.int .u64 n, .int .i64 10]) (B := A) (O := [.reg [(2, det (.string (dec n)))]]) (.app (.refl _) (.none (bare_facts _))) (⟨e_ifmt n hn _ (hA.app _), fun _ => ⟨(), rfl, nofun⟩⟩)
theorem d_rep (s : ByteArray) (c : Nat) (hc : c ≤ 9223372036854775807) (hl : s.size * c ≤ 140737488355328) : Det Tryd.prog 40 [.string s, .int .i64 c] (.string ⟨(Lib.repeatL (bs s) c).toArray⟩) := .of_calls ⟨_, Tryd.func40, by kernel_rfl, rfl⟩ fun w => repeat_any s c w hc hl
theorem wf_loop (s : ByteArray) (hs : s.size < 4611686018427387904) (hne : s.size ≠ 0) (hz : ¬ (byteAt s 0 = 48 ∧ 1 < s.size)) : Det Tryd.prog 28 [.string s] (.bool (canon (bs s))) :=
  det_of_vc Tryd.mixed good_decimal_wellFormed (O := [.alt [(byteAt s 0 = 48, [(3, .yes), (4, .yes), (5, .yes), (6, .yes), (7, .yes), (8, .yes), (9, .yes), (10, .yes), (11, .no)], [.no, .inv (WfX s) (fun x : WfX s => ⟨32, [(0, .v (.string s) []), (17, .v (.int .i64 s.size) []), (18, .v (.int .i64 x.i) [])], [], 0⟩) (fun x => s.size - x.i) (fun x => [.both [.alt [(byteAt s x.i < 48, [(5, .no), (6, .no), (7, .no), (8, .no), (9, .yes)], [.yes]), (True, [(5, .yes), (6, .yes), (7, .yes), (8, .yes), (9, .no)], [.both [] []])]] []])]), (True, [(3, .yes), (4, .yes), (5, .yes), (6, .yes), (7, .no), (8, .no), (9, .no), (10, .els), (11, .no)], [.no, .inv (WfX s) (fun x : WfX s => ⟨32, [(0, .v (.string s) []), (17, .v (.int .i64 s.size) []), (18, .v (.int .i64 x.i) [])], [], 0⟩) (fun x => s.size - x.i) (fun x => [.both [.alt [(byteAt s x.i < 48, [(5, .no), (6, .no), (7, .no), (8, .no), (9, .yes)], [.yes]), (True, [(5, .yes), (6, .yes), (7, .yes), (8, .yes), (9, .no)], [.both [] []])]] []])])]]) fun _ => ⟨fun h0 => ⟨gff (str_ne hne), ⟨⟨gff (str_ne hne), ix_ok (Nat.pos_of_ne_zero hne)⟩, ⟨gff (str_ne hne), ⟨gff (str_ne hne), ⟨gtt (decide_eq_true h0), ⟨gtt (decide_eq_true h0), ⟨gtt (decide_eq_true h0), ⟨⟨gff (str_ne hne), (decide_eq_true h0)⟩, ⟨(str_ne hne), ⟨(le_dec hz h0), ⟨⟨⟨0, Nat.zero_le _, rfl⟩, rfl, ⟨⟨rfl, nofun⟩, ⟨rfl, nofun⟩, ⟨rfl, nofun⟩, trivial⟩, trivial⟩, fun x => ⟨fun h => ⟨fun h1 => ⟨ix_ok (lt_of_dec h), ⟨gft (decide_eq_true h1), ⟨gft (decide_eq_true h1), ⟨gft (decide_eq_true h1), ⟨gft (decide_eq_true h1), ⟨(decide_eq_true h1), ⟨rfl, ⟨(), x.low (lt_of_dec h) h1, nofun⟩⟩⟩⟩⟩⟩⟩⟩, fun h1 => ⟨fun _ => ⟨ix_ok (lt_of_dec h), ⟨gff (decide_eq_false h1), ⟨gff (decide_eq_false h1), ⟨⟨gff (decide_eq_false h1), ix_ok (lt_of_dec h)⟩, ⟨gff (decide_eq_false h1), ⟨(decide_eq_false h1), ⟨fun h2 => ⟨(), x.high (lt_of_dec h) h1 h2, nofun⟩, fun h2 => ⟨x.next (lt_of_dec h) h1 h2, x.next_lt (lt_of_dec h) h1 h2, rfl, ⟨⟨rfl, nofun⟩, ⟨rfl, nofun⟩, ⟨x.next_i hs (lt_of_dec h) h1 h2, nofun⟩, trivial⟩, trivial⟩⟩⟩⟩⟩⟩⟩⟩, fun h => (h trivial).elim⟩⟩, fun h => ⟨(), x.done hne hz (ge_of_dec h), nofun⟩⟩⟩⟩⟩⟩⟩⟩⟩⟩⟩⟩⟩, fun h0 => ⟨fun _ => ⟨gff (str_ne hne), ⟨⟨gff (str_ne hne), ix_ok (Nat.pos_of_ne_zero hne)⟩, ⟨gff (str_ne hne), ⟨gff (str_ne hne), ⟨gtf (decide_eq_false h0), ⟨gtf (decide_eq_false h0), ⟨gtf (decide_eq_false h0), ⟨⟨gff (str_ne hne), (decide_eq_false h0)⟩, ⟨(str_ne hne), ⟨rfl, ⟨⟨⟨0, Nat.zero_le _, rfl⟩, rfl, ⟨⟨rfl, nofun⟩, ⟨rfl, nofun⟩, ⟨rfl, nofun⟩, trivial⟩, trivial⟩, fun x => ⟨fun h => ⟨fun h1 => ⟨ix_ok (lt_of_dec h), ⟨gft (decide_eq_true h1), ⟨gft (decide_eq_true h1), ⟨gft (decide_eq_true h1), ⟨gft (decide_eq_true h1), ⟨(decide_eq_true h1), ⟨rfl, ⟨(), x.low (lt_of_dec h) h1, nofun⟩⟩⟩⟩⟩⟩⟩⟩, fun h1 => ⟨fun _ => ⟨ix_ok (lt_of_dec h), ⟨gff (decide_eq_false h1), ⟨gff (decide_eq_false h1), ⟨⟨gff (decide_eq_false h1), ix_ok (lt_of_dec h)⟩, ⟨gff (decide_eq_false h1), ⟨(decide_eq_false h1), ⟨fun h2 => ⟨(), x.high (lt_of_dec h) h1 h2, nofun⟩, fun h2 => ⟨x.next (lt_of_dec h) h1 h2, x.next_lt (lt_of_dec h) h1 h2, rfl, ⟨⟨rfl, nofun⟩, ⟨rfl, nofun⟩, ⟨x.next_i hs (lt_of_dec h) h1 h2, nofun⟩, trivial⟩, trivial⟩⟩⟩⟩⟩⟩⟩⟩, fun h => (h trivial).elim⟩⟩, fun h => ⟨(), x.done hne hz (ge_of_dec h), nofun⟩⟩⟩⟩⟩⟩⟩⟩⟩⟩⟩⟩⟩, fun h => (h trivial).elim⟩⟩
theorem wf_empty (s : ByteArray) (he : s.size = 0) : Det Tryd.prog 28 [.string s] (.bool false) :=
  det_of_vc Tryd.mixed good_decimal_wellFormed (O := [.reg [(3, .no), (4, .no), (5, .no), (6, .no), (10, .no), (11, .yes)], .yes]) fun _ => ⟨gft (str_e he), ⟨gft (str_e he), ⟨gft (str_e he), ⟨gft (str_e he), ⟨gft (str_e he), ⟨(str_e he), ⟨rfl, ⟨(), rfl, nofun⟩⟩⟩⟩⟩⟩⟩⟩
theorem wf_zero (s : ByteArray) (hne : s.size ≠ 0) (h0 : byteAt s 0 = 48) (h1 : 1 < s.size) : Det Tryd.prog 28 [.string s] (.bool false) :=
  det_of_vc Tryd.mixed good_decimal_wellFormed (O := [.reg [(3, .yes), (4, .yes), (5, .yes), (6, .yes), (7, .yes), (8, .yes), (9, .yes), (10, .yes), (11, .no)], .yes]) fun _ => ⟨gff (str_ne hne), ⟨⟨gff (str_ne hne), ix_ok (Nat.pos_of_ne_zero hne)⟩, ⟨gff (str_ne hne), ⟨gff (str_ne hne), ⟨gtt (decide_eq_true h0), ⟨gtt (decide_eq_true h0), ⟨gtt (decide_eq_true h0), ⟨⟨gff (str_ne hne), (decide_eq_true h0)⟩, ⟨(str_ne hne), ⟨(gt_dec h1), ⟨(), rfl, nofun⟩⟩⟩⟩⟩⟩⟩⟩⟩⟩⟩
theorem wf_any (s : ByteArray) (hs : s.size < 4611686018427387904) : Det Tryd.prog 28 [.string s] (.bool (canon (bs s))) := by
  by_cases he : s.size = 0
  · have e : bs s = [] := List.eq_nil_of_length_eq_zero ((bs_len s).trans he)
    have := wf_empty s he
    rw [e]
    exact this
  · by_cases hz : byteAt s 0 = 48 ∧ 1 < s.size
    · have h := wf_zero s he hz.1 hz.2
      have e : canon (bs s) = false := by
        have hl := bs_len s
        rcases hb : bs s with _ | ⟨b, _ | ⟨c, r⟩⟩
        · rfl
        · rw [hb] at hl; simp at hl; omega
        · rw [byteAt0 hb] at hz
          have : b.toNat = 48 := by omega
          simp [canon, this]
      rw [e]
      exact h
    · exact wf_loop s hs he hz

end Go.Proofs.YtkionnggdncncaaDoor

