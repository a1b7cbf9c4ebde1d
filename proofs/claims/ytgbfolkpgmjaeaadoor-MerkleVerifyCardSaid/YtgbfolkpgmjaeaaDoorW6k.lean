/- Layer 6: what the laws' walks lean on: encodings that are read back, and bytes that were read and are encoded again; 'append' to a full row. No Go function's walk in this text; no conditions. -/
import Derived.Test.YtgbfolkpgmjaeaaDoorW6v
import Derived.Test.YtgbfolkpgmjaeaaDoorSxz
namespace Go.Proofs.YtgbfolkpgmjaeaaDoor
open Go.RowKit Sx
set_option maxRecDepth 100000

/-- A buffer with these bytes that was given away. -/
abbrev Byt.fr (l : List UInt8) (x : FrX (bcs l)) : Byt := Byt.ofFr (bcs l) l rfl x
theorem Byt.fr_n (l : List UInt8) (x : FrX (bcs l)) : (Byt.fr l x).n = l.length := bcs_length l
theorem lenb (l : List UInt8) : lenB (bcs l) 1 = l.length := bcs_length l
abbrev r64W (r : Nat × Nat × Nat) : Value := .tuple #[.int .u64 (r.1 : Int), .int .i64 (r.2.1 : Int), .int .i64 (r.2.2 : Int)]
/-- What ReadBytes gives back, where these bytes are read. -/
abbrev rbW (s : List UInt8) (k e : Nat) (x : FrX (bcs s)) : Value := .tuple #[.slice (frO x) (lenB (bcs s) 1) (frC 1 x), .int .i64 (k : Int), .int .i64 (e : Int)]
abbrev rbo (s : List UInt8) (k e : Nat) : Or := .call (FrX (bcs s)) (.inr (0, [])) (rbW s k e) (fun x => frL 5 x)
theorem mod_len (x : Int) {n : Nat} (hn : n ≤ 100000) : Det Tryd.prog 20 [.int .i64 x, .int .i64 (IntKind.i64.wrap ((n : Int) + 1))] (.int .i64 (modI x (n + 1))) := by
  rw [show (IntKind.i64.wrap ((n : Int) + 1)) = ((n + 1 : Nat) : Int) from add1 (by omega)]
  exact mod_raw x (n + 1) (by omega) (by omega)
theorem modI_le (x : Int) (n : Nat) : modI x (n + 1) ≤ n := by have := modI_lt x (n := n + 1) (by omega); omega
theorem gtB (k : Nat) {n : Nat} (h : k < n) : decide ((n : Int) > (k : Int)) = true := by apply decide_eq_true; omega
theorem leB (k : Nat) {n : Nat} (h : n ≤ k) : decide ((n : Int) > (k : Int)) = false := by apply decide_eq_false; omega

/-! An encoding that is read back. -/
theorem rdn_at {l p q : List UInt8} {n m : Nat} {z : Int} (e : l = p ++ enc n ++ q) (hz : z = p.length) (hn : n < B256) (hm : nb n ≤ m) : rdn l z m = (n, (p ++ enc n).length, 0) := by
  subst e; subst hz
  rw [rdn_enc p q hn hm, List.length_append]
theorem rdb_at {l p q s : List UInt8} {z : Int} (e : l = p ++ enc s.length ++ s ++ q) (hz : z = p.length) (hs : s.length < 18446744073709551616) : rdb l z = (s, (p ++ enc s.length ++ s).length, 0) := by
  have h := rdn_at (l := l) (p := p) (q := s ++ q) (n := s.length) (m := 8) (by rw [e, List.append_assoc (p ++ enc s.length)]) hz (lt_B hs) (nb_8 hs)
  have h1 : (rdn l z 8).2.2 = 0 := by rw [h]
  have h2 : (rdn l z 8).1 ≤ l.length - (rdn l z 8).2.1 := by rw [h, e]; simp only [List.length_append]; omega
  rw [rdb_c h1 h2, h]
  refine Prod.ext ?_ (Prod.ext ?_ rfl)
  · show (l.drop (p ++ enc s.length).length).take s.length = s
    rw [e, List.append_assoc (p ++ enc s.length), List.drop_left, List.take_left]
  · show (p ++ enc s.length).length + s.length = _
    simp only [List.length_append]
theorem rdi_at {l p q : List UInt8} {s : Bool} {n : Nat} {z : Int} (e : l = p ++ encI s n ++ q) (hz : z = p.length) (hn : n < B256) (h : (s && isz n) = false) : rdi l z = (s, n, (p ++ encI s n).length, 0) := by
  subst hz
  have he := encI_yes h
  have hk : p.length < l.length := by rw [e, he]; simp
  have hg : l.getD p.length 0 = if s then 1 else 0 := by
    rw [e, he]; simp [List.getD]
  have hs : (l.getD p.length 0).toNat ≤ 1 := by rw [hg]; cases s <;> decide
  have hsb : sB l p.length = s := by unfold sB; rw [hg]; cases s <;> rfl
  have hr := rdn_at (l := l) (p := p ++ [if s then 1 else 0]) (q := q) (n := n) (m := 32) (z := ((p.length + 1 : Nat) : Int)) (by rw [e, he]; simp) (by simp) hn (nb_32 hn)
  have e2 : (p ++ [if s then 1 else 0] ++ enc n).length = (p ++ encI s n).length := by rw [he]; simp
  rw [rdi_e hk hs (by rw [hr]) (by rw [hsb, hr]; exact h), hsb, hr, e2]

/-! Bytes that were read, encoded again. -/
theorem rdn_back {l : List UInt8} {k m : Nat} (hk : k ≤ l.length) (h : (rdn l k m).2.2 = 0) : k < (rdn l k m).2.1 ∧ (rdn l k m).2.1 ≤ l.length ∧ enc (rdn l k m).1 = (l.drop k).take ((rdn l k m).2.1 - k) := by
  cases hs : sigOk (l.drop k) m with
  | false => rw [rdn_no hk hs] at h; cases h
  | true =>
    rw [rdn_yes hk hs]
    obtain ⟨h1, h2, h3, h4⟩ := sigOk_iff.1 hs
    rw [List.length_drop] at h1 h3
    obtain ⟨b, r, hb⟩ : ∃ b r, l.drop k = b :: r := by
      cases hd : l.drop k with
      | nil => have := congrArg List.length hd; rw [List.length_drop] at this; simp at this; omega
      | cons b r => exact ⟨b, r, rfl⟩
    have hr : l.drop (k + 1) = r := by rw [← List.drop_drop, hb]; rfl
    have hc : sigC (l.drop k) = b.toNat := by rw [hb]; rfl
    have hlr : b.toNat ≤ r.length := by rw [← hr, List.length_drop]; omega
    refine ⟨by show k < k + 1 + _; omega, by show k + 1 + _ ≤ _; omega, ?_⟩
    show enc (be ((l.drop (k + 1)).take (sigC (l.drop k)))) = (l.drop k).take (k + 1 + sigC (l.drop k) - k)
    rw [hc, hr, show k + 1 + b.toNat - k = b.toNat + 1 by omega, hb, List.take_succ_cons]
    rw [enc_be]
    · rw [List.length_take, Nat.min_eq_left hlr, UInt8.ofNat_toNat]
    · rw [hc] at h4
      rcases h4 with h4 | h4
      · left; rw [h4]; rfl
      · by_cases h0 : b.toNat = 0
        · left; rw [h0]; rfl
        · right
          have e : (r.take b.toNat).getD 0 0 = (l.drop k).getD 1 0 := by
            rw [hb]
            simp only [List.getD, List.getElem?_take, List.getElem?_cons_succ]
            rw [if_pos (by omega)]
          rw [e]; exact h4
theorem take_add' (l : List UInt8) (k i j : Nat) (h1 : k ≤ i) (h2 : i ≤ j) : (l.drop k).take (i - k) ++ (l.drop i).take (j - i) = (l.drop k).take (j - k) := by
  rw [show j - k = (i - k) + (j - i) by omega, List.take_add, List.drop_drop, show k + (i - k) = i by omega]
theorem rdb_back {l : List UInt8} {k : Nat} (hk : k ≤ l.length) (h : (rdb l k).2.2 = 0) : k < (rdb l k).2.1 ∧ (rdb l k).2.1 ≤ l.length ∧ enc (rdb l k).1.length ++ (rdb l k).1 = (l.drop k).take ((rdb l k).2.1 - k) := by
  by_cases h1 : (rdn l k 8).2.2 = 0
  · obtain ⟨g1, g2, g3⟩ := rdn_back hk h1
    by_cases h2 : (rdn l k 8).1 ≤ l.length - (rdn l k 8).2.1
    · rw [rdb_c h1 h2]
      have hlen : ((l.drop (rdn l k 8).2.1).take (rdn l k 8).1).length = (rdn l k 8).1 := by rw [List.length_take, List.length_drop]; omega
      refine ⟨by show k < _ + _; omega, by show _ + _ ≤ _; omega, ?_⟩
      show enc ((l.drop (rdn l k 8).2.1).take (rdn l k 8).1).length ++ (l.drop (rdn l k 8).2.1).take (rdn l k 8).1 = (l.drop k).take ((rdn l k 8).2.1 + (rdn l k 8).1 - k)
      rw [hlen, g3]
      have := take_add' l k (rdn l k 8).2.1 ((rdn l k 8).2.1 + (rdn l k 8).1) (by omega) (by omega)
      rwa [Nat.add_sub_cancel_left] at this
    · rw [rdb_b h1 (by omega)] at h; cases h
  · rw [rdb_a h1] at h; exact absurd h h1
theorem rdi_back {l : List UInt8} {k : Nat} (hk : k ≤ l.length) (h : (rdi l k).2.2.2 = 0) : k < (rdi l k).2.2.1 ∧ (rdi l k).2.2.1 ≤ l.length ∧ encI (rdi l k).1 (rdi l k).2.1 = (l.drop k).take ((rdi l k).2.2.1 - k) ∧ (rdi l k).2.1 < B256 := by
  by_cases h1 : k < l.length ∧ (l.getD k 0).toNat ≤ 1
  · by_cases h2 : (rdn l (k + 1 : Nat) 32).2.2 = 0
    · cases h3 : (sB l k && isz (rdn l (k + 1 : Nat) 32).1) with
      | true => rw [rdi_d h1.1 h1.2 h2 h3] at h; cases h
      | false =>
        rw [rdi_e h1.1 h1.2 h2 h3]
        obtain ⟨g1, g2, g3⟩ := rdn_back (show k + 1 ≤ l.length by omega) h2
        refine ⟨by show k < (rdn l (k + 1 : Nat) 32).2.1; omega, g2, ?_, rdn_lt (by omega)⟩
        show encI (sB l k) (rdn l (k + 1 : Nat) 32).1 = _
        rw [encI_yes h3, g3]
        show _ = (l.drop k).take ((rdn l (k + 1 : Nat) 32).2.1 - k)
        rw [← take_add' l k (k + 1) _ (by omega) (by omega)]
        have e : (l.drop k).take (k + 1 - k) = [if sB l k then 1 else 0] := by
          rw [show k + 1 - k = 1 by omega]
          have hd : l.drop k = l.getD k 0 :: l.drop (k + 1) := by
            rw [List.drop_eq_getElem_cons h1.1]
            simp [List.getD, h1.1]
          rw [hd]
          show [l.getD k 0] = _
          congr 1
          unfold sB
          apply UInt8.toNat_inj.1
          have := h1.2
          by_cases hz : (l.getD k 0).toNat = 1
          · rw [hz]; rfl
          · have h0 : (l.getD k 0).toNat = 0 := by omega
            rw [h0]; rfl
        rw [e]; rfl
    · rw [rdi_c h1.1 h1.2 h2] at h; cases h
  · rw [rdi_b hk h1] at h; cases h
end Go.Proofs.YtgbfolkpgmjaeaaDoor

