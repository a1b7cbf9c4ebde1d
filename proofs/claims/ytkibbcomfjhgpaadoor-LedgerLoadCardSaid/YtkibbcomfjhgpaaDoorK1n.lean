/- Layer 11: accounts, pure: lists of accounts with lookup, removal, insertion by address, totals. No Go function in this text; no conditions. -/
import Derived.Test.YtkibbcomfjhgpaaDoorSxg
namespace Go.Proofs.YtkibbcomfjhgpaaDoor
open Go.RowKit Sx
set_option maxRecDepth 100000

structure Ac where
  a : Nat
  b : Nat
  n : Nat
instance : Inhabited Ac := ⟨⟨0, 0, 0⟩⟩
def Ac.emp (x : Ac) : Prop := x.b = 0 ∧ x.n = 0
instance (x : Ac) : Decidable x.emp := inferInstanceAs (Decidable (_ ∧ _))
def getA : List Ac → Nat → Ac
  | [], a => ⟨a, 0, 0⟩
  | x :: r, a => if x.a = a then x else getA r a
def delA : List Ac → Nat → List Ac
  | [], _ => []
  | x :: r, a => if x.a = a then delA r a else x :: delA r a
def insA (x : Ac) : List Ac → List Ac
  | [] => [x]
  | y :: r => if x.a < y.a then x :: y :: r else y :: insA x r
def putA (l : List Ac) (x : Ac) : List Ac := if x.emp then delA l x.a else insA x (delA l x.a)
/-- Sorted by address. -/
abbrev Asc (l : List Ac) : Prop := l.Pairwise fun x y => x.a < y.a
/-- No address twice. -/
abbrev Once (l : List Ac) : Prop := (l.map (·.a)).Nodup
def totA : List Ac → Nat
  | [] => 0
  | x :: r => x.b + totA r

theorem getA_a (l : List Ac) (a : Nat) : (getA l a).a = a := by
  induction l with
  | nil => rfl
  | cons x r ih => unfold getA; split <;> assumption
theorem getA_no {l : List Ac} {a : Nat} (h : ∀ y ∈ l, y.a ≠ a) : getA l a = ⟨a, 0, 0⟩ := by
  induction l with
  | nil => rfl
  | cons x r ih => rw [getA, if_neg (h x List.mem_cons_self)]; exact ih fun y hy => h y (List.mem_cons_of_mem _ hy)
theorem getA_in {l : List Ac} {a : Nat} : getA l a ∈ l ∨ (getA l a = ⟨a, 0, 0⟩ ∧ ∀ y ∈ l, y.a ≠ a) := by
  induction l with
  | nil => exact .inr ⟨rfl, fun _ h => (by cases h)⟩
  | cons x r ih =>
    rw [getA]
    by_cases h : x.a = a
    · rw [if_pos h]; exact .inl List.mem_cons_self
    · rw [if_neg h]
      rcases ih with h1 | ⟨h1, h2⟩
      · exact .inl (List.mem_cons_of_mem _ h1)
      · refine .inr ⟨h1, fun y hy => ?_⟩
        rcases List.mem_cons.1 hy with rfl | hy
        · exact h
        · exact h2 y hy
theorem getA_mem {l : List Ac} (h : Once l) {x : Ac} (hx : x ∈ l) : getA l x.a = x := by
  induction l with
  | nil => cases hx
  | cons y r ih =>
    have h' : y.a ∉ r.map (·.a) ∧ Once r := List.nodup_cons.1 h
    rw [getA]
    rcases List.mem_cons.1 hx with rfl | hx
    · rw [if_pos rfl]
    · by_cases e : y.a = x.a
      · exact absurd (e ▸ List.mem_map_of_mem hx) h'.1
      · rw [if_neg e]; exact ih h'.2 hx
theorem mem_delA {l : List Ac} {a : Nat} {y : Ac} : y ∈ delA l a ↔ y ∈ l ∧ y.a ≠ a := by
  induction l with
  | nil => exact ⟨fun h => (by cases h), fun h => (by cases h.1)⟩
  | cons x r ih =>
    rw [delA]
    by_cases h : x.a = a
    · rw [if_pos h, ih]
      refine ⟨fun ⟨h1, h2⟩ => ⟨List.mem_cons_of_mem _ h1, h2⟩, fun ⟨h1, h2⟩ => ⟨?_, h2⟩⟩
      rcases List.mem_cons.1 h1 with rfl | h1
      · exact absurd h h2
      · exact h1
    · rw [if_neg h, List.mem_cons, List.mem_cons, ih]
      refine ⟨fun h1 => ?_, fun h1 => ?_⟩
      · rcases h1 with rfl | ⟨h1, h2⟩
        · exact ⟨.inl rfl, h⟩
        · exact ⟨.inr h1, h2⟩
      · rcases h1 with ⟨rfl | h1, h2⟩
        · exact .inl rfl
        · exact .inr ⟨h1, h2⟩
theorem mem_insA {x : Ac} {l : List Ac} {y : Ac} : y ∈ insA x l ↔ y = x ∨ y ∈ l := by
  induction l with
  | nil => simp [insA]
  | cons z r ih =>
    rw [insA]
    split
    · simp
    · rw [List.mem_cons, ih, List.mem_cons]
      constructor
      · rintro (h | h | h)
        · exact .inr (.inl h)
        · exact .inl h
        · exact .inr (.inr h)
      · rintro (h | h | h)
        · exact .inr (.inl h)
        · exact .inl h
        · exact .inr (.inr h)
theorem getA_del (l : List Ac) (a c : Nat) : getA (delA l a) c = if c = a then ⟨a, 0, 0⟩ else getA l c := by
  by_cases h : c = a
  · subst h
    rw [if_pos rfl, getA_no fun y hy => (mem_delA.1 hy).2]
  · rw [if_neg h]
    induction l with
    | nil => rfl
    | cons x r ih =>
      rw [delA]
      by_cases h1 : x.a = a
      · rw [if_pos h1, ih, getA, if_neg (by omega)]
      · rw [if_neg h1, getA, getA, ih]
theorem getA_ins {x : Ac} {l : List Ac} (h : ∀ y ∈ l, y.a ≠ x.a) (c : Nat) : getA (insA x l) c = if c = x.a then x else getA l c := by
  induction l with
  | nil =>
    show (if x.a = c then x else (⟨c, 0, 0⟩ : Ac)) = if c = x.a then x else ⟨c, 0, 0⟩
    by_cases e : c = x.a
    · rw [if_pos e, if_pos e.symm]
    · rw [if_neg e, if_neg (Ne.symm e)]
  | cons y r ih =>
    rw [insA]
    by_cases h1 : x.a < y.a
    · rw [if_pos h1, getA]
      by_cases e : c = x.a
      · rw [if_pos e, if_pos e.symm]
      · rw [if_neg e, if_neg (Ne.symm e)]
    · rw [if_neg h1, getA, ih fun z hz => h z (List.mem_cons_of_mem _ hz)]
      have hy := h y List.mem_cons_self
      by_cases e : c = x.a
      · rw [if_pos e, if_neg (by omega), if_pos e]
      · rw [if_neg e, if_neg e, getA]
theorem getA_put (l : List Ac) (x : Ac) (c : Nat) : getA (putA l x) c = if c = x.a then x else getA l c := by
  unfold putA
  by_cases h : x.emp
  · rw [if_pos h, getA_del]
    by_cases e : c = x.a
    · rw [if_pos e, if_pos e]; obtain ⟨a, b, n⟩ := x; obtain ⟨h1, h2⟩ := h; simp at h1 h2; rw [h1, h2]
    · rw [if_neg e, if_neg e]
  · rw [if_neg h, getA_ins fun y hy => (mem_delA.1 hy).2, getA_del]
    by_cases e : c = x.a
    · rw [if_pos e, if_pos e]
    · rw [if_neg e, if_neg e, if_neg e]
theorem mem_putA {l : List Ac} {x y : Ac} (h : y ∈ putA l x) : (y = x ∧ ¬ x.emp) ∨ (y ∈ l ∧ y.a ≠ x.a) := by
  unfold putA at h
  by_cases e : x.emp
  · rw [if_pos e] at h; exact .inr (mem_delA.1 h)
  · rw [if_neg e] at h
    rcases mem_insA.1 h with h | h
    · exact .inl ⟨h, e⟩
    · exact .inr (mem_delA.1 h)
theorem asc_del {l : List Ac} (h : Asc l) (a : Nat) : Asc (delA l a) := by
  induction l with
  | nil => exact List.Pairwise.nil
  | cons x r ih =>
    obtain ⟨h1, h2⟩ := List.pairwise_cons.1 h
    rw [delA]
    split
    · exact ih h2
    · exact List.pairwise_cons.2 ⟨fun y hy => h1 y (mem_delA.1 hy).1, ih h2⟩
theorem asc_ins {x : Ac} {l : List Ac} (h : Asc l) (hx : ∀ y ∈ l, y.a ≠ x.a) : Asc (insA x l) := by
  induction l with
  | nil => exact List.pairwise_cons.2 ⟨fun _ h => (by cases h), List.Pairwise.nil⟩
  | cons y r ih =>
    obtain ⟨h1, h2⟩ := List.pairwise_cons.1 h
    rw [insA]
    by_cases e : x.a < y.a
    · rw [if_pos e]
      refine List.pairwise_cons.2 ⟨fun z hz => ?_, h⟩
      rcases List.mem_cons.1 hz with rfl | hz
      · exact e
      · exact Nat.lt_trans e (h1 z hz)
    · rw [if_neg e]
      refine List.pairwise_cons.2 ⟨fun z hz => ?_, ih h2 fun z hz => hx z (List.mem_cons_of_mem _ hz)⟩
      rcases mem_insA.1 hz with rfl | hz
      · have := hx y List.mem_cons_self; omega
      · exact h1 z hz
theorem asc_put {l : List Ac} (h : Asc l) (x : Ac) : Asc (putA l x) := by
  unfold putA
  split
  · exact asc_del h _
  · exact asc_ins (asc_del h _) fun y hy => (mem_delA.1 hy).2
theorem asc_once {l : List Ac} (h : Asc l) : Once l := by
  unfold Once List.Nodup
  rw [List.pairwise_map]
  exact h.imp fun h => by omega
theorem tot_del {l : List Ac} (h : Once l) (a : Nat) : totA (delA l a) + (getA l a).b = totA l := by
  induction l with
  | nil => rfl
  | cons x r ih =>
    have h' : x.a ∉ r.map (·.a) ∧ Once r := List.nodup_cons.1 h
    rw [delA, getA, totA]
    have := ih h'.2
    by_cases e : x.a = a
    · rw [if_pos e, if_pos e]
      have h0 : getA r a = ⟨a, 0, 0⟩ := getA_no fun y hy hya => h'.1 (by rw [e, ← hya]; exact List.mem_map_of_mem hy)
      rw [h0] at this
      simp only [Nat.add_zero] at this
      omega
    · rw [if_neg e, if_neg e, totA]; omega
theorem tot_ins (x : Ac) (l : List Ac) : totA (insA x l) = x.b + totA l := by
  induction l with
  | nil => rfl
  | cons y r ih =>
    rw [insA]
    split
    · rfl
    · rw [totA, ih, totA]; omega
theorem tot_put {l : List Ac} (h : Once l) (x : Ac) : totA (putA l x) + (getA l x.a).b = totA l + x.b := by
  have := tot_del h x.a
  unfold putA
  by_cases e : x.emp
  · rw [if_pos e, e.1]; omega
  · rw [if_neg e, tot_ins]; omega
theorem get_le_tot (l : List Ac) (a : Nat) : (getA l a).b ≤ totA l := by
  induction l with
  | nil => exact Nat.zero_le _
  | cons x r ih => rw [getA, totA]; split <;> omega
/-- Lists sorted by address, of accounts that are not empty, are told by their lookups. -/
theorem asc_ext {l m : List Ac} (hl : Asc l) (hm : Asc m) (el : ∀ x ∈ l, ¬ x.emp) (em : ∀ x ∈ m, ¬ x.emp) (h : ∀ a, getA l a = getA m a) : l = m := by
  have key : ∀ {l m : List Ac}, Asc l → (∀ x ∈ l, ¬ x.emp) → (∀ a, getA l a = getA m a) → ∀ x ∈ l, x ∈ m := by
    intro l m hl el h x hx
    have h1 := getA_mem (asc_once hl) hx
    rw [h] at h1
    rcases getA_in (l := m) (a := x.a) with h2 | ⟨h2, _⟩
    · rwa [h1] at h2
    · rw [h1] at h2
      exact absurd (show x.emp by rw [h2]; exact ⟨rfl, rfl⟩) (el x hx)
  have h1 := key hl el h
  have h2 := key (m := l) hm em fun a => (h a).symm
  clear key h el em
  induction l generalizing m with
  | nil =>
    cases m with
    | nil => rfl
    | cons y s => exact absurd (h2 y List.mem_cons_self) (by simp)
  | cons x r ih =>
    cases m with
    | nil => exact absurd (h1 x List.mem_cons_self) (by simp)
    | cons y s =>
      obtain ⟨l1, l2⟩ := List.pairwise_cons.1 hl
      obtain ⟨m1, m2⟩ := List.pairwise_cons.1 hm
      have e : x = y := by
        rcases List.mem_cons.1 (h1 x List.mem_cons_self) with h | h
        · exact h
        · rcases List.mem_cons.1 (h2 y List.mem_cons_self) with h' | h'
          · exact h'.symm
          · have := m1 x h; have := l1 y h'; omega
      subst e
      congr 1
      refine ih l2 m2 (fun z hz => ?_) (fun z hz => ?_)
      · rcases List.mem_cons.1 (h1 z (List.mem_cons_of_mem _ hz)) with rfl | h
        · have := l1 z hz; omega
        · exact h
      · rcases List.mem_cons.1 (h2 z (List.mem_cons_of_mem _ hz)) with rfl | h
        · have := m1 z hz; omega
        · exact h

/-! Lists in any order. -/
/-- Replaced at its place, or put behind. -/
def putR : List Ac → Ac → List Ac
  | [], x => [x]
  | y :: r, x => if y.a = x.a then x :: r else y :: putR r x
theorem getA_putR (l : List Ac) (x : Ac) (c : Nat) : getA (putR l x) c = if c = x.a then x else getA l c := by
  induction l with
  | nil =>
    show (if x.a = c then x else (⟨c, 0, 0⟩ : Ac)) = if c = x.a then x else ⟨c, 0, 0⟩
    by_cases e : c = x.a
    · rw [if_pos e, if_pos e.symm]
    · rw [if_neg e, if_neg (Ne.symm e)]
  | cons y r ih =>
    rw [putR]
    by_cases h : y.a = x.a
    · rw [if_pos h, getA, getA]
      by_cases e : c = x.a
      · rw [if_pos e, if_pos e.symm]
      · rw [if_neg e, if_neg (Ne.symm e), if_neg (by omega)]
    · rw [if_neg h, getA, ih, getA]
      by_cases e : c = x.a
      · rw [if_pos e, if_neg (by omega), if_pos e]
      · rw [if_neg e, if_neg e]
theorem tot_putR (l : List Ac) (x : Ac) : totA (putR l x) + (getA l x.a).b = totA l + x.b := by
  induction l with
  | nil => rw [putR]; simp [totA, getA]
  | cons y r ih =>
    rw [putR, getA]
    by_cases h : y.a = x.a
    · rw [if_pos h, if_pos h, totA, totA]; omega
    · rw [if_neg h, if_neg h, totA, totA]; omega
theorem mem_putR {l : List Ac} {x y : Ac} (h : y ∈ putR l x) : y = x ∨ y ∈ l := by
  induction l with
  | nil => simpa [putR] using h
  | cons z r ih =>
    rw [putR] at h
    by_cases e : z.a = x.a
    · rw [if_pos e] at h
      rcases List.mem_cons.1 h with h | h
      · exact .inl h
      · exact .inr (List.mem_cons_of_mem _ h)
    · rw [if_neg e] at h
      rcases List.mem_cons.1 h with h | h
      · exact .inr (h ▸ List.mem_cons_self)
      · rcases ih h with h | h
        · exact .inl h
        · exact .inr (List.mem_cons_of_mem _ h)
theorem once_putR {l : List Ac} (h : Once l) (x : Ac) : Once (putR l x) := by
  induction l with
  | nil => exact List.nodup_cons.2 ⟨by simp, List.nodup_nil⟩
  | cons y r ih =>
    have h' : y.a ∉ r.map (·.a) ∧ Once r := List.nodup_cons.1 h
    rw [putR]
    by_cases e : y.a = x.a
    · rw [if_pos e]; exact List.nodup_cons.2 ⟨by show x.a ∉ r.map (·.a); rw [← e]; exact h'.1, h'.2⟩
    · rw [if_neg e]
      refine List.nodup_cons.2 ⟨fun hm => ?_, ih h'.2⟩
      obtain ⟨z, hz, hza⟩ := List.mem_map.1 hm
      rcases mem_putR hz with rfl | hz
      · exact e hza.symm
      · exact h'.1 (by rw [show y.a = z.a from hza.symm]; exact List.mem_map_of_mem hz)
theorem len_putR (l : List Ac) (x : Ac) : (putR l x).length ≤ l.length + 1 := by
  induction l with
  | nil => exact Nat.le_refl _
  | cons y r ih => rw [putR]; split <;> simp <;> omega
/-- The accounts that are not empty, sorted. -/
def srtA (l : List Ac) : List Ac := l.foldl (fun o x => if x.emp then o else insA x o) []
theorem foldl_srt (l : List Ac) : ∀ o : List Ac, Asc o → (∀ x ∈ o, ¬ x.emp) → (∀ x ∈ l, ∀ y ∈ o, y.a ≠ x.a) → Once l →
    Asc (l.foldl (fun o x => if x.emp then o else insA x o) o) ∧ (∀ x ∈ l.foldl (fun o x => if x.emp then o else insA x o) o, ¬ x.emp) ∧ ∀ a, getA (l.foldl (fun o x => if x.emp then o else insA x o) o) a = if (∃ y ∈ o, y.a = a) then getA o a else getA l a := by
  induction l with
  | nil =>
    intro o h1 h2 _ _
    refine ⟨h1, h2, fun a => ?_⟩
    show getA o a = _
    split
    · rfl
    · rename_i h; exact getA_no fun y hy e => h ⟨y, hy, e⟩
  | cons x r ih =>
    intro o h1 h2 h3 h4
    have h' : x.a ∉ r.map (·.a) ∧ Once r := List.nodup_cons.1 h4
    have hx : ∀ y ∈ o, y.a ≠ x.a := h3 x List.mem_cons_self
    simp only [List.foldl_cons]
    by_cases e : x.emp
    · rw [if_pos e]
      obtain ⟨g1, g2, g3⟩ := ih o h1 h2 (fun z hz => h3 z (List.mem_cons_of_mem _ hz)) h'.2
      refine ⟨g1, g2, fun a => ?_⟩
      rw [g3 a]
      by_cases e2 : ∃ y ∈ o, y.a = a
      · rw [if_pos e2, if_pos e2]
      · rw [if_neg e2, if_neg e2, getA]
        by_cases e3 : x.a = a
        · rw [if_pos e3, getA_no fun y hy hya => h'.1 (by rw [e3, ← hya]; exact List.mem_map_of_mem hy)]
          obtain ⟨xa, xb, xn⟩ := x
          obtain ⟨q1, q2⟩ := e
          simp at q1 q2 e3
          rw [q1, q2, e3]
        · rw [if_neg e3]
    · rw [if_neg e]
      obtain ⟨g1, g2, g3⟩ := ih (insA x o) (asc_ins h1 hx) (fun z hz => by
        rcases mem_insA.1 hz with rfl | hz
        · exact e
        · exact h2 z hz) (fun z hz y hy => by
        rcases mem_insA.1 hy with rfl | hy
        · exact fun hya => h'.1 (hya ▸ List.mem_map_of_mem hz)
        · exact h3 z (List.mem_cons_of_mem _ hz) y hy) h'.2
      refine ⟨g1, g2, fun a => ?_⟩
      rw [g3 a, getA_ins hx]
      by_cases e3 : a = x.a
      · rw [if_pos ⟨x, mem_insA.2 (.inl rfl), e3.symm⟩, if_pos e3, if_neg (fun ⟨y, hy, hya⟩ => hx y hy (hya.trans e3)), getA, if_pos e3.symm]
      · rw [if_neg e3, getA, if_neg (Ne.symm e3)]
        by_cases e2 : ∃ y ∈ o, y.a = a
        · obtain ⟨y, hy, hya⟩ := e2
          rw [if_pos ⟨y, mem_insA.2 (.inr hy), hya⟩, if_pos ⟨y, hy, hya⟩]
        · rw [if_neg e2, if_neg]
          rintro ⟨y, hy, hya⟩
          rcases mem_insA.1 hy with rfl | hy
          · exact e3 hya.symm
          · exact e2 ⟨y, hy, hya⟩
theorem srt_eq {l m : List Ac} (h : Once l) (hm : Asc m) (em : ∀ x ∈ m, ¬ x.emp) (e : ∀ a, getA l a = getA m a) : srtA l = m := by
  obtain ⟨g1, g2, g3⟩ := foldl_srt l [] List.Pairwise.nil (fun _ h => (by cases h)) (fun _ _ _ h => (by cases h)) h
  refine asc_ext g1 hm g2 em fun a => ?_
  refine (g3 a).trans ?_
  rw [if_neg (by simp)]
  exact e a
end Go.Proofs.YtkibbcomfjhgpaaDoor

