/- What the tied condition gives the walks: the table of round constants holds the round constants; how a hash that came in is read. No conditions besides. -/
import Derived.Test.YtkbdncbifgicnaaDoorH7l
import Derived.Test.YtkbdncbifgicnaaDoorTie
import Derived.Test.YtkbdncbifgicnaaDoorCards
import Derived.LaidMore
import Derived.OpenShut
import Derived.Stop.Joined
import Derived.SevenTiedAt
namespace Go.Proofs.YtkbdncbifgicnaaDoor
open Go.ChangeShapes Go.WideShapes Go.ChangeAt Go.RowKit Sx

def rcName : String := "pontage/hash.roundConstants"
theorem tRc : (Tryd.prog.globals[0]?).map (·.type) = some 55 := by kernel_rfl
theorem rc_of_laid {l : List (String × DataW Unit)} {W : World} (h : laidMetH Tryd.prog l W) (e : l.filter (fun x => x.1 == rcName) = [(rcName, Lib.tabData .u32 (rcTab.map fun n : Nat => (n : Int)))]) : RC W := by
  have h2 := laidMetH.filter (fun x => x.1 == rcName) h
  rw [e, MakeChecks.laidMetH_plain _ _ _ (by kernel_rfl)] at h2
  exact Lib.tabIs_of_head rc_name tRc Tryd.underlying55 Tryd.underlying40 (by kernel_rfl) (by kernel_rfl) h2
/-- A fact for the table, out of a world in which it is as it was laid. -/
theorem rcF_of {w : World} (h : RC w) : ∃ A, EnvF RC A ∧ Sx.Holds w A := by
  have h0 := h
  unfold RC Lib.TabIs World.var? at h0
  rw [rc_name] at h0
  simp only [Option.bind_some] at h0
  have hlt : 0 < w.heap.size := by
    rcases Nat.lt_or_ge 0 w.heap.size with h' | h'
    · exact h'
    · rw [Array.getElem?_eq_none h'] at h0; simp at h0
  refine ⟨[(0, w.heap[0])], fun w' hw' => ?_, fun q hq => ?_⟩
  · have e : w'.heap[0]? = w.heap[0]? := by rw [hw' _ (List.mem_singleton.2 rfl)]; simp [hlt]
    unfold RC Lib.TabIs World.var?
    rw [rc_name]
    simp only [Option.bind_some]
    rw [e]
    exact h0
  · simp only [List.mem_singleton] at hq; subst hq; simp [hlt]

theorem cl_extk {g h : Nat → Value} : ∀ (n k : Nat), (∀ j, k ≤ j → g j = h j) → cl g k n = cl h k n
  | 0, _, _ => rfl
  | n + 1, k, e => by show g k :: cl g (k + 1) n = h k :: cl h (k + 1) n; rw [e k (Nat.le_refl _), cl_extk n (k + 1) fun j hj => e j (by omega)]
theorem told_u8s : ∀ (n k : Nat) (cs : List Value), Told (List.replicate n (Leaf.i .u8)) cs → ∃ f : Nat → UInt8, cs = cl (fun i => v8 (f i)) k n
  | 0, k, cs, h => by obtain rfl := told_nil h; exact ⟨fun _ => 0, rfl⟩
  | n + 1, k, cs, h => by
    obtain ⟨z, q, rfl, hw, hq⟩ := told_i h
    obtain ⟨f, rfl⟩ := told_u8s n (k + 1) q hq
    have hz := byte_of_wf hw
    refine ⟨fun i => if i = k then UInt8.ofNat z.toNat else f i, ?_⟩
    show Value.int .u8 z :: _ = v8 (if k = k then UInt8.ofNat z.toNat else f k) :: cl _ (k + 1) n
    rw [if_pos rfl, cl_extk (g := fun i => v8 (f i)) (h := fun i => v8 (if i = k then UInt8.ofNat z.toNat else f i)) n (k + 1) fun j hj => by rw [if_neg (by omega)]]
    congr 1
    show Value.int .u8 z = .int .u8 ((UInt8.ofNat z.toNat).toNat : Int)
    rw [UInt8.toNat_ofNat']
    congr 1
    omega
section
variable {H : Type} {enc : TypeId × Value → H} {W : World} {base : Nat} {sp : Nat → Bool} {held : Bool}
set_option maxRecDepth 100000 in
theorem openH {r : Reach} {b : Nat} {v : Value} {d : DataW H} {p : List MemPlace} (hv : Value.okWide Tryd.prog W r b 25 v) (h : DataW.Trod enc Tryd.prog W base sp held 25 v d p) : ∃ f, v = H8 f ∧ p = [] := by
  obtain ⟨cs, rfl, ht, rfl⟩ := open_plain lvH_ok (.inr ⟨_, _, Tryd.underlying25⟩) hv h
  obtain ⟨f, rfl⟩ := told_u8s 32 0 cs ht
  exact ⟨f, rfl, rfl⟩
end
/-- A byte out of its number. -/
theorem byte_nat {c : Int} (h : 0 ≤ c ∧ c < 256) : Value.int .u8 c = v8 (UInt8.ofNat c.toNat) := by
  show _ = Value.int .u8 ((UInt8.ofNat c.toNat).toNat : Int)
  rw [UInt8.toNat_ofNat']
  congr 1
  omega

/-! The laws, out of their cases. -/
theorem subl {L M : Facts} : Sub L (L ++ M) := fun _ h => List.mem_append.2 (.inl h)
theorem subr {L M : Facts} : Sub M (L ++ M) := fun _ h => List.mem_append.2 (.inr h)
theorem happ {w : World} {L M : Facts} (h : Sx.Holds w L) (k : Sx.Holds w M) : Sx.Holds w (L ++ M) := fun q hq => (List.mem_append.1 hq).elim (h q) (k q)
section
variable {W : World} (hT : ∃ A, EnvF RC A ∧ Sx.Holds W A)
include hT
theorem sum_law (y : Byt) (hy : Sx.Holds W y.L) : Calls Tryd.prog 3 #[y.v] W fun e w' => e = .returned (.bool true) ∧ Below W.heap.size W w' := by
  obtain ⟨A, h1, h2⟩ := hT
  by_cases h : y.n ≤ 2000
  · exact (hs_short y (A ++ y.L) (h1.app _) subr h).calls good_pontagelaw7_HashSum.enters W (happ h2 hy)
  · exact (hs_long y (A ++ y.L) (h1.app _) subr (by omega)).calls good_pontagelaw7_HashSum.enters W (happ h2 hy)
theorem pad_law (z x : Int) (hx : 0 ≤ x ∧ x < 256) (r : Bool) : Calls Tryd.prog 4 #[.int .i64 z, .int .u8 x, .bool r] W fun e w' => e = .returned (.bool true) ∧ Below W.heap.size W w' := by
  obtain ⟨A, h1, h2⟩ := hT
  rw [byte_nat hx]
  cases r
  · exact (hg_f z _ A h1).calls good_pontagelaw7_HashPadding.enters W h2
  · exact (hg_t z _ A h1).calls good_pontagelaw7_HashPadding.enters W h2
theorem node_law (x y : Nat → UInt8) : Calls Tryd.prog 5 #[H8 x, H8 y] W fun e w' => e = .returned (.bool true) ∧ Below W.heap.size W w' := by
  obtain ⟨A, h1, h2⟩ := hT
  exact (hn_law x y A h1).calls good_pontagelaw7_HashNode.enters W h2
theorem fmt_law (f : Nat → UInt8) : Calls Tryd.prog 6 #[H8 f] W fun e w' => e = .returned (.bool true) ∧ Below W.heap.size W w' := by
  obtain ⟨A, h1, h2⟩ := hT
  exact (hf_law f A h1).calls good_pontagelaw7_HashFormat.enters W h2
theorem parse_law (s : ByteArray) (f : Nat → UInt8) (z b w : Int) (hb : 0 ≤ b ∧ b < 256) : Calls Tryd.prog 7 #[.string s, H8 f, .int .i64 z, .int .u8 b, .int .i64 w] W fun e w' => e = .returned (.bool true) ∧ Below W.heap.size W w' := by
  obtain ⟨A, h1, h2⟩ := hT
  rw [byte_nat hb]
  by_cases h : s.size ≤ 200
  · exact (hp_short s f z w _ A h1 h).calls good_pontagelaw7_HashParse.enters W h2
  · exact (hp_long s f z w _ A h1 (by omega)).calls good_pontagelaw7_HashParse.enters W h2
theorem pure_law (b x : Byt) (z : Int) (hb : Sx.Holds W b.L) (hx : Sx.Holds W x.L) : Calls Tryd.prog 8 #[b.v, x.v, .int .i64 z] W fun e w' => e = .returned (.bool true) ∧ Below W.heap.size W w' := by
  obtain ⟨A, h1, h2⟩ := hT
  have hh := happ h2 (happ hb hx)
  have s1 : Sub b.L (A ++ (b.L ++ x.L)) := fun q h => subr q (subl q h)
  have s2 : Sub x.L (A ++ (b.L ++ x.L)) := fun q h => subr q (subr q h)
  have en := good_pontagelaw7_HashPure.enters
  by_cases h0 : b.n ≤ 300
  · by_cases h : x.n ≤ 300
    · exact (pu_s b x z _ (h1.app _) s1 s2 h0 h).calls en W hh
    · exact (pu_x b x z _ (h1.app _) s1 s2 h0 (by omega)).calls en W hh
  · exact (pu_b b x z _ (h1.app _) s1 s2 (by omega)).calls en W hh
end
end Go.Proofs.YtkbdncbifgicnaaDoor

