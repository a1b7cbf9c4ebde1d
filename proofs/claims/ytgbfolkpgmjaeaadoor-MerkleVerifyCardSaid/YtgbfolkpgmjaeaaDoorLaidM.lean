/- What the tied condition gives the walks: the table of round constants holds the round constants; how hashes, slices of hashes and slices of numbers that came in are read. No conditions besides. -/
import Derived.Test.YtgbfolkpgmjaeaaDoorM8x
import Derived.Test.YtgbfolkpgmjaeaaDoorTie
import Derived.Test.YtgbfolkpgmjaeaaDoorCards
import Derived.LaidMore
import Derived.OpenShut
import Derived.Stop.Joined
import Derived.SevenTiedAt
namespace Go.Proofs.YtgbfolkpgmjaeaaDoor
open Go.ChangeShapes Go.WideShapes Go.ChangeAt Go.RowKit Sx

def rcName : String := "pontage/hash.roundConstants"
theorem tRc : (Tryd.prog.globals[0]?).map (·.type) = some 74 := by kernel_rfl
theorem rc_of_laid {l : List (String × DataW Unit)} {W : World} (h : laidMetH Tryd.prog l W) (e : l.filter (fun x => x.1 == rcName) = [(rcName, Lib.tabData .u32 (rcTab.map fun n : Nat => (n : Int)))]) : RC W := by
  have h2 := laidMetH.filter (fun x => x.1 == rcName) h
  rw [e, MakeChecks.laidMetH_plain _ _ _ (by kernel_rfl)] at h2
  exact Lib.tabIs_of_head rc_name tRc Tryd.underlying74 Tryd.underlying62 (by kernel_rfl) (by kernel_rfl) h2
/-- A fact for the table, out of a world in which it is as it was laid. -/
theorem rcF_of {w : World} (h : RC w) : ∃ A, EnvF RC A ∧ Sx.Holds w A := by
  have h0 := h
  unfold RC Lib.TabIs World.var? at h0
  rw [rc_name] at h0
  simp only [Option.bind_some] at h0
  have hlt : 0 < w.heap.size := by
    rcases Nat.lt_or_ge 0 w.heap.size with h' | h'
    · exact h'
    · rw [Array.getElem?_eq_none h'] at h0; simp at h0
  refine ⟨[(0, w.heap[0])], fun w' hw' => ?_, fun q hq => ?_⟩
  · have e : w'.heap[0]? = w.heap[0]? := by rw [hw' _ (List.mem_singleton.2 rfl)]; simp [hlt]
    unfold RC Lib.TabIs World.var?
    rw [rc_name]
    simp only [Option.bind_some]
    rw [e]
    exact h0
  · simp only [List.mem_singleton] at hq; subst hq; simp [hlt]

theorem cl_extk {g h : Nat → Value} : ∀ (n k : Nat), (∀ j, k ≤ j → g j = h j) → cl g k n = cl h k n
  | 0, _, _ => rfl
  | n + 1, k, e => by show g k :: cl g (k + 1) n = h k :: cl h (k + 1) n; rw [e k (Nat.le_refl _), cl_extk n (k + 1) fun j hj => e j (by omega)]
theorem told_u8s : ∀ (n k : Nat) (cs : List Value), Told (List.replicate n (Leaf.i .u8)) cs → ∃ f : Nat → UInt8, cs = cl (fun i => v8 (f i)) k n
  | 0, k, cs, h => by obtain rfl := told_nil h; exact ⟨fun _ => 0, rfl⟩
  | n + 1, k, cs, h => by
    obtain ⟨z, q, rfl, hw, hq⟩ := told_i h
    obtain ⟨f, rfl⟩ := told_u8s n (k + 1) q hq
    have hz := byte_of_wf hw
    refine ⟨fun i => if i = k then UInt8.ofNat z.toNat else f i, ?_⟩
    show Value.int .u8 z :: _ = v8 (if k = k then UInt8.ofNat z.toNat else f k) :: cl _ (k + 1) n
    rw [if_pos rfl, cl_extk (g := fun i => v8 (f i)) (h := fun i => v8 (if i = k then UInt8.ofNat z.toNat else f i)) n (k + 1) fun j hj => by rw [if_neg (by omega)]]
    congr 1
    show Value.int .u8 z = .int .u8 ((UInt8.ofNat z.toNat).toNat : Int)
    rw [UInt8.toNat_ofNat']
    congr 1
    omega
section
variable {H : Type} {enc : TypeId × Value → H} {W : World} {base : Nat} {sp : Nat → Bool} {held : Bool}
set_option maxRecDepth 100000 in
theorem openH {r : Reach} {b : Nat} {v : Value} {d : DataW H} {p : List MemPlace} (hv : Value.okWide Tryd.prog W r b 28 v) (h : DataW.Trod enc Tryd.prog W base sp held 28 v d p) : ∃ f, v = H8 f ∧ p = [] := by
  obtain ⟨cs, rfl, ht, rfl⟩ := open_plain lvH_ok (.inr ⟨_, _, Tryd.underlying28⟩) hv h
  obtain ⟨f, rfl⟩ := told_u8s 32 0 cs ht
  exact ⟨f, rfl, rfl⟩
end
section
variable {H : Type} {enc : TypeId × Value → H} {W : World} {base : Nat} {sp : Nat → Bool} {held : Bool}
theorem add_offM {a : Addr} (h : a.spot = none) (i : Nat) : a.add i = ⟨a.block, a.off + i, none⟩ := by
  unfold Addr.add
  split
  · rename_i h0; subst h0; cases a; simp_all
  · rfl
theorem spot_of_cellM {w : World} {a : Addr} {u : Value} (h : w.cell? a = some u) : a.spot = none := by
  unfold World.cell? at h
  split at h
  · split at h
    · cases h
    · rename_i h2; simpa using h2
  · cases h
set_option maxRecDepth 100000 in
theorem openHs {r : Reach} {b : Nat} {v : Value} {d : DataW H} {p : List MemPlace} (hv : Value.okWide Tryd.prog W r b 22 v) (h : DataW.Trod enc Tryd.prog W base sp held 22 v d p) :
    ∃ y : Hss, v = y.v ∧ Sx.Holds W y.L := by
  obtain ⟨A, n, c, rfl⟩ := okWide_slice Tryd.underlying22 hv
  obtain ⟨fuel, hf⟩ := h
  have h4 : Tryd.prog.cellsOf 28 = 32 := by kernel_rfl
  rcases Deep.open_slice Tryd.underlying22 hf with ⟨hcs, _⟩ | ⟨a, len, cap, m, k, D, Pl, hcs, hb, hlc, hcm, hm, _, hi⟩
  · simp [Value.cells] at hcs
    obtain ⟨rfl, rfl, rfl⟩ := hcs
    exact ⟨Hss.nil, rfl, fun _ h => by cases h⟩
  · simp [Value.cells] at hcs
    obtain ⟨rfl, rfl, rfl⟩ := hcs
    rw [h4] at hi
    have hnm : n ≤ m := by rw [hm]; split <;> omega
    have key : ∀ i, ∃ f : Hx, i < n → ∀ j u, (bsc f 32)[j]? = some u → W.cell? ((a.add (i * 32)).add j) = some u := fun i => by
      by_cases hin : i < n
      · obtain ⟨cs', h1, h2⟩ := hi i (by omega)
        obtain ⟨_, hcl, hat⟩ := World.cells?_some h1
        obtain ⟨ht, _⟩ := told_leaves 3 _ _ lvH_ok _ cs' _ h2
        obtain ⟨f, rfl⟩ := told_u8s 32 0 cs' ht
        refine ⟨f, fun _ j u hj => ?_⟩
        have hj4 : j < 32 := by have := (List.getElem?_eq_some_iff.1 hj).1; rwa [bsc_len] at this
        rw [hat j hj4]
        exact hj
      · exact ⟨H0, fun h => absurd h hin⟩
    obtain ⟨f, hfk⟩ := Classical.axiomOfChoice key
    by_cases h0 : n = 0
    · subst h0
      exact ⟨⟨some a, 0, c, [], [], rfl, Nat.zero_le _, fun _ => rfl, fun _ _ i hi => by omega⟩, rfl, fun _ h => by cases h⟩
    · have h00 : W.cell? ((a.add (0 * 32)).add 0) = some (v8 (f 0 0)) := hfk 0 (by omega) 0 _ rfl
      have hsp : a.spot = none := by
        have := spot_of_cellM h00
        rw [Nat.zero_mul] at this
        simpa [Addr.add] using this
      have hlt : a.block < W.heap.size := by
        have := World.block_lt_of_cell? W _ h00
        rwa [add_block, add_block] at this
      refine ⟨⟨some a, n, c, (List.range n).map f, [(a.block, W.heap[a.block])], by simp, by omega, fun _ => rfl, fun w' hw' i hi => ⟨a.block, a.off + i * 32, ?_, fun j u hj => ?_⟩⟩, rfl, ?_⟩
      · exact add_offM hsp _
      · have e : ((List.range n).map f).getD i H0 = f i := by simp [List.getD, hi]
        rw [e] at hj
        have := hfk i hi j u hj
        rw [add_offM hsp, add_offM rfl] at this
        rw [World.cell?_of_block (w := W) (by show w'.heap[a.block]? = _; rw [hw' _ (List.mem_singleton.2 rfl)]; simp [hlt])]
        exact this
      · intro q hq; simp only [List.mem_singleton] at hq; subst hq; simp [hlt]
set_option maxRecDepth 100000 in
theorem openIs {r : Reach} {b : Nat} {v : Value} {d : DataW H} {p : List MemPlace} (hv : Value.okWide Tryd.prog W r b 34 v) (h : DataW.Trod enc Tryd.prog W base sp held 34 v d p) :
    ∃ y : Iss, v = y.v ∧ Sx.Holds W y.L := by
  obtain ⟨A, n, c, rfl⟩ := okWide_slice Tryd.underlying34 hv
  obtain ⟨fuel, hf⟩ := h
  rcases Deep.open_slice1 Tryd.underlying34 (by kernel_rfl) hf with ⟨hcs, _⟩ | ⟨a, len, cap, m, k, V, D, Pl, hcs, hb, hlc, hcm, hm, _, hi⟩
  · simp [Value.cells] at hcs
    obtain ⟨rfl, rfl, rfl⟩ := hcs
    exact ⟨⟨none, 0, 0, [], [], rfl, Nat.le_refl _, fun h => absurd h (by decide), fun _ _ i hi => absurd hi (by omega)⟩, rfl, fun _ h => by cases h⟩
  · simp [Value.cells] at hcs
    obtain ⟨rfl, rfl, rfl⟩ := hcs
    have hnm : n ≤ m := by rw [hm]; split <;> omega
    have key : ∀ i, ∃ x : Int, i < n → W.cell? (a.add i) = some (.int .i64 x) := fun i => by
      by_cases hin : i < n
      · obtain ⟨h1, h2⟩ := hi i (by omega)
        obtain ⟨⟨h3, h4⟩, _⟩ := told_leaves 1 _ [.i .i64] (by kernel_rfl) k [V i] (D i, Pl i) h2
        cases hV : V i <;> rw [hV] at h3 h4 <;> simp [fitL] at h3
        rename_i kd z
        subst h3
        exact ⟨z, fun _ => by rw [h1, hV]⟩
      · exact ⟨0, fun h => absurd h hin⟩
    obtain ⟨f, hfk⟩ := Classical.axiomOfChoice key
    by_cases h0 : n = 0
    · subst h0
      exact ⟨⟨some a, 0, c, [], [], rfl, Nat.zero_le _, fun _ => rfl, fun _ _ i hi => by omega⟩, rfl, fun _ h => by cases h⟩
    · have h00 := hfk 0 (by omega)
      have hlt : a.block < W.heap.size := by
        have := World.block_lt_of_cell? W (a.add 0) h00
        rwa [add_block] at this
      refine ⟨⟨some a, n, c, (List.range n).map f, [(a.block, W.heap[a.block])], by simp, by omega, fun _ => rfl, fun w' hw' i hi => ?_⟩, rfl, ?_⟩
      · show w'.cell? (a.add i) = _
        rw [World.cell?_of_block (w := W) (by rw [add_block, hw' _ (List.mem_singleton.2 rfl)]; simp [hlt]), hfk i hi]
        congr 2
        simp [List.getD, hi]
      · intro q hq; simp only [List.mem_singleton] at hq; subst hq; simp [hlt]
end
theorem subl {L M : Facts} : Sub L (L ++ M) := fun _ h => List.mem_append.2 (.inl h)
theorem subr {L M : Facts} : Sub M (L ++ M) := fun _ h => List.mem_append.2 (.inr h)
theorem happ {w : World} {L M : Facts} (h : Sx.Holds w L) (k : Sx.Holds w M) : Sx.Holds w (L ++ M) := fun q hq => (List.mem_append.1 hq).elim (h q) (k q)
end Go.Proofs.YtgbfolkpgmjaeaaDoor

