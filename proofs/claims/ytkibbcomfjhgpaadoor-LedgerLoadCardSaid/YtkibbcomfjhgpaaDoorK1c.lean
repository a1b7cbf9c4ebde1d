/- Layer 11: the order of accounts, as the library's sort calls it. No conditions. -/
import Derived.Test.YtkibbcomfjhgpaaDoorK1m
import Derived.Test.YtkibbcomfjhgpaaDoorK1z
namespace Go.Proofs.YtkibbcomfjhgpaaDoor
set_option maxRecDepth 100000
open Go.RowKit Go.Shelf Go.Lib Go.Sort

/-- How two accounts compare: by address. -/
def cfA (x y : Ac) : Int := if x.a < y.a then -1 else if y.a < x.a then 1 else 0
theorem cmp_walk (x y : Ac) (W : World) : Calls Tryd.prog 70 #[.int .u64 (x.a : Int), .int .u64 (y.a : Int)] W fun e w' => e = .returned (.int .i64 (cfA x y)) ∧ w' = W := by
  go_enter Tryd.func70, Tryd.ntmps70
  go_wp2
  all_goals
    go_ret
    exact ⟨by unfold cfA; simp [*], rfl⟩
theorem cmp_lays (x y : Ac) (W : World) : Calls Tryd.prog 46 #[.agg (acw x).toArray, .agg (acw y).toArray] W fun e w' => e = .returned (.int .i64 (cfA x y)) ∧ ∃ q os', w' = grow (W.drewN q) os' := by
  go_enter Tryd.func46, Tryd.ntmps46
  go_wp2_with (first | (go_at_call 70; refine (cmp_walk x y _).mono ?_; rintro e w' ⟨rfl, rfl⟩) | go_in)
  go_ret
  exact ⟨rfl, 0, #[_, _], by rw [World.drewN_zero, alloc_eq_grow, alloc_eq_grow, grow_grow]; rfl⟩
theorem lt_A (x y : Ac) : ltOf cfA x y = decide (x.a < y.a) := by
  unfold ltOf cfA
  by_cases h : x.a < y.a
  · rw [if_pos h, decide_eq_true h]; rfl
  · rw [if_neg h, decide_eq_false h]
    by_cases h2 : y.a < x.a
    · rw [if_pos h2]; rfl
    · rw [if_neg h2]; rfl
theorem swo_A : SWO (ltOf cfA) := by
  refine ⟨fun x => ?_, fun x y z => ?_, fun x y z => ?_⟩
  · rw [lt_A]; simp
  · rw [lt_A, lt_A, lt_A]; simp; omega
  · rw [lt_A, lt_A, lt_A]; simp; omega
/-- The accounts' words, one behind the other. -/
def acws (l : List Ac) : List Value := l.flatMap acw
theorem acws_cons (x : Ac) (l : List Ac) : acws (x :: l) = acw x ++ acws l := rfl
theorem acws_len (l : List Ac) : (acws l).length = l.length * 6 := by
  induction l with
  | nil => rfl
  | cons x r ih => rw [acws_cons, List.length_append, ih, List.length_cons]; simp; omega
theorem acws_app (l m : List Ac) : acws (l ++ m) = acws l ++ acws m := by simp [acws]
theorem acws_get (l : List Ac) (i : Nat) (hi : i < l.length) (j : Nat) (hj : j < 6) : (acws l)[i * 6 + j]? = (acw (l.getD i default))[j]? := by
  induction l generalizing i with
  | nil => simp at hi
  | cons x r ih =>
    rw [acws_cons]
    cases i with
    | zero =>
      rw [List.getElem?_append_left (by simp; omega)]
      simp [List.getD]
    | succ i =>
      rw [List.getElem?_append_right (by simp; omega), show (i + 1) * 6 + j - (acw x).length = i * 6 + j by simp; omega, ih i (by simpa using hi)]
      simp [List.getD]
theorem acw_one (x : Ac) : ∀ v ∈ acw x, v.oneCell' = true := by
  intro v hv
  simp only [List.mem_cons, List.not_mem_nil, or_false] at hv
  rcases hv with rfl | rfl | rfl | rfl | rfl | rfl <;> rfl
theorem flat_acws (l : List Ac) (t : Nat) (ht : t < l.length * 6) : (acws l)[t]? = some ((flatK acw 6 l.toArray)[t]!) := by
  rw [get_flatK acw 6 l.toArray t (by simpa using ht)]
  have h1 : t / 6 < l.length := by omega
  have h2 : t % 6 < 6 := Nat.mod_lt _ (by decide)
  have := acws_get l (t / 6) h1 (t % 6) h2
  rw [show t / 6 * 6 + t % 6 = t by omega] at this
  rw [this]
  have e : (l.toArray)[t / 6]! = l.getD (t / 6) default := by simp [List.getD, h1]
  rw [e, getElem!_pos _ _ (by simpa using h2)]
  exact List.getElem?_eq_getElem (by simpa using h2)
/-- A row that holds them, as the sort wants it. -/
theorem holds_acws {w : World} {g : Nat} {cur : Array Value} {T : TypeId} {l : List Ac} (hg : w.heap[g]? = some (.cells cur T)) (h : cur.toList.take (l.length * 6) = acws l) : HoldsK acw 6 w g 0 l.toArray := by
  intro t ht
  have ht : t < l.length * 6 := by simpa using ht
  refine ⟨?_, ?_⟩
  · have h1 := flat_acws l t ht
    rw [← h, List.getElem?_take_of_lt ht] at h1
    simp only [World.cell?, hg, Nat.zero_add, id]
    simpa using h1
  · simp [World.frozen?, hg]
theorem heap_putRow {enc : Ac → List Value} (w : World) (g : Nat) (d : Array Ac) (n : Nat) (os : Array Obj) {cur : Array Value} {T : TypeId} (hg : w.heap[g]? = some (.cells cur T)) :
    (∃ cur', (sortWorldK enc 6 w g 0 n d os).heap[g]? = some (.cells cur' T) ∧ cur'.size = cur.size) ∧ (∀ k, k < w.heap.size → k ≠ g → (sortWorldK enc 6 w g 0 n d os).heap[k]? = w.heap[k]?) := by
  have hlt : g < w.heap.size := Sx.lt_of_some hg
  have hh : ∀ k, k < w.heap.size → (sortWorldK enc 6 w g 0 n d os).heap[k]? = (w.heap.modify g (onCells (putCells id 0 (flatK enc 6 d))))[k]? := fun k hk => by
    show ((w.heap.modify g (onCells (putCells id 0 (flatK enc 6 d)))) ++ os)[k]? = _
    rw [Array.getElem?_append_left (by simpa using hk)]
  refine ⟨⟨putCells id 0 (flatK enc 6 d) cur, ?_, by simp [putCells]⟩, fun k hk hne => ?_⟩
  · rw [hh g hlt, Array.getElem?_modify, if_pos rfl, hg]; rfl
  · rw [hh k hk, Array.getElem?_modify, if_neg (Ne.symm hne)]
/-- What the sort leaves. -/
theorem sort_acws {w w' : World} {g n : Nat} {cur : Array Value} {T : TypeId} {l : List Ac} {d' : Array Ac} {os : Array Obj} (hg : w.heap[g]? = some (.cells cur T)) (h : cur.toList.take (l.length * 6) = acws l)
    (hp : PermIn 0 l.toArray.size l.toArray d') (hs : SortedIn (ltOf cfA) 0 l.toArray.size d') (hw : w' = sortWorldK acw 6 w g 0 n d' os) (ho : Once l) :
    ∃ cur', w'.heap[g]? = some (.cells cur' T) ∧ cur'.size = cur.size ∧ d'.toList.Perm l ∧ Asc d'.toList ∧ cur'.toList.take (l.length * 6) = acws d'.toList ∧ (∀ k, k < w.heap.size → k ≠ g → w'.heap[k]? = w.heap[k]?) ∧ w.heap.size ≤ w'.heap.size ∧ w'.os = w.os ∧ w'.tape = w.tape ∧ w'.output = w.output := by
  obtain ⟨hsz, _, hperm⟩ := hp
  have hlt : g < w.heap.size := Sx.lt_of_some hg
  have hsz' : d'.size = l.length := by simpa using hsz
  have e1 : d'.extract 0 l.toArray.size = d' := by rw [← hsz]; exact Array.extract_size
  have e2 : l.toArray.extract 0 l.toArray.size = l.toArray := Array.extract_size
  rw [e1, e2] at hperm
  have hpl : d'.toList.Perm l := by simpa using hperm
  obtain ⟨⟨cur', h1, h2⟩, h3⟩ := heap_putRow (enc := acw) w g d' n os hg
  subst hw
  have hH := holdsK_sortWorldK_c acw 6 w g 0 l.toArray d' n os (holds_acws hg h) hlt hsz
  refine ⟨cur', h1, h2, hpl, ?_, ?_, h3, ?_, rfl, rfl, rfl⟩
  · have ho' : Once d'.toList := (hpl.map (·.a)).nodup_iff.2 ho
    refine List.pairwise_iff_getElem.2 ?_
    intro i j hi hj hij
    have h4 := hs i j (Nat.zero_le _) hij (by rw [← hsz]; simpa using hj)
    rw [lt_A] at h4
    rw [getElem!_pos d' i (by simpa using hi), getElem!_pos d' j (by simpa using hj)] at h4
    have h5 : ¬ (d'.toList[j]).a < (d'.toList[i]).a := by simpa using h4
    have h6 : (d'.toList[i]).a ≠ (d'.toList[j]).a := by
      intro e
      have := (List.nodup_iff_pairwise_ne.1 ho')
      rw [List.pairwise_iff_getElem] at this
      exact this i j (by simpa using hi) (by simpa using hj) hij (by simpa using e)
    omega
  · have hc : l.length * 6 ≤ cur.size := by
      have h7 := congrArg List.length h
      rw [List.length_take, acws_len] at h7
      have : cur.toList.length = cur.size := Array.length_toList
      omega
    apply List.ext_getElem?
    intro t
    by_cases ht : t < l.length * 6
    · rw [List.getElem?_take_of_lt ht]
      have h8 := (hH t (by rw [size_flatK, hsz']; exact ht)).1
      simp only [World.cell?, h1, Nat.zero_add, id] at h8
      have h9 := flat_acws d'.toList t (by rw [Array.length_toList, hsz']; exact ht)
      rw [h9]
      simpa using h8
    · rw [List.getElem?_eq_none (by rw [List.length_take]; omega), List.getElem?_eq_none (by rw [acws_len, Array.length_toList, hsz']; omega)]
  · show w.heap.size ≤ ((w.heap.modify g (onCells (putCells id 0 (flatK acw 6 d')))) ++ os).size
    simp
end Go.Proofs.YtkibbcomfjhgpaaDoor

