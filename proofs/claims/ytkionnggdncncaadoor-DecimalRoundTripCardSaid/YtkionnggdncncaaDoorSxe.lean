/- Contracts that hold where memory meets a condition; guards; the bytes of a string. No Go function in this text; no conditions besides. -/
import Derived.Test.YtkionnggdncncaaDoorSxt
import Derived.Test.YtkionnggdncncaaDoorDec
import Derived.Laws.Strings
namespace Go.Proofs.YtkionnggdncncaaDoor
open Go.RowKit Sx

theorem gtt {b : Bool} (h : b = true) : (b == true) = true := by rw [h]; rfl
theorem gtf {b : Bool} (h : b = false) : (b == true) = false := by rw [h]; rfl
theorem gff {b : Bool} (h : b = false) : (b == false) = true := by rw [h]; rfl
theorem gft {b : Bool} (h : b = true) : (b == false) = false := by rw [h]; rfl
theorem nt {b : Bool} (h : b = true) : (!b) = false := by rw [h]; rfl
theorem nf {b : Bool} (h : b = false) : (!b) = true := by rw [h]; rfl

/-- Memory that meets E. -/
def EnvF (E : World → Prop) (A : Facts) : Prop := ∀ w, Sx.Holds w A → E w
theorem EnvF.app {E : World → Prop} {A : Facts} (h : EnvF E A) (L : Facts) : EnvF E (A ++ L) := fun w hw => h w fun q hq => hw q (List.mem_append.2 (.inl hq))
/-- The call gives this value where memory meets E. -/
def DetE (E : World → Prop) (f : FuncId) (args : List Value) (v : Value) : Prop := ∀ A, EnvF E A → Gives Tryd.prog f args A Unit (fun _ => v) (fun _ => [])
theorem Det.E {E : World → Prop} {f : FuncId} {args : List Value} {v : Value} (h : Det Tryd.prog f args v) : DetE E f args v := fun A _ => h A
theorem DetE.of_calls {E : World → Prop} {f : FuncId} {args : List Value} {v : Value} (hE : Enters Tryd.prog f) (h : ∀ w, E w → Calls Tryd.prog f args.toArray w fun e w' => e = .returned v ∧ Below w.heap.size w w') : DetE E f args v :=
  fun _ hA => gives_none hE fun w hw => h w (hA w hw)
theorem DetE.mono {E E' : World → Prop} {f : FuncId} {args : List Value} {v : Value} (h : DetE E f args v) (k : ∀ w, E' w → E w) : DetE E' f args v := fun A hA => h A fun w hw => k w (hA w hw)
theorem Sub.none {L A : Facts} (h : L = []) : Sub L A := by subst h; exact .nil A
/-- A law's call, out of its contract. -/
theorem lawE {E : World → Prop} {f : FuncId} {args : List Value} {v : Value} (hE : Enters Tryd.prog f) {w : World} (hA : ∃ A, EnvF E A ∧ Sx.Holds w A) (h : DetE E f args v) : Calls Tryd.prog f args.toArray w fun e w' => e = .returned v ∧ Below w.heap.size w w' := by
  obtain ⟨A, h1, h2⟩ := hA
  exact (h A h1).calls hE w h2

/-! Bytes. -/
abbrev bs (s : ByteArray) : List UInt8 := s.data.toList
theorem bs_len (s : ByteArray) : (bs s).length = s.size := rfl
theorem bs_eq {s t : ByteArray} (h : bs s = bs t) : s = t := by cases s; cases t; congr 1; exact Array.ext' h
theorem bs_app (s t : ByteArray) : bs (s ++ t) = bs s ++ bs t := by simp [bs]
theorem mk_app (l m : List UInt8) : (⟨l.toArray⟩ ++ ⟨m.toArray⟩ : ByteArray) = ⟨(l ++ m).toArray⟩ := bs_eq (by rw [bs_app])
theorem size_mk (l : List UInt8) : (⟨l.toArray⟩ : ByteArray).size = l.length := rfl
theorem mk_bs (s : ByteArray) : (⟨(bs s).toArray⟩ : ByteArray) = s := bs_eq rfl
theorem byteAt_eq (s : ByteArray) (i : Nat) (h : i < s.size) : byteAt s i = (((bs s)[i]'h).toNat : Int) := by
  unfold byteAt
  rw [ByteArray.getElem?_lt' s i h]
  rfl
theorem take_succ (s : ByteArray) (i : Nat) (h : i < s.size) : (bs s).take (i + 1) = (bs s).take i ++ [(bs s)[i]'h] := by
  rw [List.take_add_one, List.getElem?_eq_getElem h]; rfl
theorem take_all (s : ByteArray) : (bs s).take s.size = bs s := List.take_of_length_le (Nat.le_refl _)
/-- '==' of two strings, as the model has it. -/
theorem seq_eq (s t : ByteArray) : (s.toList == t.toList) = decide (bs s = bs t) := by
  rw [ByteArray.toList_eq, ByteArray.toList_eq]
  by_cases h : s.data.toList = t.data.toList
  · rw [decide_eq_true h]; exact beq_iff_eq.2 h
  · rw [decide_eq_false h]; exact beq_eq_false_iff_ne.2 h
theorem wrap_nat {n : Nat} (h : n < 9223372036854775808) : IntKind.i64.wrap (n : Int) = (n : Int) := by simp [IntKind.wrap, IntKind.bits, IntKind.signed]; omega
theorem wrap_succ {n : Nat} (h : n < 9223372036854775807) : IntKind.i64.wrap ((n : Int) + 1) = ((n + 1 : Nat) : Int) := by simp [IntKind.wrap, IntKind.bits, IntKind.signed]; omega
theorem ix_ok {i n : Nat} (h : i < n) : (0 : Int) ≤ (i : Int) ∧ (i : Int).toNat < n := ⟨Int.natCast_nonneg _, h⟩
theorem lt_of_dec {i n : Nat} (h : decide ((i : Int) < (n : Int)) = true) : i < n := by simpa using h
theorem ge_of_dec {i n : Nat} (h : decide ((i : Int) < (n : Int)) = false) : n ≤ i := by simpa using h
end Go.Proofs.YtkionnggdncncaaDoor

