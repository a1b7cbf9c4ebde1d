/- The sanity check of layer 7 over this translation: it returns true, where the table of round constants holds the round constants. -/
import Derived.Test.YtkbdncbifgicnaaDoorH7f
import Derived.Lib.SlBytesConst
namespace Go.Proofs.YtkbdncbifgicnaaDoor
open Go.RowKit Sx
set_option maxRecDepth 100000

theorem good_pontagelaw7_awake : Good Tryd.prog 9 Tryd.f9 0 := ⟨Tryd.func9, by kernel_rfl, by kernel_rfl⟩
theorem fm_e : hxs (dgF (sha [])) 32 = [101, 51, 98, 48, 99, 52, 52, 50, 57, 56, 102, 99, 49, 99, 49, 52, 57, 97, 102, 98, 102, 52, 99, 56, 57, 57, 54, 102, 98, 57, 50, 52, 50, 55, 97, 101, 52, 49, 101, 52, 54, 52, 57, 98, 57, 51, 52, 99, 97, 52, 57, 53, 57, 57, 49, 98, 55, 56, 53, 50, 98, 56, 53, 53] := by kernel_rfl
theorem fm_abc : hxs (dgF (sha [97, 98, 99])) 32 = [98, 97, 55, 56, 49, 54, 98, 102, 56, 102, 48, 49, 99, 102, 101, 97, 52, 49, 52, 49, 52, 48, 100, 101, 53, 100, 97, 101, 50, 50, 50, 51, 98, 48, 48, 51, 54, 49, 97, 51, 57, 54, 49, 55, 55, 97, 57, 99, 98, 52, 49, 48, 102, 102, 54, 49, 102, 50, 48, 48, 49, 53, 97, 100] := by kernel_rfl
/-- A row of bytes with the run-time's mark behind it. -/
def Byt.rowf (m : Nat) (l : List UInt8) (fr : Nat × Nat) : Byt where
  o := some ⟨m, 0, none⟩
  n := l.length
  cap := l.length
  l := l
  L := [(m, .cells (bcs l).toArray 5 fr)]
  hl := rfl
  hc := Nat.le_refl _
  hs := fun _ => rfl
  h := fun w hw i hi => by
    have h1 := hw _ (List.mem_singleton.2 rfl)
    simp only at h1
    simp only [Option.getD_some, add_none, Nat.zero_add]
    simp only [World.cell?, h1]
    rw [List.getElem?_toArray]
    exact bcs_get hi
theorem rise {A : Facts} {w w' : World} {B : Nat} (h : Sx.Holds w A) (b : Below B w w') (hB : w.heap.size ≤ B) : Sx.Holds w' A := h.grow (b.mono hB)
set_option maxHeartbeats 2000000 in
theorem awake_run {A : Facts} (hA : EnvF RC A) {w : World} (hw : Sx.Holds w A) : Calls Tryd.prog 9 #[] w fun e w' => e = .returned (.bool true) ∧ Below w.heap.size w w' := by
  obtain ⟨X, hX⟩ : ∃ X, X = H8 (dgF (sha [])) := ⟨_, rfl⟩
  obtain ⟨Y, hY⟩ : ∃ Y, Y = H8 (dgF (sha [97, 98, 99])) := ⟨_, rfl⟩
  have cS : Hid (∀ w1, Sx.Holds w1 A → Calls Tryd.prog 10 #[.slice none 0 0] w1 fun e w' => e = .returned X ∧ Below w1.heap.size w1 w') := fun w1 h1 => by
    subst hX
    exact (c_sum Byt.nil (by decide) A hA (Sub.nil _)).calls good_hash_Sum.enters w1 h1
  have cF : Hid (∀ w1, Calls Tryd.prog 17 #[X] w1 fun e w' => e = .returned (.string ⟨#[101, 51, 98, 48, 99, 52, 52, 50, 57, 56, 102, 99, 49, 99, 49, 52, 57, 97, 102, 98, 102, 52, 99, 56, 57, 57, 54, 102, 98, 57, 50, 52, 50, 55, 97, 101, 52, 49, 101, 52, 54, 52, 57, 98, 57, 51, 52, 99, 97, 52, 57, 53, 57, 57, 49, 98, 55, 56, 53, 50, 98, 56, 53, 53]⟩) ∧ Below w1.heap.size w1 w') := fun w1 => by
    subst hX
    have := c_fmt (dgF (sha []))
    rw [fm_e] at this
    exact this.calls good_hash_Format.enters w1
  have cS2 : Hid (∀ w1 m, Sx.Holds w1 A → w1.heap[m]? = some (.cells #[.int .u8 97, .int .u8 98, .int .u8 99] 5 (3, 4)) → Calls Tryd.prog 10 #[.slice (some ⟨m, 0, none⟩) 3 3] w1 fun e w' => e = .returned Y ∧ Below w1.heap.size w1 w') := fun w1 m h1 h2 => by
    subst hY
    have hh : Sx.Holds w1 (A ++ (Byt.rowf m [97, 98, 99] (3, 4)).L) := fun q hq => by
      rcases List.mem_append.1 hq with hq | hq
      · exact h1 q hq
      · rw [List.mem_singleton.1 hq]; exact h2
    exact (c_sum (Byt.rowf m [97, 98, 99] (3, 4)) (show 3 ≤ 100000000000 by decide) _ (hA.app _) (fun q hq => List.mem_append.2 (.inr hq))).calls good_hash_Sum.enters w1 hh
  have cF2 : Hid (∀ w1, Calls Tryd.prog 17 #[Y] w1 fun e w' => e = .returned (.string ⟨#[98, 97, 55, 56, 49, 54, 98, 102, 56, 102, 48, 49, 99, 102, 101, 97, 52, 49, 52, 49, 52, 48, 100, 101, 53, 100, 97, 101, 50, 50, 50, 51, 98, 48, 48, 51, 54, 49, 97, 51, 57, 54, 49, 55, 55, 97, 57, 99, 98, 52, 49, 48, 102, 102, 54, 49, 102, 50, 48, 48, 49, 53, 97, 100]⟩) ∧ Below w1.heap.size w1 w') := fun w1 => by
    subst hY
    have := c_fmt (dgF (sha [97, 98, 99]))
    rw [fm_abc] at this
    exact this.calls good_hash_Format.enters w1
  clear hX hY
  go_enter Tryd.func9, Tryd.ntmps9
  go_wp2_with fail
  refine (cS.out _ hw).mono ?_
  rintro e w1 ⟨rfl, h1⟩
  have b1 := h1
  have a1 := rise hw b1 (Nat.le_refl _)
  go_wp2_with fail
  refine (cF.out _).mono ?_
  rintro e w2 ⟨rfl, h2⟩
  have b2 := chain b1 h2
  have a2 := rise a1 h2 (Nat.le_refl _)
  have hconv := Lib.run_convert_bytes_const (P := Tryd.prog) w2 22 5 #[.int .u8 97, .int .u8 98, .int .u8 99] 3 3 Tryd.underlying22 Tryd.underlying5
  go_wp2_with fail
  refine (cS2.out _ w2.heap.size (rise a2 ((Below.refl w2.heap.size w2).alloc (Nat.le_refl _) _) (Nat.le_refl _)) (by show (w2.heap.push _)[w2.heap.size]? = _; simp)).mono ?_
  rintro e w3 ⟨rfl, h3⟩
  have b3 := chain (b2.alloc b2.size _) h3
  go_wp2_with fail
  refine (cF2.out _).mono ?_
  rintro e w4 ⟨rfl, h4⟩
  have b4 := chain b3 h4
  go_wp2
  go_ret
  exact ⟨rfl, b4⟩
theorem aw7 (A : Facts) (hA : EnvF RC A) : Gives Tryd.prog 9 [] A Unit (fun _ => .bool true) (fun _ => []) :=
  gives_none good_pontagelaw7_awake.enters fun _ hw => awake_run hA hw
end Go.Proofs.YtkbdncbifgicnaaDoor

