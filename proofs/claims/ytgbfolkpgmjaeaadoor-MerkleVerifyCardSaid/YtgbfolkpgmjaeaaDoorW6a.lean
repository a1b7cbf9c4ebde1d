/- Package wire over this translation, and what it takes from the library: what its functions write. No conditions. -/
import Derived.Test.YtgbfolkpgmjaeaaDoorW6r
import Derived.Test.YtgbfolkpgmjaeaaDoorW6m
import Derived.Test.YtgbfolkpgmjaeaaDoorW6b
namespace Go.Proofs.YtgbfolkpgmjaeaaDoor
open Go.RowKit Sx
set_option maxRecDepth 100000

theorem good_slices_Concat : Good Tryd.prog 35 Tryd.f35 1 := ⟨Tryd.func35, by kernel_rfl, by kernel_rfl⟩
theorem good_slices_Grow : Good Tryd.prog 42 Tryd.f42 2 := ⟨Tryd.func42, by kernel_rfl, by kernel_rfl⟩
theorem en_fin {n i : Nat} (m : Nat) (h : decide ((i : Int) < (nb n : Int)) = false) (hi : i ≤ nb n) : ∃ x : Nat, Sx.one [.slice (some ⟨m, 0, none⟩) (1 + nb n) (1 + nb n)] = (Byt.row x (enc n)).v ∧ ∀ q ∈ (Byt.row x (enc n)).L, q ∈ (m, Obj.cells (bcs (encP n i)).toArray 5) :: ([] ++ ([] : Facts)) := by
  have := lt_f h
  obtain rfl : i = nb n := by omega
  refine ⟨m, ?_, fun q hq => ?_⟩
  · show Value.slice (some ⟨m, 0, none⟩) (1 + nb n) (1 + nb n) = .slice (some ⟨m, 0, none⟩) (enc n).length (enc n).length
    rw [enc_length]
  · rw [encP_all]; rw [List.mem_singleton.1 hq]; exact List.mem_cons_self

theorem grow_n {n : Nat} (h : n ≤ 1099511627776) : IntKind.i64.wrap ((n : Int) - IntKind.i64.wrap (0 - 0)) = (n : Int) := by
  rw [show IntKind.i64.wrap (0 - 0) = 0 from rfl, Int.sub_zero, wrap_nat (by omega)]
theorem gt_z {n : Nat} (h : 0 < n) : decide ((n : Int) > 0) = true := by apply decide_eq_true; omega
theorem subO_0 (m cap : Nat) : subO (some ⟨m, 0, none⟩) cap 0 1 = some ⟨m, 0, none⟩ := by unfold subO; split <;> rfl

theorem c_grow0 (n : Nat) (A : Facts) (hn : n ≤ 1099511627776) (h : n = 0) : GivesA Tryd.prog 42 [.slice none 0 0, .int .i64 (n : Int)] A Unit 5 1 (fun _ => []) :=
  givesA_of_vcF Tryd.mixed good_slices_Grow (args := [(.slice none 0 0, []), (.int .i64 (n : Int), [])]) (B := []) (O := [.no, .opt 3 [(2, .ld (.int .i64 0)), (6, .ld (.int .i64 (n : Int)))], .no]) (.app (.nil _) (.app (.nil _) (.app (.nil _) (.nil _)))) (⟨(lt_0 n), ⟨ld_cap _, ⟨ld_sub (grow_n hn) _, ⟨(le_0 h), ⟨(), rfl⟩⟩⟩⟩⟩)
theorem c_grow1 (n : Nat) (A : Facts) (hn : n ≤ 1099511627776) (h : 0 < n) : Gives Tryd.prog 42 [.slice none 0 0, .int .i64 (n : Int)] A (Nat × List Value) (fun q => .slice (some ⟨q.1, 0, none⟩) 0 q.2.length) (fun q => [(q.1, .cells q.2.toArray 5)]) :=
  gives_of_vcF Tryd.mixed good_slices_Grow (args := [(.slice none 0 0, []), (.int .i64 (n : Int), [])]) (B := []) (O := [.no, .opt 3 [(2, .ld (.int .i64 0)), (6, .ld (.int .i64 (n : Int)))], .yes, .opt 5 [(2, .ld (.int .i64 0)), (5, .call (Nat × List Value) (0, []) (fun q => .slice (some ⟨q.1, 0, none⟩) n q.2.length) (fun q => [(q.1, .cells q.2.toArray 5)]))]]) (.app (.nil _) (.app (.nil _) (.app (.nil _) (.nil _)))) (⟨(lt_0 n), ⟨ld_cap _, ⟨ld_sub (grow_n hn) _, ⟨(gt_z h), ⟨ld_cap _, ⟨⟨by decide, by decide, by decide⟩, ⟨give_zeros h hn _, fun q => ⟨⟨by decide, by decide, by omega⟩, ⟨q, by show Value.slice (subO (some ⟨q.1, 0, none⟩) q.2.length 0 1) 0 (q.2.length - 0) = _; rw [subO_0]; rfl, fun z hz => List.mem_append.2 (.inl hz)⟩⟩⟩⟩⟩⟩⟩⟩⟩)
theorem c_grow (n : Nat) (A : Facts) (hn : n ≤ 1099511627776) : GivesA Tryd.prog 42 [.slice none 0 0, .int .i64 (n : Int)] A Unit 5 1 (fun _ => []) := by
  by_cases h : n = 0
  · exact c_grow0 n A hn h
  · intro w hw
    refine (c_grow1 n [] hn (by omega) w (fun _ h => by cases h)).mono fun v w' ⟨q, hv, hL, hF, hb⟩ => ⟨(), .inr ⟨q.1, q.2, 0, q.2.length, ?_, ?_, hv, rfl, by simp⟩, hb⟩
    · rcases hF _ (List.mem_singleton.2 rfl) with h | ⟨_, h, _⟩
      · exact h
      · cases h
    · exact hL _ (List.mem_singleton.2 rfl)

/-- How many bytes the first i of these slices have. -/
def sumN (ys : List Byt) (i : Nat) : Nat := ((ys.take i).map (·.n)).sum
def catL (ys : List Byt) (i : Nat) : List UInt8 := (ys.take i).flatMap (·.l)
theorem take_getD {ys : List Byt} {i : Nat} (h : i < ys.length) : ys.take (i + 1) = ys.take i ++ [ys.getD i Byt.nil] := by
  rw [List.take_add_one]; simp [List.getD, h]
theorem sumN_succ {ys : List Byt} {i : Nat} (h : i < ys.length) : sumN ys (i + 1) = sumN ys i + (ys.getD i Byt.nil).n := by
  unfold sumN; rw [take_getD h]; simp
theorem catL_succ {ys : List Byt} {i : Nat} (h : i < ys.length) : catL ys (i + 1) = catL ys i ++ (ys.getD i Byt.nil).l := by
  unfold catL; rw [take_getD h]; simp
theorem catL_length (ys : List Byt) : ∀ i, (catL ys i).length = sumN ys i := by
  intro i
  unfold catL sumN
  induction ys.take i with
  | nil => rfl
  | cons y r ih => simp [ih, y.hl]
theorem sumN_le (ys : List Byt) (i : Nat) : sumN ys i ≤ sumN ys ys.length := by
  unfold sumN
  rw [List.take_length]
  conv => rhs; rw [← List.take_append_drop i ys, List.map_append, List.sum_append]
  omega
theorem catL_all (ys : List Byt) : catL ys ys.length = ys.flatMap (·.l) := by unfold catL; rw [List.take_length]
/-- The row of these slices, and what they hold. -/
def rowL (m : Nat) (ys : List Byt) : Facts := (m, .cells (ys.map Byt.v).toArray 59) :: ys.flatMap (·.L)
theorem row_load (m : Nat) (ys : List Byt) {j : Int} (i : Nat) (e : j = i) (h : i < ys.length) {A : Facts} (hA : Sub (rowL m ys) A) : ∀ w, Sx.Holds w A → (loadVar 59 ((some (⟨m, 0, none⟩ : Addr)).getD ⟨0, 0, none⟩ |>.add (j.toNat * 1))).run Tryd.prog w = .ok (ys.getD i Byt.nil).v w := by
  intro w hw
  subst e
  have h1 := hw _ (hA _ List.mem_cons_self)
  simp only at h1
  have hc : w.cell? ⟨m, 0 + i, none⟩ = some (ys.getD i Byt.nil).v := by
    simp only [World.cell?, h1]
    rw [List.getElem?_toArray]
    simp [List.getD, h]
  simp only [Option.getD_some, Int.toNat_natCast, Nat.mul_one, add_none]
  simp only [loadVar, Sem.run_bind, Tryd.isAgg59, Result.andThen_ok, Bool.false_eq_true, if_false, run_load, hc]
theorem row_sub {m : Nat} {ys : List Byt} {i : Nat} (h : i < ys.length) : Sub (ys.getD i Byt.nil).L (rowL m ys) := by
  intro q hq
  refine List.mem_cons_of_mem _ (List.mem_flatMap.2 ⟨ys.getD i Byt.nil, ?_, hq⟩)
  simp [List.getD, h]
theorem sum_add {ys : List Byt} {i : Nat} (h : i < ys.length) (hs : sumN ys ys.length ≤ 1099511627776) : IntKind.i64.wrap ((sumN ys i : Int) + ((ys.getD i Byt.nil).n : Int)) = (sumN ys (i + 1) : Int) := by
  have := sumN_le ys (i + 1)
  rw [sumN_succ h] at this ⊢
  rw [show ((sumN ys i : Int) + ((ys.getD i Byt.nil).n : Int)) = ((sumN ys i + (ys.getD i Byt.nil).n : Nat) : Int) by omega, wrap_nat (by omega)]
theorem cat_next {ys : List Byt} {i : Nat} (h : i < ys.length) : bcs (catL ys i) ++ bcs (ys.getD i Byt.nil).l = bcs (catL ys (i + 1)) := by rw [bcs_append, catL_succ h]
theorem cat_fin {ys : List Byt} {i : Nat} (h : decide ((i : Int) < (ys.length : Int)) = false) (hi : i ≤ ys.length) : bcs (catL ys i) = bcs (ys.flatMap (·.l)) := by
  have := lt_f h
  obtain rfl : i = ys.length := by omega
  rw [catL_all]
theorem cat_len {ys : List Byt} {i : Nat} (h : i < ys.length) (hs : sumN ys ys.length ≤ 1099511627776) : (bcs (catL ys i)).length + (bcs (ys.getD i Byt.nil).l).length ≤ 1099511627776 := by
  have := sumN_le ys (i + 1)
  rw [sumN_succ h] at this
  rw [bcs_length, bcs_length, catL_length, (ys.getD i Byt.nil).hl]
  omega

theorem c_concat (m : Nat) (ys : List Byt) (hl : ys.length ≤ 1099511627776) (hs : sumN ys ys.length ≤ 1099511627776) (A : Facts) (hB : Sub (rowL m ys) A) : GivesA Tryd.prog 35 [.slice (some ⟨m, 0, none⟩) ys.length ys.length] A Unit 5 1 (fun _ => bcs (ys.flatMap (·.l))) :=
  givesA_of_vcF Tryd.mixed good_slices_Concat (args := [(.slice (some ⟨m, 0, none⟩) ys.length ys.length, [])]) (B := rowL m ys) (O := [.inv (Upto ys.length) (fun x : Upto ys.length => ⟨36, [(0, .v (.slice (some ⟨m, 0, none⟩) ys.length ys.length) []), (3, .v (.int .i64 (sumN ys x.1 : Int)) []), (9, .v (.slice (some ⟨m, 0, none⟩) ys.length ys.length) []), (10, .v (.int .i64 (ys.length : Int)) []), (11, .v (.int .i64 (x.1 : Int)) [])], [], 10⟩) (fun x => ys.length - x.1) (fun x => [.both [.opt 4 [(1, .ld ((ys.getD x.1 Byt.nil).v))], .opt 5 [(3, .ld (.int .i64 (sumN ys (x.1 + 1) : Int)))], .no] [.reg [(1, .own Unit () 5 1 (fun _ => []))], .inv (Upto ys.length) (fun x : Upto ys.length => ⟨36, [(6, .a 12 1 1), (25, .v (.slice (some ⟨m, 0, none⟩) ys.length ys.length) []), (26, .v (.int .i64 (ys.length : Int)) []), (27, .v (.int .i64 (x.1 : Int)) [])], [(12, ⟨bufT 5 1, bcs (catL ys x.1), []⟩)], 40⟩) (fun x => ys.length - x.1) (fun x => [.both [.opt 12 [(1, .ld ((ys.getD x.1 Byt.nil).v))], .opt 13 [(2, .app (ys.getD x.1 Byt.nil).n (bcs (ys.getD x.1 Byt.nil).l))]] []])]])]) (.app (hB) (.app (.nil _) (.nil _))) (⟨⟨⟨0, Nat.zero_le _⟩, rfl, ⟨⟨rfl, nofun⟩, ⟨rfl, nofun⟩, ⟨rfl, nofun⟩, ⟨rfl, nofun⟩, ⟨rfl, nofun⟩, trivial⟩, trivial⟩, fun x => ⟨fun h => ⟨⟨by omega, Int.ofNat_lt.2 (lt_t h)⟩, ⟨row_load m ys x.1 rfl (lt_t h) (by intro q h; exact List.mem_append.2 (.inl h)), ⟨ld_add (sum_add (lt_t h) hs) _, ⟨(lt_0 _), ⟨⟨x.1 + 1, lt_t h⟩, (by have := lt_t h; show ys.length - (x.1 + 1) < ys.length - x.1; omega), rfl, ⟨⟨rfl, nofun⟩, ⟨rfl, nofun⟩, ⟨rfl, nofun⟩, ⟨rfl, nofun⟩, ⟨congrArg _ (add1 (by have := lt_t h; omega)), nofun⟩, trivial⟩, trivial⟩⟩⟩⟩⟩, fun h => ⟨(c_grow (sumN ys x.1) _ (Nat.le_trans (sumN_le ys x.1) hs)).op rfl rfl, fun _ => ⟨⟨⟨0, Nat.zero_le _⟩, rfl, ⟨⟨rfl, rfl, rfl⟩, ⟨rfl, nofun⟩, ⟨rfl, nofun⟩, ⟨rfl, nofun⟩, trivial⟩, ⟨⟨rfl, rfl⟩, rfl, nofun⟩, trivial⟩, fun x => ⟨fun h => ⟨⟨by omega, Int.ofNat_lt.2 (lt_t h)⟩, ⟨row_load m ys x.1 rfl (lt_t h) (by intro q h; exact List.mem_append.2 (.inl h)), ⟨⟨(ys.getD x.1 Byt.nil).src (fun q h' => List.mem_append.2 (.inl (row_sub (lt_t h) q h'))), cat_len (lt_t h) hs⟩, fun _ => ⟨⟨x.1 + 1, lt_t h⟩, (by have := lt_t h; show ys.length - (x.1 + 1) < ys.length - x.1; omega), rfl, ⟨⟨rfl, rfl, rfl⟩, ⟨rfl, nofun⟩, ⟨rfl, nofun⟩, ⟨congrArg _ (add1 (by have := lt_t h; omega)), nofun⟩, trivial⟩, ⟨⟨rfl, rfl⟩, cat_next (lt_t h), nofun⟩, trivial⟩⟩⟩⟩, fun h => ⟨(), cat_fin h x.2⟩⟩⟩⟩⟩⟩)
theorem nil_l (y : Byt) (h : y.o.isNone = true) : ([] : List Value) = bcs y.l := by
  have h0 : y.n = 0 := by
    rcases Nat.eq_zero_or_pos y.n with h0 | h0
    · exact h0
    · have := y.hs h0; rw [Option.isNone_iff_eq_none.1 h] at this; cases this
  have : y.l = [] := List.length_eq_zero_iff.1 (by rw [y.hl]; exact h0)
  rw [this]; rfl

end Go.Proofs.YtgbfolkpgmjaeaaDoor

