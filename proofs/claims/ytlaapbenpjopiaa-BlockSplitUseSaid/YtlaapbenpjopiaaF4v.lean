/- ValidParams of layer 14 over this translation: the parameters that eight words determine; arguments of type [8]uint64 and [3]uint64. No conditions. -/
import Derived.Test.YtlaapbenpjopiaaF4p
import Derived.Test.YtlaapbenpjopiaaSxo
import Derived.Test.YtlaapbenpjopiaaOpen
namespace Go.Proofs.Ytlaapbenpjopiaa
open Go.RowKit Sx
set_option maxRecDepth 100000

abbrev A8 (v : Nat → Nat) : Value := .agg #[wd (v 0), wd (v 1), wd (v 2), wd (v 3), wd (v 4), wd (v 5), wd (v 6), wd (v 7)]
abbrev A3 (v : Nat → Nat) : Value := .agg #[wd (v 0), wd (v 1), wd (v 2)]
theorem ad_md {x m c : Nat} (h : c + x % m < 18446744073709551616) : IntKind.u64.wrap ((c : Int) + (x : Int).tmod (m : Int)) = ((c + x % m : Nat) : Int) := wn_add h
theorem sh_1 {s : Nat} (hs : s ≤ 63) : IntKind.u64.wrap (1 * 2 ^ (min ((s : Nat) : Int).toNat 64)) = ((2 ^ s : Nat) : Int) := by
  have h : 2 ^ s ≤ 2 ^ 63 := Nat.pow_le_pow_right (by decide) hs
  exact wn_shl (a := 1) (by omega) (by rw [Nat.one_mul]; exact Nat.mod_eq_of_lt (by omega))
theorem sh_nz {s : Nat} (hs : s ≤ 63) : IntKind.u64.wrap (1 * 2 ^ (min ((s : Nat) : Int).toNat 64)) ≠ 0 := by
  rw [sh_1 hs]
  exact nz_cast (Nat.two_pow_pos s)
theorem sh_md {x s : Nat} (hs : s ≤ 63) : (x : Int).tmod (IntKind.u64.wrap (1 * 2 ^ (min ((s : Nat) : Int).toNat 64))) = ((x % 2 ^ s : Nat) : Int) := by
  rw [sh_1 hs]
  rfl
theorem ad_sh {x s c : Nat} (hs : s ≤ 63) (hc : c ≤ 10) : IntKind.u64.wrap ((c : Int) + (x : Int).tmod (IntKind.u64.wrap (1 * 2 ^ (min ((s : Nat) : Int).toNat 64)))) = ((c + x % 2 ^ s : Nat) : Int) := by
  rw [sh_md hs]
  have := md_le (x := x) hs
  exact wn_add (by omega)
theorem ad_qm (x : Nat) (hx : x < 18446744073709551616) : IntKind.u64.wrap (1 + (IntKind.u64.wrap ((x : Int).tdiv 7)).tmod 100) = ((1 + x / 7 % 100 : Nat) : Int) := by
  have e : IntKind.u64.wrap ((x : Int).tdiv 7) = ((x / 7 : Nat) : Int) := wn_quo (b := 7) hx rfl
  rw [e]
  exact ad_md (c := 1) (m := 100) (by omega)
theorem s40 (x : Nat) : 1 + x % 40 ≤ 63 := by omega
theorem s60 (x : Nat) : 1 + x % 60 ≤ 63 := by omega
theorem s30 (x : Nat) : 10 + x % 30 ≤ 63 := by omega
theorem w0_limb {n : Nat} (h : n < 18446744073709551616) : wd n = .int .u64 (limb n 0) ∧ limb n 1 = 0 ∧ limb n 2 = 0 ∧ limb n 3 = 0 := by
  have e := U_word n h
  have e1 := (Array.mk.inj (Value.agg.inj e))
  have e2 := List.cons.inj e1
  have e3 := List.cons.inj e2.2
  have e4 := List.cons.inj e3.2
  have e5 := List.cons.inj e4.2
  exact ⟨e2.1.symm, (Value.int.inj e3.1).2, (Value.int.inj e4.1).2, (Value.int.inj e5.1).2⟩
theorem val_fin (v : Nat → Nat) {z : Int} (hz : z = ((v 5 % 2 ^ (1 + v 5 % 60) : Nat) : Int)) :
    Value.agg #[wd (1 + v 0 % 2 ^ (1 + v 0 % 40)), .int .u64 ((v 1 : Int).tmod 40), wd (1 + v 2 % 300), wd (1 + v 3 % 2 ^ (1 + v 3 % 60)), .int .u64 0, .int .u64 0, .int .u64 0, wd (1 + v 4 % 2 ^ (10 + v 4 % 30)), .int .u64 z, .int .u64 0, .int .u64 0, .int .u64 0, .int .u64 ((v 6 : Int).tmod 10001), .int .u64 ((v 6 : Int).tmod 5000), .int .u64 0, .int .u64 0, .int .u64 0, wd (1 + v 7 % 2 ^ (1 + v 7 % 40)), wd (1 + v 7 / 7 % 100), wd (gen 11), wd (gen 12)] = PV (valP v) := by
  subst hz
  have h4 := w0_limb (n := valP v 4) (by have := (vp_4 v).2; omega)
  have h6 := w0_limb (n := valP v 6) (by have := vp_6 v; omega)
  have h8 := w0_limb (n := valP v 8) (by have := vp_8 v; omega)
  show _ = Value.agg #[wd (valP v 1), wd (valP v 2), wd (valP v 3), .int .u64 (limb (valP v 4) 0), .int .u64 (limb (valP v 4) 1), .int .u64 (limb (valP v 4) 2), .int .u64 (limb (valP v 4) 3), wd (valP v 5), .int .u64 (limb (valP v 6) 0), .int .u64 (limb (valP v 6) 1), .int .u64 (limb (valP v 6) 2), .int .u64 (limb (valP v 6) 3), wd (valP v 7), .int .u64 (limb (valP v 8) 0), .int .u64 (limb (valP v 8) 1), .int .u64 (limb (valP v 8) 2), .int .u64 (limb (valP v 8) 3), wd (valP v 9), wd (valP v 10), wd (valP v 11), wd (valP v 12)]
  rw [← h4.1, h4.2.1, h4.2.2.1, h4.2.2.2, ← h6.1, h6.2.1, h6.2.2.1, h6.2.2.2, ← h8.1, h8.2.1, h8.2.2.1, h8.2.2.2]
  rfl
def lvW8 : List Leaf := List.replicate 8 (.i .u64)
def lvW3 : List Leaf := List.replicate 3 (.i .u64)
theorem lvW8_ok : leaves Try.prog 3 29 = some lvW8 := by kernel_rfl
theorem lvW3_ok : leaves Try.prog 3 49 = some lvW3 := by kernel_rfl
theorem told_words : ∀ (n : Nat) (cs : List Value), Told (List.replicate n (Leaf.i .u64)) cs → ∃ l : List Nat, l.length = n ∧ (∀ x ∈ l, x < 18446744073709551616) ∧ cs = l.map fun x => wd x
  | 0, cs, h => by obtain rfl := told_nil h; exact ⟨[], rfl, fun _ h => (by cases h), rfl⟩
  | n + 1, cs, h => by
    obtain ⟨z, q, rfl, hw, hq⟩ := told_i h
    obtain ⟨l, hl, hb, rfl⟩ := told_words n q hq
    obtain ⟨z, rfl⟩ := Int.eq_ofNat_of_zero_le (word_of_wf hw).1
    have hz := (word_of_wf hw).2
    refine ⟨z :: l, by rw [List.length_cons, hl], fun x hx => ?_, rfl⟩
    rcases List.mem_cons.1 hx with rfl | hx
    · omega
    · exact hb x hx
theorem getD_w {l : List Nat} (h : ∀ x ∈ l, x < 18446744073709551616) (k : Nat) : l.getD k 0 < 18446744073709551616 := by
  rw [List.getD_eq_getElem?_getD]
  cases e : l[k]? with
  | none => decide
  | some x => exact h x (List.mem_of_getElem? e)
theorem told_a8 {cs : List Value} (h : Told lvW8 cs) : ∃ v : Nat → Nat, (∀ k, v k < 18446744073709551616) ∧ Value.agg cs.toArray = A8 v := by
  obtain ⟨l, hl, hb, rfl⟩ := told_words 8 cs h
  refine ⟨fun k => l.getD k 0, getD_w hb, ?_⟩
  match l, hl with
  | [a0, a1, a2, a3, a4, a5, a6, a7], _ => rfl
theorem told_a3 {cs : List Value} (h : Told lvW3 cs) : ∃ v : Nat → Nat, (∀ k, v k < 18446744073709551616) ∧ Value.agg cs.toArray = A3 v := by
  obtain ⟨l, hl, hb, rfl⟩ := told_words 3 cs h
  refine ⟨fun k => l.getD k 0, getD_w hb, ?_⟩
  match l, hl with
  | [a0, a1, a2], _ => rfl
section
variable {H : Type} {enc : TypeId × Value → H} {W : World} {base : Nat} {sp : Nat → Bool} {held : Bool}
set_option maxRecDepth 100000 in
theorem openA8 {r : Reach} {b : Nat} {v : Value} {d : DataW H} {p : List MemPlace} (hv : Value.okWide Try.prog W r b 29 v) (h : DataW.Trod enc Try.prog W base sp held 29 v d p) : ∃ a : Nat → Nat, (∀ k, a k < 18446744073709551616) ∧ v = A8 a ∧ p = [] := by
  obtain ⟨cs, rfl, ht, rfl⟩ := open_plain lvW8_ok (.inr ⟨_, _, Try.underlying29⟩) hv h
  obtain ⟨a, ha, e⟩ := told_a8 ht
  exact ⟨a, ha, e, rfl⟩
set_option maxRecDepth 100000 in
theorem openA3 {r : Reach} {b : Nat} {v : Value} {d : DataW H} {p : List MemPlace} (hv : Value.okWide Try.prog W r b 49 v) (h : DataW.Trod enc Try.prog W base sp held 49 v d p) : ∃ a : Nat → Nat, (∀ k, a k < 18446744073709551616) ∧ v = A3 a ∧ p = [] := by
  obtain ⟨cs, rfl, ht, rfl⟩ := open_plain lvW3_ok (.inr ⟨_, _, Try.underlying49⟩) hv h
  obtain ⟨a, ha, e⟩ := told_a3 ht
  exact ⟨a, ha, e, rfl⟩
end
theorem good_pontagelaw14_ValidParams : Good Try.prog 6 Try.f6 1 := ⟨Try.func6, by kernel_rfl, by kernel_rfl⟩
set_option maxHeartbeats 1000000 in
theorem p_vp (v : Nat → Nat) (hv : ∀ k, v k < 18446744073709551616) : Det Try.prog 6 [A8 v] (PV (valP v)) :=
  det_of_vc Try.mixed good_pontagelaw14_ValidParams (O := [.reg [(0, det (PV gen))], .gen 2 (Unit) (fun _ => ⟨81, [(1, .p 0 0), (2, .p 1 0), (3, .p 3 0)], [(0, ⟨29, [wd (v 0), wd (v 1), wd (v 2), wd (v 3), wd (v 4), wd (v 5), wd (v 6), wd (v 7)], []⟩), (1, ⟨28, [.int .u64 0, .int .u64 0, .int .u64 0, .int .u64 0, .int .u64 0, .int .u64 0, .int .u64 0, .int .u64 0, .int .u64 0, .int .u64 0, .int .u64 0, .int .u64 0, .int .u64 0, .int .u64 0, .int .u64 0, .int .u64 0, .int .u64 0, .int .u64 0, .int .u64 0, .int .u64 0, .int .u64 0], []⟩), (3, ⟨28, [.int .u64 ((gen 1 : Nat) : Int), .int .u64 ((gen 2 : Nat) : Int), .int .u64 ((gen 3 : Nat) : Int), .int .u64 (limb (gen 4) 0), .int .u64 (limb (gen 4) 1), .int .u64 (limb (gen 4) 2), .int .u64 (limb (gen 4) 3), .int .u64 ((gen 5 : Nat) : Int), .int .u64 (limb (gen 6) 0), .int .u64 (limb (gen 6) 1), .int .u64 (limb (gen 6) 2), .int .u64 (limb (gen 6) 3), .int .u64 ((gen 7 : Nat) : Int), .int .u64 (limb (gen 8) 0), .int .u64 (limb (gen 8) 1), .int .u64 (limb (gen 8) 2), .int .u64 (limb (gen 8) 3), .int .u64 ((gen 9 : Nat) : Int), .int .u64 ((gen 10 : Nat) : Int), .int .u64 ((gen 11 : Nat) : Int), .int .u64 ((gen 12 : Nat) : Int)], []⟩)], 5⟩) (fun _ => []) (fun _ => [.opt 2 [(5, .ld (wd (1 + v 0 % 40))), (8, .ld (wd (1 + v 0 % 2 ^ (1 + v 0 % 40)))), (15, .ld (wd (1 + v 2 % 300)))], .gen 3 (Unit) (fun _ => ⟨81, [(1, .p 0 0), (2, .p 1 0), (3, .p 3 0)], [(0, ⟨29, [wd (v 0), wd (v 1), wd (v 2), wd (v 3), wd (v 4), wd (v 5), wd (v 6), wd (v 7)], []⟩), (1, ⟨28, [.int .u64 0, .int .u64 0, .int .u64 0, .int .u64 0, .int .u64 0, .int .u64 0, .int .u64 0, .int .u64 0, .int .u64 0, .int .u64 0, .int .u64 0, .int .u64 0, .int .u64 0, .int .u64 0, .int .u64 0, .int .u64 0, .int .u64 0, .int .u64 0, .int .u64 0, .int .u64 0, .int .u64 0], []⟩), (3, ⟨28, [wd (1 + v 0 % 2 ^ (1 + v 0 % 40)), .int .u64 ((v 1 : Int).tmod 40), wd (1 + v 2 % 300), .int .u64 (limb (gen 4) 0), .int .u64 (limb (gen 4) 1), .int .u64 (limb (gen 4) 2), .int .u64 (limb (gen 4) 3), .int .u64 ((gen 5 : Nat) : Int), .int .u64 (limb (gen 6) 0), .int .u64 (limb (gen 6) 1), .int .u64 (limb (gen 6) 2), .int .u64 (limb (gen 6) 3), .int .u64 ((gen 7 : Nat) : Int), .int .u64 (limb (gen 8) 0), .int .u64 (limb (gen 8) 1), .int .u64 (limb (gen 8) 2), .int .u64 (limb (gen 8) 3), .int .u64 ((gen 9 : Nat) : Int), .int .u64 ((gen 10 : Nat) : Int), .int .u64 ((gen 11 : Nat) : Int), .int .u64 ((gen 12 : Nat) : Int)], []⟩)], 27⟩) (fun _ => []) (fun _ => [.opt 3 [(5, .ld (wd (1 + v 3 % 60))), (8, .ld (wd (1 + v 3 % 2 ^ (1 + v 3 % 60)))), (15, .ld (wd (10 + v 4 % 30))), (18, .ld (wd (1 + v 4 % 2 ^ (10 + v 4 % 30))))], .gen 4 (Unit) (fun _ => ⟨81, [(1, .p 0 0), (2, .p 1 0), (3, .p 3 0)], [(0, ⟨29, [wd (v 0), wd (v 1), wd (v 2), wd (v 3), wd (v 4), wd (v 5), wd (v 6), wd (v 7)], []⟩), (1, ⟨28, [.int .u64 0, .int .u64 0, .int .u64 0, .int .u64 0, .int .u64 0, .int .u64 0, .int .u64 0, .int .u64 0, .int .u64 0, .int .u64 0, .int .u64 0, .int .u64 0, .int .u64 0, .int .u64 0, .int .u64 0, .int .u64 0, .int .u64 0, .int .u64 0, .int .u64 0, .int .u64 0, .int .u64 0], []⟩), (3, ⟨28, [wd (1 + v 0 % 2 ^ (1 + v 0 % 40)), .int .u64 ((v 1 : Int).tmod 40), wd (1 + v 2 % 300), wd (1 + v 3 % 2 ^ (1 + v 3 % 60)), .int .u64 0, .int .u64 0, .int .u64 0, wd (1 + v 4 % 2 ^ (10 + v 4 % 30)), .int .u64 (limb (gen 6) 0), .int .u64 (limb (gen 6) 1), .int .u64 (limb (gen 6) 2), .int .u64 (limb (gen 6) 3), .int .u64 ((gen 7 : Nat) : Int), .int .u64 (limb (gen 8) 0), .int .u64 (limb (gen 8) 1), .int .u64 (limb (gen 8) 2), .int .u64 (limb (gen 8) 3), .int .u64 ((gen 9 : Nat) : Int), .int .u64 ((gen 10 : Nat) : Int), .int .u64 ((gen 11 : Nat) : Int), .int .u64 ((gen 12 : Nat) : Int)], []⟩)], 50⟩) (fun _ => []) (fun _ => [.opt 4 [(5, .ld (wd (1 + v 5 % 60)))], .gen 5 (Unit) (fun _ => ⟨81, [(1, .p 0 0), (2, .p 1 0), (3, .p 3 0)], [(0, ⟨29, [wd (v 0), wd (v 1), wd (v 2), wd (v 3), wd (v 4), wd (v 5), wd (v 6), wd (v 7)], []⟩), (1, ⟨28, [.int .u64 0, .int .u64 0, .int .u64 0, .int .u64 0, .int .u64 0, .int .u64 0, .int .u64 0, .int .u64 0, .int .u64 0, .int .u64 0, .int .u64 0, .int .u64 0, .int .u64 0, .int .u64 0, .int .u64 0, .int .u64 0, .int .u64 0, .int .u64 0, .int .u64 0, .int .u64 0, .int .u64 0], []⟩), (3, ⟨28, [wd (1 + v 0 % 2 ^ (1 + v 0 % 40)), .int .u64 ((v 1 : Int).tmod 40), wd (1 + v 2 % 300), wd (1 + v 3 % 2 ^ (1 + v 3 % 60)), .int .u64 0, .int .u64 0, .int .u64 0, wd (1 + v 4 % 2 ^ (10 + v 4 % 30)), .int .u64 ((v 5 : Int).tmod (IntKind.u64.wrap (1 * 2 ^ (min ((1 + v 5 % 60 : Nat) : Int).toNat 64)))), .int .u64 0, .int .u64 0, .int .u64 0, .int .u64 ((v 6 : Int).tmod 10001), .int .u64 ((v 6 : Int).tmod 5000), .int .u64 0, .int .u64 0, .int .u64 0, .int .u64 ((gen 9 : Nat) : Int), .int .u64 ((gen 10 : Nat) : Int), .int .u64 ((gen 11 : Nat) : Int), .int .u64 ((gen 12 : Nat) : Int)], []⟩)], 72⟩) (fun _ => []) (fun _ => [.opt 5 [(5, .ld (wd (1 + v 7 % 40))), (8, .ld (wd (1 + v 7 % 2 ^ (1 + v 7 % 40)))), (13, .ld (wd (1 + v 7 / 7 % 100)))], .gen 6 (Unit) (fun _ => ⟨81, [(1, .p 0 0), (2, .p 1 0), (3, .p 3 0)], [(0, ⟨29, [wd (v 0), wd (v 1), wd (v 2), wd (v 3), wd (v 4), wd (v 5), wd (v 6), wd (v 7)], []⟩), (1, ⟨28, [.int .u64 0, .int .u64 0, .int .u64 0, .int .u64 0, .int .u64 0, .int .u64 0, .int .u64 0, .int .u64 0, .int .u64 0, .int .u64 0, .int .u64 0, .int .u64 0, .int .u64 0, .int .u64 0, .int .u64 0, .int .u64 0, .int .u64 0, .int .u64 0, .int .u64 0, .int .u64 0, .int .u64 0], []⟩), (3, ⟨28, [wd (1 + v 0 % 2 ^ (1 + v 0 % 40)), .int .u64 ((v 1 : Int).tmod 40), wd (1 + v 2 % 300), wd (1 + v 3 % 2 ^ (1 + v 3 % 60)), .int .u64 0, .int .u64 0, .int .u64 0, wd (1 + v 4 % 2 ^ (10 + v 4 % 30)), .int .u64 ((v 5 : Int).tmod (IntKind.u64.wrap (1 * 2 ^ (min ((1 + v 5 % 60 : Nat) : Int).toNat 64)))), .int .u64 0, .int .u64 0, .int .u64 0, .int .u64 ((v 6 : Int).tmod 10001), .int .u64 ((v 6 : Int).tmod 5000), .int .u64 0, .int .u64 0, .int .u64 0, wd (1 + v 7 % 2 ^ (1 + v 7 % 40)), wd (1 + v 7 / 7 % 100), .int .u64 ((gen 11 : Nat) : Int), .int .u64 ((gen 12 : Nat) : Int)], []⟩)], 90⟩) (fun _ => []) (fun _ => [.opt 6 [(0, .ld (PV (valP v)))]])])])])])]) fun _ => ⟨p_gen _, fun _ => ⟨⟨(), ⟨rfl, ⟨⟨rfl, rfl, rfl⟩, ⟨rfl, rfl, rfl⟩, ⟨rfl, rfl, rfl⟩, trivial⟩, ⟨⟨rfl, rfl, nofun⟩, ⟨rfl, by kernel_rfl, nofun⟩, ⟨rfl, by kernel_rfl, nofun⟩, trivial⟩⟩, trivial⟩, fun _u => ⟨by decide, ⟨by decide, ⟨⟨by decide, rfl⟩, ⟨wu_add (ad_md (c := 1) (m := 40) (by omega)) _, ⟨ge_cast _, ⟨⟨sh_nz (s40 _), rfl⟩, ⟨wu_add (ad_sh (c := 1) (s40 _) (by decide)) _, ⟨by decide, ⟨⟨by decide, rfl⟩, ⟨by decide, ⟨⟨by decide, rfl⟩, ⟨wu_add (ad_md (c := 1) (m := 300) (by omega)) _, ⟨⟨(), ⟨rfl, ⟨⟨rfl, rfl, rfl⟩, ⟨rfl, rfl, rfl⟩, ⟨rfl, rfl, rfl⟩, trivial⟩, ⟨⟨rfl, rfl, nofun⟩, ⟨rfl, by kernel_rfl, nofun⟩, ⟨rfl, by kernel_rfl, nofun⟩, trivial⟩⟩, trivial⟩, fun _u => ⟨by decide, ⟨by decide, ⟨⟨by decide, rfl⟩, ⟨wu_add (ad_md (c := 1) (m := 60) (by omega)) _, ⟨ge_cast _, ⟨⟨sh_nz (s60 _), rfl⟩, ⟨wu_add (ad_sh (c := 1) (s60 _) (by decide)) _, ⟨by decide, ⟨by decide, ⟨⟨by decide, rfl⟩, ⟨wu_add (ad_md (c := 10) (m := 30) (by omega)) _, ⟨ge_cast _, ⟨⟨sh_nz (s30 _), rfl⟩, ⟨wu_add (ad_sh (c := 1) (s30 _) (by decide)) _, ⟨⟨(), ⟨rfl, ⟨⟨rfl, rfl, rfl⟩, ⟨rfl, rfl, rfl⟩, ⟨rfl, rfl, rfl⟩, trivial⟩, ⟨⟨rfl, rfl, nofun⟩, ⟨rfl, by kernel_rfl, nofun⟩, ⟨rfl, by kernel_rfl, nofun⟩, trivial⟩⟩, trivial⟩, fun _u => ⟨by decide, ⟨by decide, ⟨⟨by decide, rfl⟩, ⟨wu_add (ad_md (c := 1) (m := 60) (by omega)) _, ⟨ge_cast _, ⟨⟨sh_nz (s60 _), rfl⟩, ⟨by decide, ⟨⟨by decide, rfl⟩, ⟨by decide, ⟨⟨by decide, rfl⟩, ⟨⟨(), ⟨rfl, ⟨⟨rfl, rfl, rfl⟩, ⟨rfl, rfl, rfl⟩, ⟨rfl, rfl, rfl⟩, trivial⟩, ⟨⟨rfl, rfl, nofun⟩, ⟨rfl, by kernel_rfl, nofun⟩, ⟨rfl, by kernel_rfl, nofun⟩, trivial⟩⟩, trivial⟩, fun _u => ⟨by decide, ⟨by decide, ⟨⟨by decide, rfl⟩, ⟨wu_add (ad_md (c := 1) (m := 40) (by omega)) _, ⟨ge_cast _, ⟨⟨sh_nz (s40 _), rfl⟩, ⟨wu_add (ad_sh (c := 1) (s40 _) (by decide)) _, ⟨by decide, ⟨⟨by decide, rfl⟩, ⟨⟨by decide, rfl⟩, ⟨wu_add (ad_qm _ (hv 7)) _, ⟨⟨(), ⟨rfl, ⟨⟨rfl, rfl, rfl⟩, ⟨rfl, rfl, rfl⟩, ⟨rfl, rfl, rfl⟩, trivial⟩, ⟨⟨rfl, rfl, nofun⟩, ⟨rfl, by kernel_rfl, nofun⟩, ⟨rfl, by kernel_rfl, nofun⟩, trivial⟩⟩, trivial⟩, fun _u => ⟨congrArg some (val_fin v (sh_md (s60 _))), ⟨(), rfl, nofun⟩⟩⟩⟩⟩⟩⟩⟩⟩⟩⟩⟩⟩⟩⟩⟩⟩⟩⟩⟩⟩⟩⟩⟩⟩⟩⟩⟩⟩⟩⟩⟩⟩⟩⟩⟩⟩⟩⟩⟩⟩⟩⟩⟩⟩⟩⟩⟩⟩⟩⟩⟩⟩⟩⟩
end Go.Proofs.Ytlaapbenpjopiaa

