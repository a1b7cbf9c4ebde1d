/- The laws of layer 6 over this translation, for all arguments, out of their cases: each returns true. No conditions. -/
import Derived.Test.YtfpigcaihmlelaaW6x
import Derived.Test.YtfpigcaihmlelaaEdgd
namespace Go.Proofs.Ytfpigcaihmlelaa
open Go.RowKit Sx

theorem sub_l2 {L M : Facts} : Sub L (L ++ M) := fun _ h => List.mem_append.2 (.inl h)
theorem sub_r2 {L M : Facts} : Sub M (L ++ M) := fun _ h => List.mem_append.2 (.inr h)
theorem holds_app {w : World} {L M : Facts} (h : Sx.Holds w L) (k : Sx.Holds w M) : Sx.Holds w (L ++ M) := fun q hq => (List.mem_append.1 hq).elim (h q) (k q)
theorem append_law (b x : Byt) (n m a : Nat) (s : Bool) (hn : n < B256) (hm : m < 18446744073709551616) (ha : a < B256) {W : World} (hb : Sx.Holds W b.L) (hx : Sx.Holds W x.L) :
    Calls Try.prog 3 #[b.v, U n, .int .u64 (m : Int), x.v, Ic s a] W fun e w' => e = .returned (.bool true) ∧ Below W.heap.size W w' := by
  have hh := holds_app hb hx
  by_cases h0 : b.n ≤ 300
  · by_cases h : x.n ≤ 300
    · exact (ap_s b x n m a s hn hm ha _ sub_l2 sub_r2 h0 h).calls good_pontagelaw6_WireAppend.enters W hh
    · exact (ap_x b x n m a s _ sub_l2 sub_r2 h0 (by omega)).calls good_pontagelaw6_WireAppend.enters W hh
  · exact (ap_b b x n m a s _ sub_l2 sub_r2 (by omega)).calls good_pontagelaw6_WireAppend.enters W hh
theorem read_law (b : Byt) (z : Int) {W : World} (hb : Sx.Holds W b.L) :
    Calls Try.prog 4 #[b.v, .int .i64 z] W fun e w' => e = .returned (.bool true) ∧ Below W.heap.size W w' := by
  by_cases h : b.n ≤ 600
  · exact (rd_short b z _ (.refl _) h).calls good_pontagelaw6_WireRead.enters W hb
  · exact (rd_long b z _ (.refl _) (by omega)).calls good_pontagelaw6_WireRead.enters W hb
theorem round_law (p x q : Byt) (n m a : Nat) (s : Bool) (hn : n < B256) (hm : m < 18446744073709551616) (ha : a < B256) {W : World} (hp : Sx.Holds W p.L) (hx : Sx.Holds W x.L) (hq : Sx.Holds W q.L) :
    Calls Try.prog 5 #[p.v, x.v, q.v, U n, .int .u64 (m : Int), Ic s a] W fun e w' => e = .returned (.bool true) ∧ Below W.heap.size W w' := by
  have hh := holds_app hp (holds_app hx hq)
  have s1 : Sub p.L (p.L ++ (x.L ++ q.L)) := sub_l2
  have s2 : Sub x.L (p.L ++ (x.L ++ q.L)) := fun q h => sub_r2 q (sub_l2 q h)
  have s3 : Sub q.L (p.L ++ (x.L ++ q.L)) := fun q h => sub_r2 q (sub_r2 q h)
  have en := good_pontagelaw6_WireRoundTrip.enters
  by_cases h0 : p.n ≤ 200
  · by_cases h1 : x.n ≤ 200
    · by_cases h2 : q.n ≤ 200
      · cases s with
        | false => exact (rt_f p x q n m a hn hm ha _ s1 s2 s3 h0 h1 h2).calls en W hh
        | true =>
          cases h : isz a with
          | true => exact (rt_z p x q n m a hn hm ha _ s1 s2 s3 h0 h1 h2 h).calls en W hh
          | false => exact (rt_t p x q n m a hn hm ha _ s1 s2 s3 h0 h1 h2 h).calls en W hh
      · exact (rt_q p x q n m a s _ s1 s2 s3 h0 h1 (by omega)).calls en W hh
    · exact (rt_x p x q n m a s _ s1 s2 s3 h0 (by omega)).calls en W hh
  · exact (rt_p p x q n m a s _ s1 s2 s3 (by omega)).calls en W hh
theorem canon_law (b : Byt) (z : Int) {W : World} (hb : Sx.Holds W b.L) :
    Calls Try.prog 6 #[b.v, .int .i64 z] W fun e w' => e = .returned (.bool true) ∧ Below W.heap.size W w' := by
  by_cases h : b.n ≤ 300
  · exact (cn_short b z _ (.refl _) h).calls good_pontagelaw6_WireCanonical.enters W hb
  · exact (cn_long b z _ (.refl _) (by omega)).calls good_pontagelaw6_WireCanonical.enters W hb
theorem malf_law (a b s cut c : Int) (ha : 0 ≤ a ∧ a < 18446744073709551616) (hb : 0 ≤ b ∧ b < 18446744073709551616) (hc : 0 ≤ c ∧ c < 256) {W : World} :
    Calls Try.prog 7 #[.int .u64 a, .int .u64 b, .int .i64 s, .int .i64 cut, .int .u8 c] W fun e w' => e = .returned (.bool true) ∧ Below W.heap.size W w' := by
  obtain ⟨k, rfl⟩ := Int.eq_ofNat_of_zero_le hc.1
  obtain ⟨n, hn, he⟩ := edge_det a b s ha hb
  exact (mf_law a b s cut k n hn (by omega) he []).calls good_pontagelaw6_WireMalformed.enters W fun _ h => by cases h
theorem seq_law (l : Uss) (ah : Byt) {W : World} (hl : Sx.Holds W l.L) (ha : Sx.Holds W ah.L) :
    Calls Try.prog 8 #[l.v, ah.v] W fun e w' => e = .returned (.bool true) ∧ Below W.heap.size W w' := by
  have hh := holds_app hl ha
  by_cases h0 : l.n ≤ 40
  · by_cases h : ah.n ≤ 100
    · exact (sq_s l ah _ sub_l2 sub_r2 h0 h).calls good_pontagelaw6_WireSequences.enters W hh
    · exact (sq_a l ah _ sub_l2 sub_r2 h0 (by omega)).calls good_pontagelaw6_WireSequences.enters W hh
  · exact (sq_l l ah _ sub_l2 sub_r2 (by omega)).calls good_pontagelaw6_WireSequences.enters W hh
end Go.Proofs.Ytfpigcaihmlelaa

