/-
  The bits of a number by an iterator: bits.shifts, its function literal, and bits.Put: walked over the program's own text.
-/
import Derived.RangeFuncBox
import Derived.RangeFuncNested
import Derived.RangeFuncLeaves
import Derived.Shelf.Abstract
import Derived.WalkKit
import Derived.OwnWalkIn
import Derived.TacticsInMore
import Derived.LoopNIn
import Derived.LoopIn
import Derived.Maps.AppendAt
import Derived.Lib.Hide
import Derived.Laws.BitsAllLaws
import Derived.Laws.BitsLemmas
import Derived.Test.YtmapkjjglhpamaaBase
namespace Go.Proofs.Ytmapkjjglhpamaa
open Go.RowKit Go.Shelf

attribute [local go_sem] Oper.semAt_some

theorem bitRow_prefix (n many k : Nat) (h : k ≤ many) : bitRow n many k <+: bitRow n many many := by
  obtain ⟨d, rfl⟩ := Nat.exists_eq_add_of_le h
  refine ⟨(List.range d).map (fun i => bitAt n (k + d) (k + i)), ?_⟩
  simp [bitRow, List.range_add]
/-- The cells at the heads of two blocks are kept. -/
def Kept2 (Bm Bn : Nat) (W W' : World) : Prop := (∀ v, W.cell? ⟨Bm, 0, none⟩ = some v → W'.cell? ⟨Bm, 0, none⟩ = some v) ∧ (∀ v, W.cell? ⟨Bn, 0, none⟩ = some v → W'.cell? ⟨Bn, 0, none⟩ = some v)
theorem Kept2.trans {Bm Bn : Nat} {A B C : World} (h : Kept2 Bm Bn A B) (k : Kept2 Bm Bn B C) : Kept2 Bm Bn A C := ⟨fun v e => k.1 v (h.1 v e), fun v e => k.2 v (h.2 v e)⟩
theorem Kept2.putObj {Bm Bn : Nat} (W : World) (l : Nat) (o o' : Obj) (h : W.heap[l]? = some o) (ho : o.isCells = false) : Kept2 Bm Bn W (W.putObj l o') :=
  ⟨fun _ e => cell_kept e (grownBy_putObj' W l o') (fun r er => by cases er; exact ⟨_, h, ho⟩), fun _ e => cell_kept e (grownBy_putObj' W l o') (fun r er => by cases er; exact ⟨_, h, ho⟩)⟩
theorem Kept2.boxed {Bm Bn : Nat} {W W' : World} {t t' u u' : TypeId} {x y : Value} (h1 : Boxed W Bm t x) (h2 : Boxed W Bn u y) (h3 : Boxed W' Bm t' x) (h4 : Boxed W' Bn u' y) : Kept2 Bm Bn W W' :=
  ⟨fun v e => by rw [h1.cell] at e; rw [h3.cell]; exact e, fun v e => by rw [h2.cell] at e; rw [h4.cell]; exact e⟩

set_option maxRecDepth 100000 in
set_option maxHeartbeats 1000000 in
theorem shifts1_in (F : Fence) (n : Nat) (h6 : F.fn 76) (hro : F.round = none) (hn : 1 ≤ n) (l Bm Bn : Nat) (num many : Nat) (hm : many ≤ 63) (hnum : num < 4611686018427387904) (J Jx : List Int → World → Prop)
    (hY : ∀ pre x W, J pre W → pre.length < many → YieldAt F (n - 1) Try.prog l #[.int .i64 x] W fun e W' =>
      (e = .returned (.bool true) ∧ J (pre ++ [x]) W' ∧ Kept2 Bm Bn W W') ∨ (e = .returned (.bool false) ∧ Jx (pre ++ [x]) W'))
    (W : World) (hcm : W.cell? ⟨Bm, 0, none⟩ = some (.int .i64 many)) (hcn : W.cell? ⟨Bn, 0, none⟩ = some (.int .i64 num)) (h0 : J [] W) :
    CallsIn F n Try.prog 76 #[.func (.yield l) #[] #[], .pointer (some ⟨Bm, 0, none⟩), .pointer (some ⟨Bn, 0, none⟩)] W fun e W' => (∃ v, e = .returned v) ∧
      ((∃ ys, ys = bitRow num many many ∧ J ys W') ∨ (∃ pre, pre <+: bitRow num many many ∧ Jx pre W')) := by
  refine callsIn_of_wp Try.func76 rfl h6 ?_ hro
  simp only [Try.ntmps76, List.size_toArray, List.length_cons, List.length_nil, Nat.reduceAdd, Nat.reduceSub, Array.replicate_succ, Array.replicate_zero, List.push_toArray, List.append_toArray, List.nil_append, List.cons_append]
  gi_wp2
  gi_loopw [4] (fun p wr => ∃ k : Nat, k ≤ many ∧ p = .int .i64 ((many : Int) - 1 - k) ∧ wr.cell? ⟨Bm, 0, none⟩ = some (.int .i64 many) ∧ wr.cell? ⟨Bn, 0, none⟩ = some (.int .i64 num) ∧ J (bitRow num many k) wr)
    (fun p _ => (intOf p + 1).toNat)
  case atStart => exact ⟨0, Nat.zero_le _, by simp, hcm, hcn, h0⟩
  case round =>
    obtain ⟨k, hk, rfl, hm1, hn1, hJ⟩ := hrel
    by_cases hlt : k < many
    · have hb := bits_one num (many - 1 - k) hnum
      have hr : bitRow num many (k + 1) = bitRow num many k ++ [bitAt num many k] := by simp [bitRow, List.range_succ]
      have Hr := Lib.hid hr
      clear hr
      have hx : bits .and .i64 ((num : Int) / 2 ^ (many - 1 - k)) 1 = bitAt num many k := hb
      clear hb
      obtain ⟨fn, tmps, assign, body, hy, hR⟩ := hY (bitRow num many k) (bitAt num many k) wr hJ (by simp [bitRow]; exact hlt)
      gi_wp2
      refine hR.mono ?_
      rintro e W3 (⟨rfl, hJ3, hk3⟩ | ⟨rfl, hJx3⟩)
      · have hm3 : W3.cell? ⟨Bm, 0, none⟩ = some (.int .i64 many) := hk3.1 _ hm1
        have hn3 : W3.cell? ⟨Bn, 0, none⟩ = some (.int .i64 num) := hk3.2 _ hn1
        gi_wp2
        go_roundw
        case rel => exact ⟨k + 1, by omega, by go_num, hm3, hn3, by rw [Hr.out]; exact hJ3⟩
        case measure => simp [intOf]; omega
      · gi_wp2
        refine bodyPost_ret (results_none rfl _ _ _) rfl ?_
        exact ⟨⟨_, rfl⟩, .inr ⟨_, by rw [← Hr.out]; exact bitRow_prefix num many (k + 1) (by omega), hJx3⟩⟩
    · obtain rfl : k = many := by omega
      gi_wp2
      go_end0
      exact ⟨⟨_, rfl⟩, .inl ⟨_, rfl, hJ⟩⟩

set_option maxHeartbeats 1000000 in
theorem shifts_in (F : Fence) (n : Nat) (h5 : F.fn 61) (hro : F.round = none) (num many : Int) (w : World) :
    CallsIn F n Try.prog 61 #[.int .i64 num, .int .i64 many] w fun e w' => e = .returned (.func (.func 76) #[] #[.pointer (some ⟨w.heap.size + 1, 0, none⟩), .pointer (some ⟨w.heap.size, 0, none⟩)]) ∧ w' = (w.alloc (.cells #[.int .i64 num] 3)).alloc (.cells #[.int .i64 many] 3) := by
  refine callsIn_of_wp Try.func61 rfl h5 ?_ hro
  simp only [Try.ntmps61, List.size_toArray, List.length_cons, List.length_nil, Nat.reduceAdd, Nat.reduceSub, Array.replicate_succ, Array.replicate_zero, List.push_toArray, List.append_toArray, List.nil_append, List.cons_append]
  gi_wp2
  go_ret
  exact ⟨rfl, rfl⟩

theorem shifts_stops (F : Fence) (n : Nat) (h6 : F.fn 76) (hro : F.round = none) (hn : 1 ≤ n) (Bm Bn : Nat) (num many : Nat) (hm : many ≤ 63) (hnum : num < 4611686018427387904) (w : World)
    (hbm : Boxed w Bm 3 (.int .i64 many)) (hbn : Boxed w Bn 3 (.int .i64 num)) :
    SeqStopsK F n Try.prog 76 #[.pointer (some ⟨Bm, 0, none⟩), .pointer (some ⟨Bn, 0, none⟩)] (fun x : Int => #[Value.int .i64 x]) (Kept2 Bm Bn) (fun ys => ys = bitRow num many many) (fun pre => pre <+: bitRow num many many) many w := fun l J Jx W hW _ _ hY h0 =>
  shifts1_in F n h6 hro hn l Bm Bn num many hm hnum J Jx hY W ((hW.cell (p := ⟨Bm, 0, none⟩) hbm.lt).trans hbm.cell) ((hW.cell (p := ⟨Bn, 0, none⟩) hbn.lt).trans hbn.cell) h0

/-- Behind 'out = append(out, x)' with room: what the loop's body owes, other boxes too. -/
theorem coll_step {W w1 : World} {n₀ g Bo k m cap : Nat} {t e : TypeId} {v' : Value} {xs ys : List Value} {tmp : Obj}
    (hv : Boxed W Bo t (.slice (some ⟨g, 0, none⟩) k cap)) (hte : t ≠ e) (hrow : W.ownsRow n₀ e 1 (.slice (some ⟨g, 0, none⟩) k cap) k xs) (hn₀ : n₀ ≤ W.heap.size) (hB : n₀ ≤ Bo)
    (hown' : w1.ownsRow n₀ e 1 v' m ys) (hgrow : (W.alloc tmp).grownBy w1 (some g)) :
    Boxed w1 Bo t (.slice (some ⟨g, 0, none⟩) k cap) ∧ Boxed (w1.setCell ⟨Bo, 0, none⟩ v') Bo t v' ∧ (w1.setCell ⟨Bo, 0, none⟩ v').ownsRow n₀ e 1 v' m ys ∧ KeepsOthers W (w1.setCell ⟨Bo, 0, none⟩ v') ∧ Below n₀ W (w1.setCell ⟨Bo, 0, none⟩ v') ∧
      ∀ B u tu, Boxed W B tu u → B ≠ g → B ≠ Bo → Boxed (w1.setCell ⟨Bo, 0, none⟩ v') B tu u := by
  obtain ⟨a1, a2, a3, a4, a5⟩ := hv.appended hte hrow hn₀ hB hown' hgrow
  refine ⟨a1, a2, a3, a4, a5, fun B u tu hb h1 h2 => ?_⟩
  exact ((hb.alloc tmp).kept hgrow (fun e => h1 (by cases e; rfl))).other h2 v'

end Go.Proofs.Ytmapkjjglhpamaa
