/-
  stuff's closure that keeps the current run, and 'opposite'.
-/
import Derived.Test.YtmapkjjglhpamaaRun
import Derived.RangeFuncBox
import Derived.RangeFuncNested
import Derived.RangeFuncLeaves
import Derived.Shelf.Abstract
import Derived.OwnWalkIn
import Derived.TacticsInMore
import Derived.LoopNIn
import Derived.LoopIn
namespace Go.Proofs.Ytmapkjjglhpamaa
open Go.RowKit Go.Shelf

attribute [local go_sem] Oper.semAt_some

/-- The two boxes of a follower hold the run s. -/
def Run2 (W : World) (B : Nat) (s : Int × Nat) : Prop := Boxed W B 3 (.int .i64 s.1) ∧ Boxed W (B + 1) 3 (.int .i64 s.2)
/-- Nothing but these two boxes has changed. -/
structure Only (B : Nat) (W W' : World) : Prop where
  size : W'.heap.size = W.heap.size
  below : Below B W W'
  block : ∀ k, k ≠ B → k ≠ B + 1 → W'.heap[k]? = W.heap[k]?
theorem Only.refl (B : Nat) (W : World) : Only B W W := ⟨rfl, Below.refl _ _, fun _ _ _ => rfl⟩
theorem Only.trans {B : Nat} {A W W' : World} (h : Only B A W) (k : Only B W W') : Only B A W' := ⟨k.size.trans h.size, h.below.trans k.below, fun i a b => (k.block i a b).trans (h.block i a b)⟩
theorem Only.set0 {B : Nat} (W : World) (v : Value) : Only B W (W.setCell ⟨B, 0, none⟩ v) := ⟨by simp [World.setCell], (Below.refl B W).setCell (p := ⟨B, 0, none⟩) (Nat.le_refl _) v, fun k h _ => Below.heap_setCell _ _ _ _ (by simpa using h)⟩
theorem Only.set1 {B : Nat} (W : World) (v : Value) : Only B W (W.setCell ⟨B + 1, 0, none⟩ v) := ⟨by simp [World.setCell], (Below.refl B W).setCell (p := ⟨B + 1, 0, none⟩) (Nat.le_succ _) v, fun k _ h => Below.heap_setCell _ _ _ _ (by simpa using h)⟩
theorem Only.boxed {B : Nat} {W W' : World} (h : Only B W W') {g : Nat} {t : TypeId} {v : Value} (hb : Boxed W g t v) (h0 : g ≠ B) (h1 : g ≠ B + 1) : Boxed W' g t v := (h.block g h0 h1).trans hb
theorem Only.own {B : Nat} {W W' : World} (h : Only B W W') {base : Nat} {e : TypeId} {size g k cap : Nat} {xs : List Value} (hr : W.ownsRow base e size (.slice (some ⟨g, 0, none⟩) k cap) k xs) (h0 : g ≠ B) (h1 : g ≠ B + 1) : W'.ownsRow base e size (.slice (some ⟨g, 0, none⟩) k cap) k xs := by
  refine ⟨hr.1, ?_⟩
  rcases hr.2 with ⟨e1, _⟩ | ⟨g', cap', cur, hv, hb, hg, hrest⟩
  · cases e1
  · have e2 : g = g' := by cases hv; rfl
    exact .inr ⟨g', cap', cur, hv, hb, (h.block g' (by omega) (by omega)).trans hg, hrest⟩

set_option maxHeartbeats 1000000 in
theorem follow_in (F : Fence) (n : Nat) (hf : F.fn 65) (hro : F.round = none) (w : World) :
    CallsIn F n Try.prog 65 #[] w fun e w' => e = .returned (.func (.func 79) #[] #[.pointer (some ⟨w.heap.size, 0, none⟩), .pointer (some ⟨w.heap.size + 1, 0, none⟩)]) ∧ Run2 w' w.heap.size (0, 0) ∧ Below w.heap.size w w' ∧ w'.heap.size = w.heap.size + 2 := by
  refine callsIn_of_wp Try.func65 rfl hf ?_ hro
  simp only [Try.ntmps65, List.size_toArray, List.length_nil, Nat.reduceSub, Array.replicate_succ, Array.replicate_zero, List.push_toArray, List.append_toArray, List.nil_append, List.cons_append]
  gi_wp2
  go_ret
  have b0 := Boxed.new w 3 (.int .i64 0)
  have b1 := Boxed.new (w.alloc (.cells #[.int .i64 0] 3)) 3 (.int .i64 0)
  simp only [World.size_alloc] at b1
  refine ⟨rfl, ⟨?_, ?_⟩, ?_, ?_⟩
  · first | exact b0.alloc _ | exact ((b0.alloc _).set _).other (by omega) _
  · first | exact b1 | exact (b1.other (by omega) _).set _
  · first | exact ((Below.refl _ _).alloc (Nat.le_refl _) _).alloc (by simp) _ | exact ((((Below.refl _ _).alloc (Nat.le_refl _) _).alloc (by simp) _).setCell (Nat.le_refl _) _).setCell (by simp) _
  · simp

set_option maxHeartbeats 1000000 in
theorem follow1_in (F : Fence) (n : Nat) (hf : F.fn 79) (hro : F.round = none) (W : World) (B : Nat) (s : Int × Nat) (x : Int) (h : Run2 W B s) (hs : s.2 < 4611686018427387904) :
    CallsIn F n Try.prog 79 #[.int .i64 x, .pointer (some ⟨B, 0, none⟩), .pointer (some ⟨B + 1, 0, none⟩)] W fun e w' => e = .returned (.int .i64 (tick s x).2) ∧ Run2 w' B (tick s x) ∧ Only B W w' := by
  obtain ⟨v, m⟩ := s
  obtain ⟨h0, h1⟩ := h
  simp only at h0 h1 hs
  have c0 := h0.cell
  have c1 := h1.cell
  have f0 := h0.frozen
  have f1 := h1.frozen
  by_cases e : x = v
  · subst e
    have ht : tick (x, m) x = (x, m + 1) := tick_same (x, m)
    have HT := Lib.hid ht
    clear ht
    have hw := h1.set (.int .i64 ((m : Int) + 1))
    have cw := hw.cell
    refine callsIn_of_wp Try.func79 rfl hf ?_ hro
    simp only [Try.ntmps79, List.size_toArray, List.length_cons, List.length_nil, Nat.reduceAdd, Nat.reduceSub, Array.replicate_succ, Array.replicate_zero, List.push_toArray, List.append_toArray, List.nil_append, List.cons_append]
    gi_wp2
    go_ret
    rw [HT.out]
    exact ⟨by simp, ⟨h0.other (by omega) _, by simpa using hw⟩, Only.set1 _ _⟩
  · have ht : tick (v, m) x = (x, 1) := tick_other e
    have HT := Lib.hid ht
    clear ht
    have d1 : (x != v) = true := by simp [e]
    have a0 := h0.set (.int .i64 x)
    have a1 := h1.other (show B + 1 ≠ B by omega) (.int .i64 x)
    have b0 := a0.other (show B ≠ B + 1 by omega) (.int .i64 0)
    have b1 := a1.set (.int .i64 0)
    have z0 := b0.other (show B ≠ B + 1 by omega) (.int .i64 1)
    have z1 := b1.set (.int .i64 1)
    have ca1 := a1.cell
    have fa1 := a1.frozen
    have cb1 := b1.cell
    have fb1 := b1.frozen
    have cz1 := z1.cell
    have A0 := Lib.hid a0
    have Z0 := Lib.hid z0
    have Z1 := Lib.hid z1
    clear a0 b0 z0 a1 b1 z1 h0 h1
    refine callsIn_of_wp Try.func79 rfl hf ?_ hro
    simp only [Try.ntmps79, List.size_toArray, List.length_cons, List.length_nil, Nat.reduceAdd, Nat.reduceSub, Array.replicate_succ, Array.replicate_zero, List.push_toArray, List.append_toArray, List.nil_append, List.cons_append]
    gi_wp2
    go_ret
    rw [HT.out]
    exact ⟨rfl, ⟨Z0.out, Z1.out⟩, ((Only.set0 _ _).trans (Only.set1 _ _)).trans (Only.set1 _ _)⟩

theorem follow_any (w : World) :
    Calls Try.prog 65 #[] w fun e w' => e = .returned (.func (.func 79) #[] #[.pointer (some ⟨w.heap.size, 0, none⟩), .pointer (some ⟨w.heap.size + 1, 0, none⟩)]) ∧ Run2 w' w.heap.size (0, 0) ∧ Below w.heap.size w w' ∧ w'.heap.size = w.heap.size + 2 :=
  callsIn_wide.1 (follow_in Fence.wide 3 trivial rfl w)
theorem follow1_any (W : World) (B : Nat) (s : Int × Nat) (x : Int) (h : Run2 W B s) (hs : s.2 < 4611686018427387904) :
    Calls Try.prog 79 #[.int .i64 x, .pointer (some ⟨B, 0, none⟩), .pointer (some ⟨B + 1, 0, none⟩)] W fun e w' => e = .returned (.int .i64 (tick s x).2) ∧ Run2 w' B (tick s x) ∧ Only B W w' :=
  callsIn_wide.1 (follow1_in Fence.wide 3 trivial rfl W B s x h hs)

theorem follow1_at {W : World} {B : Nat} {s : Int × Nat} (x : Int) (m : Nat) (hm : tick s x = (x, m)) (h : Run2 W B s) (hs : s.2 < 4611686018427387904) :
    Calls Try.prog 79 #[.int .i64 x, .pointer (some ⟨B, 0, none⟩), .pointer (some ⟨B + 1, 0, none⟩)] W fun e w' => e = .returned (.int .i64 m) ∧ Run2 w' B (x, m) ∧ Only B W w' := by
  have := follow1_any W B s x h hs
  rw [hm] at this
  exact this

theorem opposite_any (x : Int) (hx : x = 0 ∨ x = 1) (W : World) :
    Calls Try.prog 66 #[.int .i64 x] W fun e w' => e = .returned (.int .i64 (1 - x)) ∧ W = w' := by
  rcases hx with rfl | rfl
  all_goals
    go_enter Try.func66, Try.ntmps66
    go_wp2
    go_ret
    exact ⟨rfl, rfl⟩

end Go.Proofs.Ytmapkjjglhpamaa
