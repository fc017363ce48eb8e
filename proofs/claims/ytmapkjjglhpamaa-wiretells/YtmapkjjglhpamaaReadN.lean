/-
  frame.Read once more: and the data lie in blocks that were not there.
-/
import Derived.Test.YtmapkjjglhpamaaRead
namespace Go.Proofs.Ytmapkjjglhpamaa
open Go.RowKit

def ReadPostN (w : World) : Except Int (Fr × Nat) → Ending → World → Prop
  | .error e, en, w' => en = .returned (.tuple #[.agg #[.bool false, .int .i64 0, .bool false, .int .i64 0, .slice none 0 0], .int .i64 0, .int .i64 e]) ∧ Below w.heap.size w w'
  | .ok (f, k), en, w' => ∃ D m c', en = .returned (.tuple #[.agg #[.bool f.ext, .int .i64 f.id, .bool f.rem, .int .i64 f.len, .slice D m c'], .int .i64 k, .int .i64 0]) ∧ f.data.length = m ∧ m ≤ c' ∧ Row .u8 w' w'.heap.size D f.data ∧ (f.data = [] ∨ ∃ ad, D = some ad ∧ w.heap.size ≤ ad.block) ∧ Below w.heap.size w w'

set_option maxRecDepth 100000 in
set_option maxHeartbeats 2000000 in
theorem read_new (l : List Int) (n : Nat) (hn : l.length = n) (A : Option Addr) (c : Nat) (w : World) (h : Row .i64 w w.heap.size A l) (hr : rightB l = true) (hm : n ≤ 1000000) :
    Calls Try.prog 32 #[.slice A n c] w (ReadPostN w (readL l)) := by
  have hmf : ∀ (fn : Fn) (first cap : Array Value) (w : World), (Instr.makeFunc fn first cap).run Try.prog w = .ok (.func fn first cap) w := fun _ _ _ _ => rfl
  have HR := Lib.hid hr
  have HL := Lib.hid hn
  clear hr hn
  obtain ⟨W0, hW0⟩ : ∃ W0, (((w.alloc (.cells #[.bool false, .int .i64 0, .bool false, .int .i64 0, .slice none 0 0] 24)).alloc (.cells #[.int .i64 0] 3)).alloc (.cells #[.int .i64 0] 40)).alloc (.cells #[.slice A n c, .int .i64 0] 65) = W0 := ⟨_, rfl⟩
  have oF : W0.heap[w.heap.size]? = some (.cells #[.bool false, .int .i64 0, .bool false, .int .i64 0, .slice none 0 0] 24) := by
    rw [← hW0]; exact obj_alloc (obj_alloc (obj_alloc (World.alloc_heap_new _ _) _) _) _
  have oM : W0.heap[w.heap.size + 1]? = some (.cells #[.int .i64 0] 3) := by
    rw [← hW0]; exact obj_alloc (obj_alloc (by have := World.alloc_heap_new (w.alloc (.cells #[.bool false, .int .i64 0, .bool false, .int .i64 0, .slice none 0 0] 24)) (.cells #[.int .i64 0] 3); simpa using this) _) _
  have oE : W0.heap[w.heap.size + 1 + 1]? = some (.cells #[.int .i64 0] 40) := by
    rw [← hW0]; exact obj_alloc (by have := World.alloc_heap_new ((w.alloc (.cells #[.bool false, .int .i64 0, .bool false, .int .i64 0, .slice none 0 0] 24)).alloc (.cells #[.int .i64 0] 3)) (.cells #[.int .i64 0] 40); simpa using this) _
  have hB0 : Below w.heap.size w W0 := by
    rw [← hW0]; exact ((((Below.refl _ w).alloc (Nat.le_refl _) _).alloc (by simp) _).alloc (by simp; omega) _).alloc (by simp; omega) _
  have hRd : Rd W0 (w.heap.size + 1 + 1 + 1) A n c l 0 := by
    refine ⟨?_, (h.below hB0).more (by omega), HL.out⟩
    rw [← hW0]
    have := World.alloc_heap_new (((w.alloc (.cells #[.bool false, .int .i64 0, .bool false, .int .i64 0, .slice none 0 0] 24)).alloc (.cells #[.int .i64 0] 3)).alloc (.cells #[.int .i64 0] 40)) (.cells #[.slice A n c, .int .i64 0] 65)
    simpa using this
  have OF := Lib.hid oF
  have OM := Lib.hid oM
  have OE := Lib.hid oE
  have HW0 := Lib.hid hW0
  clear oF oM oE hW0
  cases hrl : readL l with
  | error ee =>
    have HRl := Lib.hid hrl
    clear hrl
    go_enter_defers Try.func32, Try.ntmps32
    go_wp2_with fail
    rw [HW0.out]
    refine (frame_any _ A n c l HR.out hm W0 hRd).mono ?_
    rw [HRl.out]
    rintro e w1 ⟨he, hg⟩
    subst he
    unfold quit
    have hF1 := obj_to OF.out hg (by omega)
    have hM1 := obj_to OM.out hg (by omega)
    have hE1 := obj_to OE.out hg (by omega)
    have OF1 := Lib.hid hF1
    have OM1 := Lib.hid hM1
    have OE1 := Lib.hid hE1
    clear hF1 hM1 hE1
    go_wp2_with fail
    refine leaves_cons (f := 57) (args := #[.pointer (some ⟨w.heap.size, 0, none⟩), .pointer (some ⟨w.heap.size + 1, 0, none⟩), .pointer (some ⟨w.heap.size + 1 + 1, 0, none⟩)]) (by simp) (by simp [go_sem]) ?_
    refine (catch_quit _ _ _ ee [] _ OF1.out OM1.out OE1.out (by omega) (by omega) (by omega)).mono ?_
    rintro e u' w'' ⟨rfl, rfl, rfl⟩
    simp only [Leaves, settle, List.dropWhile]
    have g5 := set5_grown w1 w.heap.size (.bool false) (.int .i64 0) (.bool false) (.int .i64 0) (.slice none 0 0)
    have o5 := set5_obj OF1.out (.bool false) (.int .i64 0) (.bool false) (.int .i64 0) (.slice none 0 0)
    refine ⟨_, results_3 rfl _ rfl rfl rfl (obj_to (obj_to o5 (grown_setAt _ (w.heap.size + 1) 0 (.int .i64 0)) (by omega)) (grown_setAt _ (w.heap.size + 1 + 1) 0 (.int .i64 ee)) (by omega)) (obj_to (set_1 (obj_to OM1.out g5 (by omega)) _) (grown_setAt _ (w.heap.size + 1 + 1) 0 (.int .i64 ee)) (by omega)) (set_1 (obj_to (obj_to OE1.out g5 (by omega)) (grown_setAt _ (w.heap.size + 1) 0 (.int .i64 0)) (by omega)) _), rfl, ?_⟩
    refine hB0.trans ((below_of_grown hg (by omega) hB0.size).trans ?_)
    have s1 := hg.size
    have s0 := hB0.size
    exact ((below_of_grown g5 (Nat.le_refl _) (by omega)).setCell (p := ⟨w.heap.size + 1, 0, none⟩) (by simp) _).setCell (p := ⟨w.heap.size + 1 + 1, 0, none⟩) (by simp; omega) _
  | ok p =>
    obtain ⟨⟨fx, fi, fr, fl, fd⟩, k⟩ := p
    have HRl := Lib.hid hrl
    clear hrl
    go_enter_defers Try.func32, Try.ntmps32
    go_wp2_with fail
    rw [HW0.out]
    refine (frame_any _ A n c l HR.out hm W0 hRd).mono ?_
    rw [HRl.out]
    rintro e w1 ⟨D, m, c', rfl, hml, hmc, hrow, hDb, hR1, hg⟩
    have hF1 := obj_to OF.out hg (by omega)
    have hM1 := obj_to OM.out hg (by omega)
    have hE1 := obj_to OE.out hg (by omega)
    have OF1 := Lib.hid hF1
    have OM1 := Lib.hid hM1
    have OE1 := Lib.hid hE1
    obtain ⟨⟨c0, c1, c2, c3, c4⟩, f0, f1, f2, f3, f4⟩ := cells5 hF1
    clear hF1 hM1 hE1
    go_wp2_with fail
    obtain ⟨w2, hw2⟩ : ∃ w2, ((((w1.setCell ⟨w.heap.size, 0, none⟩ (.bool fx)).setCell ⟨w.heap.size, 1, none⟩ (.int .i64 fi)).setCell ⟨w.heap.size, 2, none⟩ (.bool fr)).setCell ⟨w.heap.size, 3, none⟩ (.int .i64 fl)).setCell ⟨w.heap.size, 4, none⟩ (.slice D m c') = w2 := ⟨_, rfl⟩
    have g5 : w1.grownBy w2 (some w.heap.size) := by rw [← hw2]; exact set5_grown w1 w.heap.size (.bool fx) (.int .i64 fi) (.bool fr) (.int .i64 fl) (.slice D m c')
    have hF2 : w2.heap[w.heap.size]? = some (.cells #[.bool fx, .int .i64 fi, .bool fr, .int .i64 fl, .slice D m c'] 24) := by
      rw [← hw2]; exact set5_obj OF1.out (.bool fx) (.int .i64 fi) (.bool fr) (.int .i64 fl) (.slice D m c')
    have OF2 := Lib.hid hF2
    clear hF2
    have OM2 := Lib.hid (obj_to OM1.out g5 (by omega))
    have OE2 := Lib.hid (obj_to OE1.out g5 (by omega))
    have OR2 := Lib.hid (obj_to hR1.obj g5 (by omega))
    rw [hw2]
    clear hw2 c0 c1 c2 c3 c4 f0 f1 f2 f3 f4
    obtain ⟨⟨c0, c1, c2, c3, c4⟩, f0, f1, f2, f3, f4⟩ := cells5 OF2.out
    have m0 : w2.cell? ⟨w.heap.size + 1, 0, none⟩ = some (.int .i64 0) := by have := OM2.out; simp [World.cell?, this]
    have m1 : w2.frozen? ⟨w.heap.size + 1, 0, none⟩ = false := by have := OM2.out; simp [World.frozen?, this]
    have x0 : w2.cell? ⟨w.heap.size + 1 + 1, 0, none⟩ = some (.int .i64 0) := by have := OE2.out; simp [World.cell?, this]
    have x1 : w2.frozen? ⟨w.heap.size + 1 + 1, 0, none⟩ = false := by have := OE2.out; simp [World.frozen?, this]
    have r1 : w2.cell? ⟨w.heap.size + 1 + 1 + 1, 1, none⟩ = some (.int .i64 k) := by have := OR2.out; simp [World.cell?, this]
    go_region
    go_wp2_with fail
    obtain ⟨w3, hw3⟩ : ∃ w3, ((((((((w2.setCell ⟨w.heap.size, 0, none⟩ (.bool fx)).setCell ⟨w.heap.size, 1, none⟩ (.int .i64 fi)).setCell ⟨w.heap.size, 2, none⟩ (.bool fr)).setCell ⟨w.heap.size, 3, none⟩ (.int .i64 fl)).setCell ⟨w.heap.size, 4, none⟩ (.slice D m c')).setCell ⟨w.heap.size + 1, 0, none⟩ (.int .i64 k)).setCell ⟨w.heap.size + 1 + 1, 0, none⟩ (.int .i64 0)).drew) = w3 := ⟨_, rfl⟩
    rw [hw3]
    clear c0 c1 c2 c3 c4 f0 f1 f2 f3 f4 m0 m1 x0 x1 r1
    have q5 := set5_grown w2 w.heap.size (.bool fx) (.int .i64 fi) (.bool fr) (.int .i64 fl) (.slice D m c')
    have o5 := set5_obj OF2.out (.bool fx) (.int .i64 fi) (.bool fr) (.int .i64 fl) (.slice D m c')
    obtain ⟨w4, hw4⟩ : ∃ w4, set5 w2 w.heap.size (.bool fx) (.int .i64 fi) (.bool fr) (.int .i64 fl) (.slice D m c') = w4 := ⟨_, rfl⟩
    rw [hw4] at q5 o5
    have hw5 : ((w4.setCell ⟨w.heap.size + 1, 0, none⟩ (.int .i64 k)).setCell ⟨w.heap.size + 1 + 1, 0, none⟩ (.int .i64 0)).drew = w3 := by rw [← hw3, ← hw4]; rfl
    clear hw3 hw4
    have s1 := hg.size
    have s0 := hB0.size
    have s2 := g5.size
    have s4 := q5.size
    have s5 := hRd.lt
    have e1 := grown_setAt w4 (w.heap.size + 1) 0 (.int .i64 k)
    have e2 := grown_setAt (w4.setCell ⟨w.heap.size + 1, 0, none⟩ (.int .i64 k)) (w.heap.size + 1 + 1) 0 (.int .i64 0)
    have hF3 : w3.heap[w.heap.size]? = some (.cells #[.bool fx, .int .i64 fi, .bool fr, .int .i64 fl, .slice D m c'] 24) := by
      rw [← hw5]; have := obj_to (obj_to o5 e1 (by omega)) e2 (by omega); exact this
    have hM3 : w3.heap[w.heap.size + 1]? = some (.cells #[.int .i64 k] 3) := by
      rw [← hw5]; have := obj_to (set_1 (obj_to OM2.out q5 (by omega)) _) e2 (by omega); exact this
    have hE3 : w3.heap[w.heap.size + 1 + 1]? = some (.cells #[.int .i64 0] 40) := by
      rw [← hw5]; exact set_1 (obj_to (obj_to OE2.out q5 (by omega)) e1 (by omega)) _
    have hB3 : Below w.heap.size w2 w3 := by
      rw [← hw5]
      exact Below.drew (((below_of_grown q5 (Nat.le_refl _) (by omega)).setCell (p := ⟨w.heap.size + 1, 0, none⟩) (by simp) _).setCell (p := ⟨w.heap.size + 1 + 1, 0, none⟩) (by simp; omega) _)
    have hD3 : Row .u8 w3 w3.heap.size D fd := by
      refine Row.more (B := w1.heap.size) (row_up hrow hDb fun p hp hp2 => ?_) (by have := hB3.size; omega)
      have a1 := g5.cell_far p hp2 (by simp; omega)
      have a2 := q5.cell_far p (by omega) (by simp; omega)
      refine Eq.trans ?_ (a2.trans a1)
      rw [← hw5]
      show ((w4.setCell ⟨w.heap.size + 1, 0, none⟩ (.int .i64 k)).setCell ⟨w.heap.size + 1 + 1, 0, none⟩ (.int .i64 0)).cell? p = _
      rw [World.cell?_setCell_far _ _ _ _ (by simp; omega), World.cell?_setCell_far _ _ _ _ (by simp; omega)]
    clear hw5 e1 e2
    refine leaves_cons (f := 57) (args := #[.pointer (some ⟨w.heap.size, 0, none⟩), .pointer (some ⟨w.heap.size + 1, 0, none⟩), .pointer (some ⟨w.heap.size + 1 + 1, 0, none⟩)]) (by simp) (by simp [go_sem]) ?_
    refine (catch_idle _ _ _ _).mono ?_
    rintro e u' w'' ⟨rfl, rfl, rfl⟩
    simp only [Leaves, settle]
    refine ⟨_, results_3 rfl _ rfl rfl rfl hF3 hM3 hE3, D, m, c', rfl, hml, hmc, hD3, hDb.imp id fun ⟨ad, e, hb⟩ => ⟨ad, e, by omega⟩, ?_⟩
    exact hB0.trans ((below_of_grown hg (by omega) hB0.size).trans ((below_of_grown g5 (Nat.le_refl _) (by omega)).trans hB3))

end Go.Proofs.Ytmapkjjglhpamaa
