/-
  The receiver: a trailing bit; the head (formed).
-/
import Derived.Test.YtmapkjjglhpamaaRcv
import Derived.Test.YtmapkjjglhpamaaReadN
namespace Go.Proofs.Ytmapkjjglhpamaa
open Go.RowKit

theorem ret_int' {k : IntKind} {a b : Int} (h : a = b) : Ending.returned (.int k a) = .returned (.int k b) := by rw [h]
def trailF (t : Nat) (b : Int) : Int := if t ≠ 1 ∧ b ≠ 1 then 3 else 0

set_option maxRecDepth 100000 in
set_option maxHeartbeats 1000000 in
theorem trailing_any (R : Nat) (hv pv : Value) (D : Option Addr) (m c : Nat) (H P : List Int) (n q : Nat) (hd : Nat) (f : Fr) (t : Nat) (w : World) (h : Rc w R hv pv D m c H P n q hd f t) (ht : t < 100) (b : Int) (v : Int) (hvv : trailF t b = v) :
    Calls Try.prog 45 #[.pointer (some ⟨R, 0, none⟩), .int .i64 b] w fun e w' => e = .returned (.int .i64 v) ∧ Rc w' R hv pv D m c H P n q hd f (t + 1) ∧ Below R w w' := by
  have c8 := h.c8
  have f8 := h.fz 8 (by omega)
  have Hf := Lib.hid (h.trail (t + 1))
  clear h
  by_cases h1 : t = 1
  · subst h1
    obtain rfl : v = 0 := by rw [← hvv]; simp [trailF]
    clear hvv
    go_enter Try.func45, Try.ntmps45
    go_wp2_with fail
    go_ret
    exact ⟨rfl, Hf.out⟩
  · have d1 : ((t : Int) != 1) = true := by simp; omega
    by_cases hb : b = 1
    · subst hb
      obtain rfl : v = 0 := by rw [← hvv]; simp [trailF]
      clear hvv h1
      go_enter Try.func45, Try.ntmps45
      go_wp2_with fail
      go_ret
      exact ⟨rfl, Hf.out⟩
    · obtain rfl : v = 3 := by rw [← hvv]; simp [trailF, h1, hb]
      have d2 : (b != 1) = true := by simp [hb]
      clear hvv h1 hb
      go_enter Try.func45, Try.ntmps45
      go_wp2_with fail
      go_ret
      exact ⟨rfl, Hf.out⟩

theorem read_err' {l : List Int} {e : Int} (h : readL l = .error e) : e = 40 ∨ e = 42 ∨ e = 41 := by
  unfold readL at h
  split at h
  · cases h; exact .inl rfl
  split at h
  · cases h; exact .inr (.inl rfl)
  cases hn : namedL l with
  | error e' =>
    rw [hn] at h
    cases h
    unfold namedL at hn
    repeat' split at hn
    all_goals first
      | (cases hn; omega)
      | cases hn
  | ok p =>
    obtain ⟨f, k⟩ := p
    rw [hn] at h
    simp only at h
    unfold tailL at h
    repeat' split at h
    all_goals first
      | (cases h; omega)
      | cases h

/-- What is known of a head: its length, its frame. -/
def hdOf : Except Int (Fr × Nat) → Nat × Fr
  | .ok (f, k) => (k, f)
  | .error _ => (0, Fr.none_)
def formOk : Except Int (Fr × Nat) → Bool
  | .ok _ => true
  | .error e => decide (e = 40)

section
variable {w w' : World} {R : Nat} {hv pv : Value} {D : Option Addr} {m c : Nat} {H P : List Int} {n q : Nat} {hd : Nat} {f : Fr} {t : Nat}
/-- The head and its frame laid down. -/
theorem Rc.known (h : Rc w R hv pv D m c H P n q hd f t) (f' : Fr) (k : Nat) {D' : Option Addr} {m' c' : Nat} (hm : f'.data.length = m') (hc : m' ≤ c') (hr : Row .u8 w w.heap.size D' f'.data) (ha : f'.data = [] ∨ ∃ ad, D' = some ad ∧ R < ad.block ∧ hv.ownBlock ≠ some ad.block ∧ pv.ownBlock ≠ some ad.block) :
    Rc ((((((w.setCell ⟨R, 3, none⟩ (.bool f'.ext)).setCell ⟨R, 4, none⟩ (.int .i64 f'.id)).setCell ⟨R, 5, none⟩ (.bool f'.rem)).setCell ⟨R, 6, none⟩ (.int .i64 f'.len)).setCell ⟨R, 7, none⟩ (.slice D' m' c')).setCell ⟨R, 2, none⟩ (.int .i64 k)) R hv pv D' m' c' H P n q k f' t
      ∧ Below R w ((((((w.setCell ⟨R, 3, none⟩ (.bool f'.ext)).setCell ⟨R, 4, none⟩ (.int .i64 f'.id)).setCell ⟨R, 5, none⟩ (.bool f'.rem)).setCell ⟨R, 6, none⟩ (.int .i64 f'.len)).setCell ⟨R, 7, none⟩ (.slice D' m' c')).setCell ⟨R, 2, none⟩ (.int .i64 k)) := by
  have g2 : w.grownBy ((((((w.setCell ⟨R, 3, none⟩ (.bool f'.ext)).setCell ⟨R, 4, none⟩ (.int .i64 f'.id)).setCell ⟨R, 5, none⟩ (.bool f'.rem)).setCell ⟨R, 6, none⟩ (.int .i64 f'.len)).setCell ⟨R, 7, none⟩ (.slice D' m' c')).setCell ⟨R, 2, none⟩ (.int .i64 k)) (some R) :=
    (((((grown_setAt _ R _ _).trans (grown_setAt _ R _ _)).trans (grown_setAt _ R _ _)).trans (grown_setAt _ R _ _)).trans (grown_setAt _ R _ _)).trans (grown_setAt _ R _ _)
  have ha2 : f'.data = [] ∨ ∃ ad, D' = some ad ∧ some ad.block ≠ some R := ha.imp id fun ⟨ad, e, h1, _⟩ => ⟨ad, e, fun e' => by have := Option.some.inj e'; omega⟩
  refine ⟨⟨?_, h.lH, h.lP, h.oH.kept g2 (own_ne h.oH), h.oP.kept g2 (own_ne h.oP), h.two, data_to hr ha2 g2, hm, hc, ha⟩, below_of_grown g2 (Nat.le_refl _) (Nat.le_of_lt h.lt)⟩
  simp [World.setCell, Array.getElem?_modify, h.obj]
end

set_option maxRecDepth 100000 in
set_option maxHeartbeats 1000000 in
theorem formed_yes (R : Nat) (hv pv : Value) (D : Option Addr) (m c : Nat) (H P : List Int) (n q : Nat) (hd : Nat) (f : Fr) (t : Nat) (w : World) (h : Rc w R hv pv D m c H P n q hd f t) (h0 : 0 < hd) :
    Calls Try.prog 69 #[.pointer (some ⟨R, 0, none⟩)] w fun e w' => e = .returned (.bool true) ∧ w = w' := by
  have c2 := h.c2
  have d1 : decide ((0 : Int) < (hd : Int)) = true := by simp; omega
  clear h
  go_enter Try.func69, Try.ntmps69
  go_wp2_with fail
  go_ret
  exact ⟨rfl, rfl⟩

set_option maxRecDepth 100000 in
set_option maxHeartbeats 1000000 in
theorem formed_no (R : Nat) (hv pv : Value) (D : Option Addr) (m c : Nat) (H P : List Int) (n q : Nat) (f : Fr) (t : Nat) (w : World) (h : Rc w R hv pv D m c H P n q 0 f t) (hr : rightB P = true) (hq : q ≤ 1000000) (ee : Int) (he : readL P = .error ee) (v : Bool) (hvv : decide (ee = 40) = v) :
    Calls Try.prog 69 #[.pointer (some ⟨R, 0, none⟩)] w fun e w' => e = .returned (.bool v) ∧ Below w.heap.size w w' := by
  obtain ⟨A, c', rfl, hc'⟩ := h.pform
  have c1 := h.c1
  have c2 := h.c2
  have hrow := h.prow
  have Hr := Lib.hid hr
  have He := Lib.hid he
  have Hl := Lib.hid h.lP
  have e0 : (ee == 0) = false := by rcases read_err' he with rfl | rfl | rfl <;> rfl
  have e40 : (ee == 40) = v := by rw [← hvv]; by_cases e : ee = 40 <;> simp [e]
  clear h hr he hvv
  go_enter Try.func69, Try.ntmps69
  go_wp2_with fail
  refine (read_any P q Hl.out _ _ _ hrow Hr.out hq).mono ?_
  rw [He.out]
  rintro e w1 ⟨rfl, hB⟩
  go_wp2_with fail
  go_ret
  exact ⟨rfl, hB.alloc hB.size _⟩

set_option maxRecDepth 100000 in
set_option maxHeartbeats 1000000 in
theorem formed_ok (R : Nat) (hv pv : Value) (D : Option Addr) (m c : Nat) (H P : List Int) (n q : Nat) (f : Fr) (t : Nat) (w : World) (h : Rc w R hv pv D m c H P n q 0 f t) (hr : rightB P = true) (hq : q ≤ 1000000) (f' : Fr) (k : Nat) (he : readL P = .ok (f', k)) :
    Calls Try.prog 69 #[.pointer (some ⟨R, 0, none⟩)] w fun e w' => e = .returned (.bool true) ∧ (∃ D' m' c', Rc w' R hv pv D' m' c' H P n q k f' t) ∧ Below R w w' := by
  obtain ⟨A, c', rfl, hc'⟩ := h.pform
  have c1 := h.c1
  have c2 := h.c2
  have hrow := h.prow
  have Hr := Lib.hid hr
  have He := Lib.hid he
  have Hl := Lib.hid h.lP
  have hlt := h.lt
  clear hr he
  go_enter Try.func69, Try.ntmps69
  go_wp2_with fail
  refine (read_new P q Hl.out _ _ _ hrow Hr.out hq).mono ?_
  rw [He.out]
  rintro e w1 ⟨D', m', cd, rfl, hml, hmc, hrd, hnew, hB⟩
  have h1 := h.to hB
  have hsz := hB.size
  have h2 := h1.alloc (.cells #[.bool f'.ext, .int .i64 f'.id, .bool f'.rem, .int .i64 f'.len, .slice D' m' cd] 24)
  have hfin := h2.known f' k hml hmc (hrd.to (below_alloc1 _ _)) (hnew.imp id fun ⟨ad, e, hb⟩ => ⟨ad, e, by omega, fun e2 => by have := (h.oH.lt _ e2).2; omega, fun e2 => by have := (h.oP.lt _ e2).2; omega⟩)
  obtain ⟨W2, hW2⟩ : ∃ W2, w1.alloc (.cells #[.bool f'.ext, .int .i64 f'.id, .bool f'.rem, .int .i64 f'.len, .slice D' m' cd] 24) = W2 := ⟨_, rfl⟩
  have hBW : Below w.heap.size w W2 := by rw [← hW2]; exact hB.alloc hB.size _
  rw [hW2] at hfin h2
  have k0 : W2.cell? ⟨R, 0, none⟩ = some hv := h2.c0
  have k2 := h2.c2
  have z2 := h2.fz 2 (by omega)
  have z3 := h2.fz 3 (by omega)
  have z4 := h2.fz 4 (by omega)
  have z5 := h2.fz 5 (by omega)
  have z6 := h2.fz 6 (by omega)
  have z7 := h2.fz 7 (by omega)
  have k3 : W2.cell? ⟨R, 3, none⟩ = some (.bool f.ext) := by simp [World.cell?, h2.obj]
  have k4 : W2.cell? ⟨R, 4, none⟩ = some (.int .i64 f.id) := by simp [World.cell?, h2.obj]
  have k5 : W2.cell? ⟨R, 5, none⟩ = some (.bool f.rem) := by simp [World.cell?, h2.obj]
  have k6 : W2.cell? ⟨R, 6, none⟩ = some (.int .i64 f.len) := by simp [World.cell?, h2.obj]
  have k7 : W2.cell? ⟨R, 7, none⟩ = some (.slice D m c) := by simp [World.cell?, h2.obj]
  have q0 : W2.heap[w1.heap.size]? = some (.cells #[.bool f'.ext, .int .i64 f'.id, .bool f'.rem, .int .i64 f'.len, .slice D' m' cd] 24) := by rw [← hW2]; exact World.alloc_heap_new _ _
  obtain ⟨⟨y0, y1, y2, y3, y4⟩, -⟩ := cells5 q0
  have Hfin := Lib.hid hfin
  clear h h1 h2 hfin q0 hrd hnew
  go_wp2_with fail
  go_ret
  exact ⟨rfl, ⟨_, _, _, Hfin.out.1⟩, (hBW.mono (by omega)).trans Hfin.out.2⟩

end Go.Proofs.Ytmapkjjglhpamaa
