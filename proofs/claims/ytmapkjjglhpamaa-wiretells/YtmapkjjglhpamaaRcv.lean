/-
  The receiver of layer 5, a struct in a block of its own, with two rows that it owns; due.
-/
import Derived.Test.YtmapkjjglhpamaaRead
import Derived.Test.YtmapkjjglhpamaaRuns
import Derived.Test.YtmapkjjglhpamaaCrc5
import Derived.Test.YtmapkjjglhpamaaStep
namespace Go.Proofs.Ytmapkjjglhpamaa
open Go.RowKit

/-- Two slices that own no block together. -/
def TwoRows (v v2 : Value) : Prop := ∀ g, v.ownBlock = some g → v2.ownBlock ≠ some g
theorem TwoRows.symm {v v2 : Value} (h : TwoRows v v2) : TwoRows v2 v := fun g e e' => h g e' e
theorem own_low {w : World} {base base' : Nat} {e : TypeId} {size : Nat} {v : Value} {n : Nat} {xs : List Value} (h : w.ownsRow base e size v n xs) (hb : base' ≤ base) : w.ownsRow base' e size v n xs := by
  refine ⟨h.1, ?_⟩
  rcases h.2 with h0 | ⟨g, cap, cur, hv, hg, hrest⟩
  · exact .inl h0
  · exact .inr ⟨g, cap, cur, hv, by omega, hrest⟩
theorem own_kept {w w' : World} {base : Nat} {e : TypeId} {size : Nat} {v v2 : Value} {n : Nat} {xs : List Value} (h : w.ownsRow base e size v2 n xs) (hg : w.grownBy w' v.ownBlock) (ht : TwoRows v v2) : w'.ownsRow base e size v2 n xs := by
  refine h.kept hg ?_
  rcases h.2 with ⟨rfl, _⟩ | ⟨g, cap, cur, rfl, _⟩
  · exact .inl rfl
  · refine .inr fun e' => ?_
    exact ht g (by rw [← e']; rfl) rfl
theorem own_form {w : World} {base : Nat} {e : TypeId} {v : Value} {n : Nat} {xs : List Value} (h : w.ownsRow base e 1 v n xs) : ∃ A c, v = .slice A n c ∧ n ≤ c := by
  rcases h.2 with ⟨rfl, h0⟩ | ⟨g, cap, cur, rfl, _, _, hc, _⟩
  · exact ⟨none, 0, by rw [h0], by omega⟩
  · exact ⟨_, _, rfl, hc⟩

/-- The receiver lies in block R: it has heard H, without the inserted bits P; the head's length, the frame, how many trailing bits. -/
structure Rc (w : World) (R : Nat) (hv pv : Value) (D : Option Addr) (m c : Nat) (H P : List Int) (n q : Nat) (hd : Nat) (f : Fr) (t : Nat) : Prop where
  obj : w.heap[R]? = some (.cells #[hv, pv, .int .i64 hd, .bool f.ext, .int .i64 f.id, .bool f.rem, .int .i64 f.len, .slice D m c, .int .i64 t] 51)
  lH : H.length = n
  lP : P.length = q
  oH : w.ownsRow (R + 1) 3 1 hv n (H.map (Value.int .i64))
  oP : w.ownsRow (R + 1) 3 1 pv q (P.map (Value.int .i64))
  two : TwoRows hv pv
  row : Row .u8 w w.heap.size D f.data
  len : f.data.length = m
  cap : m ≤ c
  apart : f.data = [] ∨ ∃ ad, D = some ad ∧ R < ad.block ∧ hv.ownBlock ≠ some ad.block ∧ pv.ownBlock ≠ some ad.block

section
variable {w w' : World} {R : Nat} {hv pv : Value} {D : Option Addr} {m c : Nat} {H P : List Int} {n q : Nat} {hd : Nat} {f : Fr} {t : Nat}
theorem Rc.lt (h : Rc w R hv pv D m c H P n q hd f t) : R < w.heap.size := (Array.getElem?_eq_some_iff.1 h.obj).1
theorem Rc.c0 (h : Rc w R hv pv D m c H P n q hd f t) : w.cell? ⟨R, 0, none⟩ = some hv := by simp [World.cell?, h.obj]
theorem Rc.c1 (h : Rc w R hv pv D m c H P n q hd f t) : w.cell? ⟨R, 1, none⟩ = some pv := by simp [World.cell?, h.obj]
theorem Rc.c2 (h : Rc w R hv pv D m c H P n q hd f t) : w.cell? ⟨R, 2, none⟩ = some (.int .i64 hd) := by simp [World.cell?, h.obj]
theorem Rc.c8 (h : Rc w R hv pv D m c H P n q hd f t) : w.cell? ⟨R, 8, none⟩ = some (.int .i64 t) := by simp [World.cell?, h.obj]
theorem Rc.fz (h : Rc w R hv pv D m c H P n q hd f t) (i : Nat) (hi : i < 9) : w.frozen? ⟨R, i, none⟩ = false := by
  have : i = 0 ∨ i = 1 ∨ i = 2 ∨ i = 3 ∨ i = 4 ∨ i = 5 ∨ i = 6 ∨ i = 7 ∨ i = 8 := by omega
  rcases this with rfl | rfl | rfl | rfl | rfl | rfl | rfl | rfl | rfl <;> simp [World.frozen?, h.obj]
theorem Rc.hform (h : Rc w R hv pv D m c H P n q hd f t) : ∃ A c', hv = .slice A n c' ∧ n ≤ c' := own_form h.oH
theorem Rc.pform (h : Rc w R hv pv D m c H P n q hd f t) : ∃ A c', pv = .slice A q c' ∧ q ≤ c' := own_form h.oP
theorem Rc.hrow {A : Option Addr} {a c' : Nat} (h : Rc w R (.slice A a c') pv D m c H P n q hd f t) : Row .i64 w w.heap.size A H := Row.own h.oH
theorem Rc.prow {A : Option Addr} {a c' : Nat} (h : Rc w R hv (.slice A a c') D m c H P n q hd f t) : Row .i64 w w.heap.size A P := Row.own h.oP
/-- What makes blocks alone leaves the receiver as it is. -/
theorem Rc.to (h : Rc w R hv pv D m c H P n q hd f t) (b : Below w.heap.size w w') : Rc w' R hv pv D m c H P n q hd f t :=
  ⟨(b.block R h.lt).trans h.obj, h.lH, h.lP, own_to h.oH b, own_to h.oP b, h.two, h.row.to b, h.len, h.cap, h.apart⟩
theorem Rc.alloc (h : Rc w R hv pv D m c H P n q hd f t) (o : Obj) : Rc (w.alloc o) R hv pv D m c H P n q hd f t := h.to ((Below.refl _ _).alloc (Nat.le_refl _) o)
theorem Rc.drewN (h : Rc w R hv pv D m c H P n q hd f t) (j : Nat) : Rc (w.drewN j) R hv pv D m c H P n q hd f t := h.to (below_drewN0 w j)
theorem Rc.drew (h : Rc w R hv pv D m c H P n q hd f t) : Rc w.drew R hv pv D m c H P n q hd f t := h.to (below_drew1 w)
theorem data_to {g : Option Nat} (hr : Row .u8 w w.heap.size D f.data) (ha : f.data = [] ∨ ∃ ad, D = some ad ∧ some ad.block ≠ g) (hg : w.grownBy w' g) : Row .u8 w' w'.heap.size D f.data := by
  rcases hr with e | ⟨ad, e, hlt, hc⟩
  · exact .inl e
  · rcases ha with e' | ⟨ad', e', hne⟩
    · exact .inl e'
    · rw [e] at e'; cases e'
      refine .inr ⟨ad, e, Nat.lt_of_lt_of_le hlt hg.size, fun k x hx => ?_⟩
      rw [World.cell?_of_block (hg.block _ (by rw [addr_block]; exact hlt) (by rw [addr_block]; exact hne))]
      exact hc k x hx
theorem own_ne (h : w.ownsRow (R + 1) 3 1 hv n (H.map (Value.int .i64))) : hv.ownBlock = none ∨ hv.ownBlock ≠ some R := by
  refine .inr fun e => ?_
  have := (h.lt R e).1
  omega
/-- A bit behind what was heard. -/
theorem Rc.hear (h : Rc w R hv pv D m c H P n q hd f t) {w1 : World} {v' : Value} {b : Int} (ho : w1.ownsRow (R + 1) 3 1 v' (n + 1) ((H ++ [b]).map (Value.int .i64))) (hg : w.grownBy w1 hv.ownBlock) (hat : v'.ownBlock = hv.ownBlock ∨ v'.ownBlock = some w.heap.size) :
    Rc (w1.setCell ⟨R, 0, none⟩ v') R v' pv D m c (H ++ [b]) P (n + 1) q hd f t ∧ Below R w (w1.setCell ⟨R, 0, none⟩ v') := by
  have hlt := h.lt
  have g2 := grown_setAt w1 R 0 v'
  have hobj : w1.heap[R]? = _ := (hg.block R hlt (fun e => by have := (h.oH.lt R e.symm).1; omega)).trans h.obj
  have hsz := hg.size
  have ha1 : f.data = [] ∨ ∃ ad, D = some ad ∧ some ad.block ≠ hv.ownBlock := h.apart.imp id fun ⟨ad, e, _, h2, _⟩ => ⟨ad, e, fun e' => h2 e'.symm⟩
  have ha2 : f.data = [] ∨ ∃ ad, D = some ad ∧ some ad.block ≠ some R := h.apart.imp id fun ⟨ad, e, h1, _⟩ => ⟨ad, e, fun e' => by have := Option.some.inj e'; omega⟩
  have r1 := data_to h.row ha1 hg
  have oP1 : w1.ownsRow (R + 1) 3 1 pv q (P.map (Value.int .i64)) := own_kept h.oP hg h.two
  refine ⟨⟨?_, by rw [List.length_append, h.lH]; rfl, h.lP, ho.kept g2 (own_ne ho), oP1.kept g2 (own_ne oP1), ?_, data_to r1 ha2 g2, h.len, h.cap, ?_⟩, ?_⟩
  · simp [World.setCell, Array.getElem?_modify, hobj]
  · intro g e1 e2
    rcases hat with e | e
    · rw [e] at e1; exact h.two g e1 e2
    · rw [e] at e1; cases e1; have := (h.oP.lt _ e2).2; omega
  · rcases h.row with e | ⟨ad, e, hl, _⟩
    · exact .inl e
    · refine h.apart.imp id fun ⟨ad', e', h1, h2, h3⟩ => ⟨ad', e', h1, ?_, h3⟩
      rw [e] at e'; cases e'
      rcases hat with e2 | e2
      · rw [e2]; exact h2
      · rw [e2]; intro e3; have := Option.some.inj e3; omega
  · refine ((Below.refl R w).grown hg (by omega) (fun k e => by have := (h.oH.lt k e).1; omega)).trans ?_
    exact (Below.refl R w1).setCell (Nat.le_refl _) _
/-- A bit behind the plain ones. -/
theorem Rc.keep (h : Rc w R hv pv D m c H P n q hd f t) {w1 : World} {v' : Value} {b : Int} (ho : w1.ownsRow (R + 1) 3 1 v' (q + 1) ((P ++ [b]).map (Value.int .i64))) (hg : w.grownBy w1 pv.ownBlock) (hat : v'.ownBlock = pv.ownBlock ∨ v'.ownBlock = some w.heap.size) :
    Rc (w1.setCell ⟨R, 1, none⟩ v') R hv v' D m c H (P ++ [b]) n (q + 1) hd f t ∧ Below R w (w1.setCell ⟨R, 1, none⟩ v') := by
  have hlt := h.lt
  have g2 := grown_setAt w1 R 1 v'
  have hobj : w1.heap[R]? = _ := (hg.block R hlt (fun e => by have := (h.oP.lt R e.symm).1; omega)).trans h.obj
  have hsz := hg.size
  have ha1 : f.data = [] ∨ ∃ ad, D = some ad ∧ some ad.block ≠ pv.ownBlock := h.apart.imp id fun ⟨ad, e, _, _, h2⟩ => ⟨ad, e, fun e' => h2 e'.symm⟩
  have ha2 : f.data = [] ∨ ∃ ad, D = some ad ∧ some ad.block ≠ some R := h.apart.imp id fun ⟨ad, e, h1, _⟩ => ⟨ad, e, fun e' => by have := Option.some.inj e'; omega⟩
  have r1 := data_to h.row ha1 hg
  have oH1 : w1.ownsRow (R + 1) 3 1 hv n (H.map (Value.int .i64)) := own_kept h.oH hg h.two.symm
  refine ⟨⟨?_, h.lH, by rw [List.length_append, h.lP]; rfl, oH1.kept g2 (own_ne oH1), ho.kept g2 (own_ne ho), ?_, data_to r1 ha2 g2, h.len, h.cap, ?_⟩, ?_⟩
  · simp [World.setCell, Array.getElem?_modify, hobj]
  · intro g e1 e2
    rcases hat with e | e
    · rw [e] at e2; exact h.two g e1 e2
    · rw [e] at e2; cases e2; have := (h.oH.lt _ e1).2; omega
  · rcases h.row with e | ⟨ad, e, hl, _⟩
    · exact .inl e
    · refine h.apart.imp id fun ⟨ad', e', h1, h2, h3⟩ => ⟨ad', e', h1, h2, ?_⟩
      rw [e] at e'; cases e'
      rcases hat with e2 | e2
      · rw [e2]; exact h3
      · rw [e2]; intro e3; have := Option.some.inj e3; omega
  · refine ((Below.refl R w).grown hg (by omega) (fun k e => by have := (h.oP.lt k e).1; omega)).trans ?_
    exact (Below.refl R w1).setCell (Nat.le_refl _) _
/-- One more trailing bit. -/
theorem Rc.trail (h : Rc w R hv pv D m c H P n q hd f t) (u : Nat) :
    Rc (w.setCell ⟨R, 8, none⟩ (.int .i64 u)) R hv pv D m c H P n q hd f u ∧ Below R w (w.setCell ⟨R, 8, none⟩ (.int .i64 u)) := by
  have g2 := grown_setAt w R 8 (.int .i64 (u : Int))
  have ha2 : f.data = [] ∨ ∃ ad, D = some ad ∧ some ad.block ≠ some R := h.apart.imp id fun ⟨ad, e, h1, _⟩ => ⟨ad, e, fun e' => by have := Option.some.inj e'; omega⟩
  refine ⟨⟨?_, h.lH, h.lP, h.oH.kept g2 (own_ne h.oH), h.oP.kept g2 (own_ne h.oP), h.two, data_to h.row ha2 g2, h.len, h.cap, h.apart⟩, (Below.refl R w).setCell (Nat.le_refl _) _⟩
  simp [World.setCell, Array.getElem?_modify, h.obj]
end

/-- Are the last five alike? -/
theorem runs5 (a b c d e : Int) (s : Int × Nat) : (runsL [a, b, c, d, e] = 5) ↔ 5 ≤ ([a, b, c, d, e].foldl tick s).2 := by
  by_cases h1 : b = a <;> by_cases h2 : c = b <;> by_cases h3 : d = c <;> by_cases h4 : e = d <;> by_cases h5 : a = s.1 <;> by_cases h6 : a = 0 <;> simp_all [runsL, runsF, tick] <;> omega
theorem due_runs {H : List Int} {k : Nat} (h : H.length = k + 5) : decide (runsL (H.drop k) = 5) = fiveB H := by
  obtain ⟨a, b, c, d, e, h5⟩ : ∃ a b c d e, H.drop k = [a, b, c, d, e] := by
    have hl : (H.drop k).length = 5 := by simp [h]
    match H.drop k, hl with
    | [a, b, c, d, e], _ => exact ⟨a, b, c, d, e, rfl⟩
  have e1 : H = H.take k ++ [a, b, c, d, e] := by rw [← h5, List.take_append_drop]
  unfold fiveB
  rw [h5]
  have e2 : runOf H = [a, b, c, d, e].foldl tick (runOf (H.take k)) := by
    conv => lhs; rw [e1]
    simp [runOf]
  rw [e2]
  exact decide_eq_decide.2 (runs5 a b c d e _)

theorem runs_at (l : List Int) (n : Nat) (hn : l.length = n) (A : Option Addr) (c : Nat) (hm : n ≤ 100000) (w : World) (hr : Row .i64 w w.heap.size A l) (v : Int) (hv : ((runsL l : Nat) : Int) = v) :
    Calls Try.prog 80 #[.slice A n c] w fun e w' => e = .returned (.int .i64 v) ∧ Below w.heap.size w w' := by
  subst hn hv; exact runs_any l A c hm w hr

set_option maxRecDepth 100000 in
set_option maxHeartbeats 1000000 in
theorem due_any (R : Nat) (hv pv : Value) (D : Option Addr) (m c : Nat) (H P : List Int) (n q : Nat) (hd : Nat) (f : Fr) (t : Nat) (w : World) (h : Rc w R hv pv D m c H P n q hd f t) (hm : n ≤ 100000) (v : Bool) (hvv : fiveB H = v) :
    Calls Try.prog 68 #[.pointer (some ⟨R, 0, none⟩)] w fun e w' => e = .returned (.bool v) ∧ Below w.heap.size w w' := by
  obtain ⟨A, c', rfl, hc'⟩ := h.hform
  have c0 := h.c0
  have hr := h.hrow
  have hl := h.lH
  by_cases h5 : n < 5
  · have hf : v = false := by rw [← hvv]; exact fiveB_short (by omega)
    subst hf
    have d1 : decide ((5 : Int) ≤ (n : Int)) = false := by simp; omega
    clear h h5 hvv
    go_enter Try.func68, Try.ntmps68
    go_wp2_with fail
    go_ret
    exact ⟨rfl, Below.refl _ _⟩
  · obtain ⟨k, rfl⟩ : ∃ k, n = k + 5 := ⟨n - 5, by omega⟩
    have hv5 := due_runs hl
    rw [hvv] at hv5
    obtain ⟨r, hr5⟩ : ∃ r, runsL (H.drop k) = r := ⟨_, rfl⟩
    rw [hr5] at hv5
    have d3 : ((r : Int) == 5) = v := by rw [← hv5]; by_cases e : r = 5 <;> simp [e] <;> omega
    have hl5 : (H.drop k).length = 5 := by simp [hl]
    obtain ⟨ad, rfl⟩ : ∃ ad, A = some ad := by
      obtain ⟨ad, _, e, _⟩ := hr.get_ (k := 0) (by omega)
      exact ⟨ad, e⟩
    have hsub : Row .i64 w w.heap.size (some (ad.add k)) (H.drop k) := by
      have := hr.sub_ k (k + 5) (by omega) (by omega) (A' := some (ad.add k)) (fun _ => rfl)
      rwa [show k + 5 - k = 5 by omega, List.take_of_length_le (by omega)] at this
    have d1 : decide ((0 : Int) ≤ (k : Int) + 5 - 5) = true := by simp
    have Hl5 := Lib.hid hl5
    have Hr5 := Lib.hid (show ((runsL (H.drop k) : Nat) : Int) = (r : Int) by rw [hr5])
    have D3 := Lib.hid d3
    clear h hvv hv5 hl5 hr5 hl d3
    have hkc : k < c' := by omega
    have hkc' : ¬ k = c' := by omega
    go_enter Try.func68, Try.ntmps68
    go_wp2_with fail
    refine (runs_at _ 5 Hl5.out _ _ (by omega) _ hsub r Hr5.out).mono ?_
    rintro e w1 ⟨rfl, hB⟩
    go_wp2_with fail
    go_ret
    exact ⟨ret_bool D3.out, hB⟩

end Go.Proofs.Ytmapkjjglhpamaa
