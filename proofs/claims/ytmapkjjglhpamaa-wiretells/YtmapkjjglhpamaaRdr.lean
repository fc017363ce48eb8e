/-
  The reader of layer 4, a struct in a block of its own: the bits from a place on; a step, a step over a 0, steps, a number.
-/
import Derived.Test.YtmapkjjglhpamaaBack
import Derived.OwnWalkIn
import Derived.Maps.Range
import Derived.Deep.AppendLies
namespace Go.Proofs.Ytmapkjjglhpamaa
open Go.RowKit

/-- The reader lies in block R: it reads the bits l, and has read k. -/
structure Rd (w : World) (R : Nat) (A : Option Addr) (n c : Nat) (l : List Int) (k : Nat) : Prop where
  obj : w.heap[R]? = some (.cells #[.slice A n c, .int .i64 k] 65)
  row : Row .i64 w R A l
  len : l.length = n

section
variable {w w' : World} {R : Nat} {A : Option Addr} {n c : Nat} {l : List Int} {k : Nat}
theorem Rd.lt (h : Rd w R A n c l k) : R < w.heap.size := (Array.getElem?_eq_some_iff.1 h.obj).1
theorem Rd.c0 (h : Rd w R A n c l k) : w.cell? ⟨R, 0, none⟩ = some (.slice A n c) := by simp [World.cell?, h.obj]
theorem Rd.c1 (h : Rd w R A n c l k) : w.cell? ⟨R, 1, none⟩ = some (.int .i64 k) := by simp [World.cell?, h.obj]
theorem Rd.f1 (h : Rd w R A n c l k) : w.frozen? ⟨R, 1, none⟩ = false := by simp [World.frozen?, h.obj]
theorem Rd.row_to (h : Rd w R A n c l k) (g : w.grownBy w' (some R)) : Row .i64 w' R A l :=
  h.row.move fun p hp => g.cell_far p (by have := h.lt; omega) (by simp; omega)
theorem Rd.set (h : Rd w R A n c l k) (j : Nat) : Rd (w.setCell ⟨R, 1, none⟩ (.int .i64 j)) R A n c l j := by
  refine ⟨?_, h.row.move fun p hp => World.cell?_of_block (Below.heap_setCell _ _ _ _ (by simp; omega)), h.len⟩
  have := h.obj
  simp [World.setCell, Array.getElem?_modify, this]
theorem Rd.drewN (h : Rd w R A n c l k) (j : Nat) : Rd (w.drewN j) R A n c l k := ⟨h.obj, h.row.drewN j, h.len⟩
/-- What turns other blocks alone leaves the reader as it is. -/
theorem Rd.to (h : Rd w R A n c l k) (b : Below w.heap.size w w') : Rd w' R A n c l k :=
  ⟨(b.block R h.lt).trans h.obj, h.row.move fun p hp => b.cell (by have := h.lt; omega), h.len⟩
theorem Rd.alloc (h : Rd w R A n c l k) (o : Obj) : Rd (w.alloc o) R A n c l k := h.to ((Below.refl _ _).alloc (Nat.le_refl _) o)
theorem grown_set (w : World) (R : Nat) (v : Value) : w.grownBy (w.setCell ⟨R, 1, none⟩ v) (some R) :=
  ⟨rfl, rfl, rfl, by simp [World.setCell], fun k _ hk => Below.heap_setCell _ _ _ k (fun e => hk (by simp at e; rw [e]))⟩
theorem grown_drewN {row : Option Nat} (j : Nat) (h : w.grownBy w' row) : w.grownBy (w'.drewN j) row := ⟨h.os, h.tape, h.output, h.size, h.block⟩
theorem grown_drewN' {row : Option Nat} (j : Nat) (h : (w.drewN j).grownBy w' row) : w.grownBy w' row := ⟨h.os, h.tape, h.output, h.size, h.block⟩
theorem grown_of_below (row : Option Nat) (b : Below w.heap.size w w') : w.grownBy w' row := ⟨b.os, b.tape, b.output, b.size, fun k hk _ => b.block k hk⟩
theorem below_of_grown {B : Nat} (g : w.grownBy w' (some R)) (hB : B ≤ R) (hs : B ≤ w.heap.size) : Below B w w' := ⟨g.os, g.tape, g.output, g.size, fun k hk => g.block k (by omega) (by simp; omega)⟩
end

/-- The panic with which the reader gives up. -/
def quit (e : Int) : Ending := .panicked [{ v := .iface 40 (.int .i64 e), recovered := false }]

set_option maxRecDepth 100000 in
set_option maxHeartbeats 1000000 in
theorem next_ok (R : Nat) (A : Option Addr) (n c : Nat) (l : List Int) (k : Nat) (x : Int) (hx : l[k]? = some x) (h01 : x = 0 ∨ x = 1) (hm : n ≤ 1000000) (w : World) (h : Rd w R A n c l k) :
    Calls Try.prog 82 #[.pointer (some ⟨R, 0, none⟩)] w fun e w' => e = .returned (.int .i64 x) ∧ Rd w' R A n c l (k + 1) ∧ w.grownBy w' (some R) := by
  have hk : k < l.length := (List.getElem?_eq_some_iff.1 hx).1
  have hl := h.len
  have hkn : k < n := by omega
  have c0 := h.c0
  have c1 := h.c1
  have f1 := h.f1
  obtain ⟨ad, y, rfl, hy, hc⟩ := h.row.get_ hk
  obtain rfl : y = x := by rw [hx] at hy; cases hy; rfl
  have e1 : ((k : Int) == (n : Int)) = false := by simp; omega
  have e2 : (k == n) = false := by simp; omega
  have e3 : ¬ k = n := by omega
  have HL := Lib.hid hl
  have HX := Lib.hid hx
  clear hl hx hy
  have hfin : ∀ j : Nat, Rd ((w.drewN j).setCell ⟨R, 1, none⟩ (.int .i64 (↑k + 1))) R (some ad) n c l (k + 1) ∧ w.grownBy ((w.drewN j).setCell ⟨R, 1, none⟩ (.int .i64 (↑k + 1))) (some R) := fun j =>
    ⟨by have := (h.drewN j).set (k + 1); simpa using this, grown_drewN' j (grown_set _ _ _)⟩
  have Hfin := Lib.hid hfin
  clear hfin
  rcases h01 with rfl | rfl
  · go_enter Try.func82, Try.ntmps82
    go_wp2_with fail
    go_quiet (fail)
    go_wp2_with fail
    go_quiet (fail)
    go_wp2_with fail
    go_ret
    exact ⟨rfl, Hfin.out _⟩
  · go_enter Try.func82, Try.ntmps82
    go_wp2_with fail
    go_quiet (fail)
    go_wp2_with fail
    go_quiet (fail)
    go_wp2_with fail
    go_ret
    exact ⟨rfl, Hfin.out _⟩

set_option maxRecDepth 100000 in
set_option maxHeartbeats 1000000 in
theorem next_short (R : Nat) (A : Option Addr) (n c : Nat) (l : List Int) (w : World) (h : Rd w R A n c l n) :
    Calls Try.prog 82 #[.pointer (some ⟨R, 0, none⟩)] w fun e w' => e = quit 40 ∧ w.grownBy w' (some R) := by
  have c0 := h.c0
  have c1 := h.c1
  have e1 : ((n : Int) == (n : Int)) = true := by simp
  have e2 : (n == n) = true := by simp
  have Hfin := Lib.hid (fun j => grown_drewN j (World.grownBy.refl w (some R)))
  go_enter Try.func82, Try.ntmps82
  go_wp2_with fail
  go_quiet (fail)
  go_wp2_with fail
  exact ⟨rfl, rfl, Hfin.out _⟩

theorem zero_ok (R : Nat) (A : Option Addr) (n c : Nat) (l : List Int) (k : Nat) (hx : l[k]? = some 0) (hm : n ≤ 1000000) (w : World) (h : Rd w R A n c l k) :
    Calls Try.prog 71 #[.pointer (some ⟨R, 0, none⟩)] w fun e w' => e = .returned (.tuple #[]) ∧ Rd w' R A n c l (k + 1) ∧ w.grownBy w' (some R) := by
  have HX := Lib.hid hx
  clear hx
  go_enter Try.func71, Try.ntmps71
  go_wp2_with fail
  refine (next_ok R A n c l k 0 HX.out (.inl rfl) hm w h).mono ?_
  rintro e w' ⟨rfl, hR, hg⟩
  go_wp2_with fail
  go_end0
  exact ⟨rfl, hR, hg⟩
theorem zero_form (R : Nat) (A : Option Addr) (n c : Nat) (l : List Int) (k : Nat) (hx : l[k]? = some 1) (hm : n ≤ 1000000) (w : World) (h : Rd w R A n c l k) :
    Calls Try.prog 71 #[.pointer (some ⟨R, 0, none⟩)] w fun e w' => e = quit 42 ∧ w.grownBy w' (some R) := by
  have HX := Lib.hid hx
  clear hx
  go_enter Try.func71, Try.ntmps71
  go_wp2_with fail
  refine (next_ok R A n c l k 1 HX.out (.inr rfl) hm w h).mono ?_
  rintro e w' ⟨rfl, hR, hg⟩
  go_wp2_with fail
  exact ⟨rfl, rfl, hg⟩
theorem zero_short (R : Nat) (A : Option Addr) (n c : Nat) (l : List Int) (w : World) (h : Rd w R A n c l n) :
    Calls Try.prog 71 #[.pointer (some ⟨R, 0, none⟩)] w fun e w' => e = quit 40 ∧ w.grownBy w' (some R) := by
  go_enter Try.func71, Try.ntmps71
  go_wp2_with fail
  refine (next_short R A n c l w h).mono ?_
  rintro e w' ⟨he, hg⟩
  subst he
  unfold quit
  go_wp2_with fail
  exact ⟨rfl, rfl, hg⟩

theorem Rd.past {w w' : World} {R : Nat} {A : Option Addr} {n c : Nat} {l : List Int} {k g : Nat} (h : Rd w R A n c l k) (hg : w.grownBy w' (some g)) (hb : R < g) : Rd w' R A n c l k :=
  ⟨(hg.block R h.lt (by simp; omega)).trans h.obj, h.row.move fun p hp => hg.cell_far p (by have := h.lt; omega) (by simp; omega), h.len⟩
theorem drop_snoc {l : List Int} {k j : Nat} {x : Int} (hx : l[k + j]? = some x) : (l.drop k).take (j + 1) = (l.drop k).take j ++ [x] := by
  rw [List.take_add_one, List.getElem?_drop, hx]; rfl

set_option maxRecDepth 100000 in
set_option maxHeartbeats 1000000 in
theorem take_ok (R : Nat) (A : Option Addr) (n c : Nat) (l : List Int) (k m : Nat) (hkm : k + m ≤ n) (hr : rightB l = true) (hm : n ≤ 1000000) (w : World) (h : Rd w R A n c l k) :
    Calls Try.prog 75 #[.pointer (some ⟨R, 0, none⟩), .int .i64 m] w fun e w' => ∃ A', e = .returned (.slice A' m m) ∧ Row .i64 w' w'.heap.size A' ((l.drop k).take m) ∧ Rd w' R A n c l (k + m) ∧ w.grownBy w' (some R) := by
  obtain ⟨i0, hi, hz0, hz1, hz2⟩ := info_parts Try.infoInt
  have HR := Lib.hid hr
  clear hr
  go_enter Try.func75, Try.ntmps75
  go_wp2_with (at_make; refine wpList_make_own _ rfl _ _ 25 rfl w.heap.size 3 i0 (.int .i64 0) 1 Try.underlying25 hi hz0 hz1 _ _ _ m rfl rfl rfl (by rw [hz2]; omega) (by unfold maxLen; omega) (Nat.le_refl _) ?_; intro w0 hown0 hgrow0)
  have hR0 : Rd w0 R A n c l k := h.to ((Below.refl _ _).grown hgrow0 (Nat.le_refl _) (fun k h => by cases h))
  have hg0 : w.grownBy w0 (some R) := hgrow0.but _
  have hlt := h.lt
  go_loopw [5, 9] (fun o i wr => ∃ j : Nat, j ≤ m ∧ i = .int .i64 j ∧ o = .slice (some ⟨w.heap.size, 0, none⟩) j m ∧
      wr.ownsRow w.heap.size 3 1 (.slice (some ⟨w.heap.size, 0, none⟩) j m) j (((l.drop k).take j).map (Value.int .i64)) ∧ Rd wr R A n c l (k + j) ∧ w.grownBy wr (some R))
    (fun _ i _ => m - (intOf i).toNat)
  case atStart => exact ⟨0, Nat.zero_le _, rfl, rfl, hown0, hR0, hg0⟩
  case round =>
    clear hown0 hR0 hg0 hgrow0
    obtain ⟨j, hj, rfl, rfl, hown, hRr, hg⟩ := hrel
    by_cases hlt2 : j < m
    · have hkl : k + j < l.length := by rw [h.len]; omega
      obtain ⟨x, hx⟩ : ∃ x, l[k + j]? = some x := ⟨_, List.getElem?_eq_getElem hkl⟩
      have h01 := rightB_at HR.out hx
      have HD := Lib.hid (drop_snoc hx)
      have HX := Lib.hid hx
      have H01 := Lib.hid h01
      clear hx h01
      go_wp2_with fail
      refine (next_ok R A n c l (k + j) x HX.out H01.out hm wr hRr).mono ?_
      rintro e w1 ⟨rfl, hR1, hg1⟩
      have hown1 := hown.kept hg1 (.inr (by simp [Value.ownBlock]; omega))
      have hsz := hg.size
      have hsz1 := hg1.size
      go_wp2_with (at_builtin; refine wpList_append_fits _ rfl _ _ 25 rfl w.heap.size 3 i0 1 Try.underlying25 hi hz1 w.heap.size j m _ rfl (hown1.alloc _) ⟨w1.heap.size, 0, none⟩ 1 1 [.int .i64 x] rfl rfl (cell_one_new _ _ _) (by simp [Value.oneCell']) (by omega) ?_; intro w2 hown2 hgrow2)
      have hR2 := (hR1.alloc _).past hgrow2 hlt
      have hg2 : w.grownBy w2 (some R) := ((hg.trans hg1).trans (World.grownBy_alloc _ _ _)).andThen hgrow2 (fun q e => by cases e; exact .inl (Nat.le_refl _))
      exact ⟨⟨j + 1, by omega, by go_num, rfl, by rw [HD.out, List.map_append]; exact hown2, hR2, hg2⟩, by simp [intOf]; omega⟩
    · obtain rfl : j = m := by omega
      go_wp2
      go_ret
      exact ⟨_, rfl, Row.own hown, hRr, hg⟩

set_option maxRecDepth 100000 in
set_option maxHeartbeats 1000000 in
theorem take_short (R : Nat) (A : Option Addr) (n c : Nat) (l : List Int) (k m : Nat) (hk : k ≤ n) (hkm : n < k + m) (hmm : m ≤ 1000000) (hr : rightB l = true) (hm : n ≤ 1000000) (w : World) (h : Rd w R A n c l k) :
    Calls Try.prog 75 #[.pointer (some ⟨R, 0, none⟩), .int .i64 m] w fun e w' => e = quit 40 ∧ w.grownBy w' (some R) := by
  obtain ⟨i0, hi, hz0, hz1, hz2⟩ := info_parts Try.infoInt
  have HR := Lib.hid hr
  clear hr
  go_enter Try.func75, Try.ntmps75
  go_wp2_with (at_make; refine wpList_make_own _ rfl _ _ 25 rfl w.heap.size 3 i0 (.int .i64 0) 1 Try.underlying25 hi hz0 hz1 _ _ _ m rfl rfl rfl (by rw [hz2]; omega) (by unfold maxLen; omega) (Nat.le_refl _) ?_; intro w0 hown0 hgrow0)
  have hR0 : Rd w0 R A n c l k := h.to ((Below.refl _ _).grown hgrow0 (Nat.le_refl _) (fun k h => by cases h))
  have hg0 : w.grownBy w0 (some R) := hgrow0.but _
  have hlt := h.lt
  go_loopw [5, 9] (fun o i wr => ∃ j : Nat, k + j ≤ n ∧ i = .int .i64 j ∧ o = .slice (some ⟨w.heap.size, 0, none⟩) j m ∧
      wr.ownsRow w.heap.size 3 1 (.slice (some ⟨w.heap.size, 0, none⟩) j m) j (((l.drop k).take j).map (Value.int .i64)) ∧ Rd wr R A n c l (k + j) ∧ w.grownBy wr (some R))
    (fun _ i _ => m - (intOf i).toNat)
  case atStart => exact ⟨0, by omega, rfl, rfl, hown0, hR0, hg0⟩
  case round =>
    clear hown0 hR0 hg0 hgrow0
    obtain ⟨j, hj, rfl, rfl, hown, hRr, hg⟩ := hrel
    have hlt2 : j < m := by omega
    by_cases hlt3 : k + j < n
    · have hkl : k + j < l.length := by rw [h.len]; omega
      obtain ⟨x, hx⟩ : ∃ x, l[k + j]? = some x := ⟨_, List.getElem?_eq_getElem hkl⟩
      have h01 := rightB_at HR.out hx
      have HD := Lib.hid (drop_snoc hx)
      have HX := Lib.hid hx
      have H01 := Lib.hid h01
      clear hx h01
      go_wp2_with fail
      refine (next_ok R A n c l (k + j) x HX.out H01.out hm wr hRr).mono ?_
      rintro e w1 ⟨rfl, hR1, hg1⟩
      have hown1 := hown.kept hg1 (.inr (by simp [Value.ownBlock]; omega))
      have hsz := hg.size
      have hsz1 := hg1.size
      go_wp2_with (at_builtin; refine wpList_append_fits _ rfl _ _ 25 rfl w.heap.size 3 i0 1 Try.underlying25 hi hz1 w.heap.size j m _ rfl (hown1.alloc _) ⟨w1.heap.size, 0, none⟩ 1 1 [.int .i64 x] rfl rfl (cell_one_new _ _ _) (by simp [Value.oneCell']) (by omega) ?_; intro w2 hown2 hgrow2)
      have hR2 := (hR1.alloc _).past hgrow2 hlt
      have hg2 : w.grownBy w2 (some R) := ((hg.trans hg1).trans (World.grownBy_alloc _ _ _)).andThen hgrow2 (fun q e => by cases e; exact .inl (Nat.le_refl _))
      exact ⟨⟨j + 1, by omega, by go_num, rfl, by rw [HD.out, List.map_append]; exact hown2, hR2, hg2⟩, by simp [intOf]; omega⟩
    · obtain rfl : k + j = n := by omega
      go_wp2_with fail
      refine (next_short R A _ c l wr hRr).mono ?_
      rintro e w1 ⟨he, hg1⟩
      subst he
      unfold quit
      go_wp2_with fail
      exact ⟨rfl, rfl, hg.trans hg1⟩

theorem number_ok (R : Nat) (A : Option Addr) (n c : Nat) (l : List Int) (k m : Nat) (hkm : k + m ≤ n) (hmm : m ≤ 32) (hr : rightB l = true) (hm : n ≤ 1000000) (v : Int) (hv : ((numOf ((l.drop k).take m) : Nat) : Int) = v) (w : World) (h : Rd w R A n c l k) :
    Calls Try.prog 73 #[.pointer (some ⟨R, 0, none⟩), .int .i64 m] w fun e w' => e = .returned (.int .i64 v) ∧ Rd w' R A n c l (k + m) ∧ w.grownBy w' (some R) := by
  have HR := Lib.hid hr
  have HV := Lib.hid hv
  clear hr hv
  go_enter Try.func73, Try.ntmps73
  go_wp2_with fail
  refine (take_ok R A n c l k m hkm HR.out hm w h).mono ?_
  rintro e w' ⟨A', rfl, hrow, hR, hg⟩
  have hlen : ((l.drop k).take m).length = m := by simp [h.len]; omega
  have hok : getOk ((l.drop k).take m) = true := by unfold getOk; rw [hlen, rightB_take (rightB_drop HR.out k) m]; simp [hmm]
  have HL := Lib.hid hlen
  have HO := Lib.hid hok
  clear hlen hok
  go_wp2_with fail
  refine (get_yes_at _ m HL.out v HV.out _ _ _ _ hrow HO.out).mono ?_
  rintro e w2 ⟨rfl, rfl⟩
  go_wp2_with fail
  go_ret
  exact ⟨rfl, hR, hg⟩
theorem number_short (R : Nat) (A : Option Addr) (n c : Nat) (l : List Int) (k m : Nat) (hk : k ≤ n) (hkm : n < k + m) (hmm : m ≤ 32) (hr : rightB l = true) (hm : n ≤ 1000000) (w : World) (h : Rd w R A n c l k) :
    Calls Try.prog 73 #[.pointer (some ⟨R, 0, none⟩), .int .i64 m] w fun e w' => e = quit 40 ∧ w.grownBy w' (some R) := by
  have HR := Lib.hid hr
  clear hr
  go_enter Try.func73, Try.ntmps73
  go_wp2_with fail
  refine (take_short R A n c l k m hk hkm (by omega) HR.out hm w h).mono ?_
  rintro e w' ⟨he, hg⟩
  subst he
  unfold quit
  go_wp2_with fail
  exact ⟨rfl, rfl, hg⟩

end Go.Proofs.Ytmapkjjglhpamaa
