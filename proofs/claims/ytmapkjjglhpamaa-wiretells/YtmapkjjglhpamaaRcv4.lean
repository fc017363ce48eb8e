/-
  The receiver: a bit of the stuffed part. (Written by wip/tools/mk_rcv4.py.)
-/
import Derived.Test.YtmapkjjglhpamaaRcv3
namespace Go.Proofs.Ytmapkjjglhpamaa
open Go.RowKit

def wholeB (H P : List Int) : Bool := decide (0 < (hdOf (readL P)).1) && decide (P.length = (hdOf (readL P)).1 + 15) && !fiveB H
def sumB (P : List Int) : Bool := decide (numOf (P.drop (hdOf (readL P)).1) = (crc15 (P.take (hdOf (readL P)).1)).toNat)
def plainOf (H P : List Int) (b : Int) : List Int := if fiveB H then P else P ++ [b]
def judged (H P : List Int) : Int := if formOk (readL P) then (if wholeB H P && !sumB P then 4 else 0) else 3
def stuffedF (H P : List Int) (b : Int) : Int := if fiveB H ∧ b = (runOf H).1 then 2 else judged (H ++ [b]) (plainOf H P b)

section
variable {w w' : World} {R : Nat} {hv pv : Value} {D : Option Addr} {m c : Nat} {H P : List Int} {n q : Nat} {hd : Nat} {f : Fr} {t : Nat}
theorem Rc.slotH (h : Rc w R hv pv D m c H P n q hd f t) (hg : w.grownBy w' hv.ownBlock) : w'.cell? ⟨R, 0, none⟩ = some hv ∧ w'.frozen? ⟨R, 0, none⟩ = false := by
  have hobj : w'.heap[R]? = _ := (hg.block R h.lt (fun e => by have := (h.oH.lt R e.symm).1; omega)).trans h.obj
  constructor
  · simp [World.cell?, hobj]
  · simp [World.frozen?, hobj]
theorem Rc.slotP (h : Rc w R hv pv D m c H P n q hd f t) (hg : w.grownBy w' pv.ownBlock) : w'.cell? ⟨R, 1, none⟩ = some pv ∧ w'.frozen? ⟨R, 1, none⟩ = false := by
  have hobj : w'.heap[R]? = _ := (hg.block R h.lt (fun e => by have := (h.oP.lt R e.symm).1; omega)).trans h.obj
  constructor
  · simp [World.cell?, hobj]
  · simp [World.frozen?, hobj]
end

theorem formed_at (R : Nat) (hv pv : Value) (D : Option Addr) (m c : Nat) (H P : List Int) (n q : Nat) (hd : Nat) (f : Fr) (t : Nat) (w : World) (h : Rc w R hv pv D m c H P n q hd f t) (hr : rightB P = true) (hq : q ≤ 1000000)
    (hk : (0 < hd ∧ readL P = .ok (f, hd)) ∨ (hd = 0 ∧ f = Fr.none_)) (v : Bool) (hvv : formOk (readL P) = v) (hd' : Nat) (f' : Fr) (hh : hdOf (readL P) = (hd', f')) :
    Calls Try.prog 69 #[.pointer (some ⟨R, 0, none⟩)] w fun e w' => e = .returned (.bool v) ∧ (∃ D' m' c', Rc w' R hv pv D' m' c' H P n q hd' f' t) ∧ Below R w w' := by
  rcases hk with ⟨h0, h1⟩ | ⟨rfl, rfl⟩
  · rw [h1] at hvv hh
    obtain ⟨rfl, rfl⟩ : hd = hd' ∧ f = f' := by cases hh; exact ⟨rfl, rfl⟩
    obtain rfl : v = true := hvv.symm
    refine (formed_yes R hv pv D m c H P n q hd f t w h h0).mono ?_
    rintro e w' ⟨rfl, rfl⟩
    exact ⟨rfl, ⟨D, m, c, h⟩, Below.refl _ _⟩
  · cases he : readL P with
    | error ee =>
      rw [he] at hvv hh
      obtain ⟨rfl, rfl⟩ : 0 = hd' ∧ Fr.none_ = f' := by cases hh; exact ⟨rfl, rfl⟩
      refine (formed_no R hv pv D m c H P n q _ t w h hr hq ee he v hvv).mono ?_
      rintro e w' ⟨rfl, hB⟩
      exact ⟨rfl, ⟨D, m, c, h.to hB⟩, hB.mono (Nat.le_of_lt h.lt)⟩
    | ok p =>
      obtain ⟨f2, k⟩ := p
      rw [he] at hvv hh
      obtain ⟨rfl, rfl⟩ : k = hd' ∧ f2 = f' := by cases hh; exact ⟨rfl, rfl⟩
      obtain rfl : v = true := hvv.symm
      exact formed_ok R hv pv D m c H P n q _ t w h hr hq f2 k he

/-- What 'stuffed' hands back. -/
def StuffedPost (w : World) (R : Nat) (H P : List Int) (n : Nat) (v : Int) (e : Ending) (w' : World) : Prop :=
  e = .returned (.int .i64 v) ∧ Below R w w' ∧ (v = 0 → ∃ hv pv D m c, Rc w' R hv pv D m c H P n P.length (hdOf (readL P)).1 (hdOf (readL P)).2 0)

set_option maxRecDepth 100000 in
set_option maxHeartbeats 2000000 in
theorem stuffed_any (R : Nat) (hv pv : Value) (D : Option Addr) (m c : Nat) (H P : List Int) (n q : Nat) (hd : Nat) (f : Fr) (w : World) (h : Rc w R hv pv D m c H P n q hd f 0) (hn : n ≤ 10000) (hqn : q ≤ n)
    (b : Int) (P' : List Int) (hP : plainOf H P b = P') (hr : rightB P' = true) (hk : (0 < hd ∧ readL P' = .ok (f, hd)) ∨ (hd = 0 ∧ f = Fr.none_)) (hk3 : (hdOf (readL P')).1 ≤ P'.length) (v : Int) (hvv : stuffedF H P b = v) :
    Calls Try.prog 43 #[.pointer (some ⟨R, 0, none⟩), .int .i64 b] w (StuffedPost w R (H ++ [b]) P' (n + 1) v) := by
  obtain ⟨i0, hi, hz0, hz1, hz2⟩ := info_parts Try.infoInt
  obtain ⟨x, hx⟩ : ∃ x, fiveB H = x := ⟨_, rfl⟩
  obtain ⟨fo, hfo⟩ : ∃ fo, formOk (readL P') = fo := ⟨_, rfl⟩
  obtain ⟨hd', f', hh⟩ : ∃ hd' f', hdOf (readL P') = (hd', f') := ⟨_, _, rfl⟩
  obtain ⟨wh, hwh⟩ : ∃ wh, wholeB (H ++ [b]) P' = wh := ⟨_, rfl⟩
  obtain ⟨ck, hck⟩ : ∃ ck, sumB P' = ck := ⟨_, rfl⟩
  have hj : judged (H ++ [b]) P' = if fo then (if wh && !ck then 4 else 0) else 3 := by unfold judged; rw [hfo, hwh, hck]
  have hw2 : (decide (0 < hd') && decide (P'.length = hd' + 15) && !fiveB (H ++ [b])) = wh := by rw [← hwh]; unfold wholeB; rw [hh]
  have hs2 : decide (numOf (P'.drop hd') = (crc15 (P'.take hd')).toNat) = ck := by rw [← hck]; unfold sumB; rw [hh]
  rw [hh] at hk3
  simp only at hk3
  have Hfo := Lib.hid hfo
  have Hh := Lib.hid hh
  have Hw := Lib.hid hw2
  have Hs := Lib.hid hs2
  have Hr := Lib.hid hr
  have Hk := Lib.hid hk
  have Hx := Lib.hid hx
  have HlP := Lib.hid h.lP
  have HlH := Lib.hid h.lH
  have hlt := h.lt
  clear hfo hh hwh hck hw2 hs2 hr hk
  cases x
  · -- no inserted bit
    have hv2 : v = if fo then (if wh && !ck then 4 else 0) else 3 := by
      rw [← hvv, ← hj]; unfold stuffedF; rw [if_neg (by rw [hx]; simp), hP]
    obtain rfl : P' = P ++ [b] := by rw [← hP]; unfold plainOf; rw [hx]; rfl
    have HV := Lib.hid hv2
    clear hvv hj hx hP hv2
    go_enter Try.func43, Try.ntmps43
    go_wp2_with fail
    refine (due_any R hv pv D m c H P n q hd f 0 w h (by omega) false Hx.out).mono ?_
    rintro e w0 ⟨rfl, hB0⟩
    have h0 := h.to hB0
    have c0 := h0.c0
    clear h
    go_wp2_with fail
    go_quiet (fail)
    have hB1 := below_then hB0 (below_drewN0 w0 nq)
    have h1 := h0.drewN nq
    generalize w0.drewN nq = w1 at hB1 h1 ⊢
    clear h0 hB0 c0
    have c0 := h1.c0
    have o1 := (h1.alloc (.cells #[.int .i64 b] 3)).oH
    have b1 : R + 1 ≤ (w1.alloc (.cells #[.int .i64 b] 3)).heap.size := by have := h1.lt; simp; omega
    have oc : ∀ u ∈ [Value.int .i64 b], u.oneCell' = true := by simp [Value.oneCell']
    go_wp2_with (first
      | (have hq_ := h3; clear hq_; at_builtin; refine wpList_append_own_at _ rfl _ _ 25 rfl (R + 1) 3 i0 (.int .i64 0) 1 8 Try.underlying25 hi hz0 hz1 hz2 rfl Nat.zero_lt_one pv q (P.map (Value.int .i64)) rfl o3 ⟨w2.heap.size, 0, none⟩ 1 1 [.int .i64 b] rfl rfl cn3 oc (by unfold maxLen; omega) (by omega) b3 ?_; intro v4 w4 hown4 hg4 hni hatx; obtain ⟨A4, c4, rfl, hcc4⟩ := own_form hown4; have hat4 := Lib.hid hatx; clear hni hatx; obtain ⟨y0, y1⟩ := (h3.alloc (.cells #[.int .i64 b] 3)).slotP hg4)
      | (at_builtin; refine wpList_append_own_at _ rfl _ _ 25 rfl (R + 1) 3 i0 (.int .i64 0) 1 8 Try.underlying25 hi hz0 hz1 hz2 rfl Nat.zero_lt_one hv n (H.map (Value.int .i64)) rfl o1 ⟨w1.heap.size, 0, none⟩ 1 1 [.int .i64 b] rfl rfl (cell_one_new _ _ _) oc (by unfold maxLen; omega) (by omega) b1 ?_; intro v2 w2 hown2 hg2 hni hat2; obtain ⟨A2, c2, rfl, hcc2⟩ := own_form hown2; clear hni; obtain ⟨z0, z1⟩ := (h1.alloc (.cells #[.int .i64 b] 3)).slotH hg2; obtain ⟨h3, hB3a⟩ := (h1.alloc (.cells #[.int .i64 b] 3)).hear (b := b) (by rw [List.map_append]; exact hown2) hg2 hat2; clear hat2; have c1 := h3.c1; have o3 := (h3.alloc (.cells #[.int .i64 b] 3)).oP; have b3 : R + 1 ≤ ((w2.setCell ⟨R, 0, none⟩ (.slice A2 (n + 1) c2)).alloc (.cells #[.int .i64 b] 3)).heap.size := (by have := h3.lt; simp at this ⊢; omega); have cn3 : ∀ j u, [Value.int .i64 b][j]? = some u → ((w2.setCell ⟨R, 0, none⟩ (.slice A2 (n + 1) c2)).alloc (.cells #[.int .i64 b] 3)).cell? ((⟨w2.heap.size, 0, none⟩ : Addr).add j) = some u := (by have := cell_one_new (w2.setCell ⟨R, 0, none⟩ (.slice A2 (n + 1) c2)) (.int .i64 b) 3; simpa using this)))
    have hB1a := (hB1.mono (Nat.le_of_lt hlt)).trans ((Below.refl R w1).alloc (Nat.le_of_lt h1.lt) (.cells #[.int .i64 b] 3))
    have hB3 := hB1a.trans hB3a
    have hB3b := hB3.trans ((Below.refl R _).alloc (Nat.le_of_lt h3.lt) (.cells #[.int .i64 b] 3))
    have ⟨h5, hB5a⟩ := (h3.alloc (.cells #[.int .i64 b] 3)).keep (b := b) (by rw [List.map_append]; exact hown4) hg4 hat4.out
    have hB5 := hB3b.trans hB5a
    generalize w4.setCell ⟨R, 1, none⟩ (.slice A4 (q + 1) c4) = w5 at h5 hB5 ⊢
    clear hB5a y0 y1 hown4 hg4 hat4 h3 hB3 hB3a c1 hB3b hB1a o1 b1 oc o3 b3 cn3 z0 z1 hown2 hg2 h1 hB1 c0
    have hq5 : (P ++ [b]).length = q + 1 := h5.lP
    go_wp2_with fail
    refine (formed_at R _ _ D m c _ _ _ _ hd f 0 w5 h5 Hr.out (by omega) Hk.out fo Hfo.out hd' f' Hh.out).mono ?_
    rintro e w6 ⟨rfl, ⟨D6, m6, c6, h6⟩, hB6⟩
    have hB7 := hB5.trans hB6
    clear h5 hB5 hB6
    cases fo
    · obtain rfl : v = 3 := HV.out
      go_wp2_with fail
      go_ret
      exact ⟨rfl, hB7, fun e => by cases e⟩
    · cases wh
      · obtain rfl : v = 0 := HV.out
        go_wp2_with fail
        refine (whole_any R _ _ D6 m6 c6 _ _ _ _ hd' f' 0 w6 h6 (by omega) (by omega) false (by rw [← hq5]; exact Hw.out)).mono ?_
        rintro e w8 ⟨rfl, hB8⟩
        go_wp2_with fail
        go_ret
        refine ⟨rfl, hB7.trans (hB8.mono (Nat.le_of_lt h6.lt)), fun _ => ?_⟩
        rw [Hh.out, hq5]
        exact ⟨_, _, _, _, _, h6.to hB8⟩
      · have hwp := Hw.out
        simp only [Bool.and_eq_true, decide_eq_true_eq] at hwp
        have hd0 := hwp.1.1
        have hd15 := hwp.1.2
        clear hwp
        go_wp2_with fail
        refine (whole_any R _ _ D6 m6 c6 _ _ _ _ hd' f' 0 w6 h6 (by omega) (by omega) true (by rw [← hq5]; exact Hw.out)).mono ?_
        rintro e w8 ⟨rfl, hB8⟩
        go_wp2_with fail
        refine (checked_any R _ _ D6 m6 c6 _ _ _ _ hd' f' 0 w8 (h6.to hB8) Hr.out hd0 (by omega) (by omega) ck Hs.out).mono ?_
        rintro e w9 ⟨rfl, hB9⟩
        have hB10 := hB7.trans ((below_then hB8 hB9).mono (Nat.le_of_lt h6.lt))
        have h9 := h6.to (below_then hB8 hB9)
        clear hB7 hB8 hB9 h6
        cases ck
        · obtain rfl : v = 4 := HV.out
          go_wp2_with fail
          go_ret
          exact ⟨rfl, hB10, fun e => by cases e⟩
        · obtain rfl : v = 0 := HV.out
          go_wp2_with fail
          go_ret
          refine ⟨rfl, hB10, fun _ => ?_⟩
          rw [Hh.out, hq5]
          exact ⟨_, _, _, _, _, h9⟩
  · by_cases hb : b = (runOf H).1
    · obtain rfl : v = 2 := by rw [← hvv]; unfold stuffedF; rw [if_pos ⟨hx, hb⟩]
      have hn5 : 5 ≤ n := by
        have := runOf_le H
        unfold fiveB at hx
        simp only [decide_eq_true_eq] at hx
        have := h.lH
        omega
      obtain ⟨k, rfl⟩ : ∃ k, n = k + 1 := ⟨n - 1, by omega⟩
      have hlast : H[k]? = some b := by
        have := runOf_last (l := H) (by rw [h.lH]; omega)
        rw [h.lH, ← hb] at this
        exact this
      clear hvv hj hx hP hb
      obtain ⟨A, c', rfl, hc'⟩ := h.hform
      obtain ⟨ad, rfl⟩ : ∃ ad, A = some ad := by
        obtain ⟨ad, _, e, _⟩ := h.hrow.get_ (k := 0) (by rw [h.lH]; omega)
        exact ⟨ad, e⟩
      have Hlast := Lib.hid hlast
      clear hlast
      go_enter Try.func43, Try.ntmps43
      go_wp2_with fail
      refine (due_any R _ pv D m c H P _ q hd f 0 w h (by omega) true Hx.out).mono ?_
      rintro e w0 ⟨rfl, hB0⟩
      have h0 := h.to hB0
      have c0 := h0.c0
      have cl := h0.hrow.at_ Hlast.out
      have hbb : (b == b) = true := by simp
      clear h
      go_wp2_with fail
      go_quiet (fail)
      go_wp2_with fail
      go_ret
      exact ⟨rfl, (hB0.mono (by omega)).trans (below_drewN' (Below.refl _ _) _), fun e => by cases e⟩
    · have hv2 : v = if fo then (if wh && !ck then 4 else 0) else 3 := by
        rw [← hvv, ← hj]; unfold stuffedF; rw [if_neg (by rintro ⟨_, e⟩; exact hb e), hP]
      obtain rfl : P' = P := by rw [← hP]; unfold plainOf; rw [hx]; rfl
      have HV := Lib.hid hv2
      have hn5 : 5 ≤ n := by
        have := runOf_le H
        unfold fiveB at hx
        simp only [decide_eq_true_eq] at hx
        have := h.lH
        omega
      obtain ⟨k, rfl⟩ : ∃ k, n = k + 1 := ⟨n - 1, by omega⟩
      obtain ⟨y, hy⟩ : ∃ y, (runOf H).1 = y := ⟨_, rfl⟩
      have hlast : H[k]? = some y := by
        have := runOf_last (l := H) (by rw [h.lH]; omega)
        rw [h.lH, hy] at this
        exact this
      have hby : (b == y) = false := by rw [← hy]; simp [hb]
      clear hvv hj hx hP hv2 hb hy
      obtain ⟨A, c', hhv, hc'⟩ := h.hform
      subst hhv
      obtain ⟨ad, rfl⟩ : ∃ ad, A = some ad := by
        obtain ⟨ad, _, e, _⟩ := h.hrow.get_ (k := 0) (by rw [h.lH]; omega)
        exact ⟨ad, e⟩
      have Hlast := Lib.hid hlast
      clear hlast
      go_enter Try.func43, Try.ntmps43
      go_wp2_with fail
      refine (due_any R _ pv D m c H _ _ q hd f 0 w h (by omega) true Hx.out).mono ?_
      rintro e w0 ⟨rfl, hB0⟩
      have h0 := h.to hB0
      have c0 := h0.c0
      have cl := h0.hrow.at_ Hlast.out
      clear h
      go_wp2_with fail
      go_quiet (fail)
      have hB1 := below_then hB0 (below_drewN0 w0 nq)
      have h1 := h0.drewN nq
      generalize w0.drewN nq = w1 at hB1 h1 ⊢
      clear h0 hB0 c0 cl hby
      have c0 := h1.c0
      have o1 := (h1.alloc (.cells #[.int .i64 b] 3)).oH
      have b1 : R + 1 ≤ (w1.alloc (.cells #[.int .i64 b] 3)).heap.size := by have := h1.lt; simp; omega
      have oc : ∀ u ∈ [Value.int .i64 b], u.oneCell' = true := by simp [Value.oneCell']
      go_wp2_with (at_builtin; refine wpList_append_own_at _ rfl _ _ 25 rfl (R + 1) 3 i0 (.int .i64 0) 1 8 Try.underlying25 hi hz0 hz1 hz2 rfl Nat.zero_lt_one (.slice (some ad) (k + 1) c') (k + 1) (H.map (Value.int .i64)) rfl o1 ⟨w1.heap.size, 0, none⟩ 1 1 [.int .i64 b] rfl rfl (cell_one_new _ _ _) oc (by unfold maxLen; omega) (by omega) b1 ?_; intro v2 w2 hown2 hg2 hni hatx; obtain ⟨A2, c2, rfl, hcc2⟩ := own_form hown2; have hat2 := Lib.hid hatx; clear hni hatx; obtain ⟨z0, z1⟩ := (h1.alloc (.cells #[.int .i64 b] 3)).slotH hg2)
      clear o1 b1 oc
      have hB1a := (hB1.mono (Nat.le_of_lt hlt)).trans ((Below.refl R w1).alloc (Nat.le_of_lt h1.lt) (.cells #[.int .i64 b] 3))
      have ⟨h3, hB3a⟩ := (h1.alloc (.cells #[.int .i64 b] 3)).hear (b := b) (by rw [List.map_append]; exact hown2) hg2 hat2.out
      have hB3 := hB1a.trans hB3a
      generalize w2.setCell ⟨R, 0, none⟩ (.slice A2 ((k + 1) + 1) c2) = w3 at h3 hB3 ⊢
      clear hB3a z0 z1 hown2 hg2 hat2 h1 hB1 hB1a c0
      have hq5 : P'.length = q := h3.lP
      go_wp2_with fail
      refine (formed_at R _ _ D m c _ _ _ _ hd f 0 w3 h3 Hr.out (by omega) Hk.out fo Hfo.out hd' f' Hh.out).mono ?_
      rintro e w6 ⟨rfl, ⟨D6, m6, c6, h6⟩, hB6⟩
      have hB7 := hB3.trans hB6
      clear h3 hB3 hB6
      cases fo
      · obtain rfl : v = 3 := HV.out
        go_wp2_with fail
        go_ret
        exact ⟨rfl, hB7, fun e => by cases e⟩
      · cases wh
        · obtain rfl : v = 0 := HV.out
          go_wp2_with fail
          refine (whole_any R _ _ D6 m6 c6 _ _ _ _ hd' f' 0 w6 h6 (by omega) (by omega) false (by rw [← hq5]; exact Hw.out)).mono ?_
          rintro e w8 ⟨rfl, hB8⟩
          go_wp2_with fail
          go_ret
          refine ⟨rfl, hB7.trans (hB8.mono (Nat.le_of_lt h6.lt)), fun _ => ?_⟩
          rw [Hh.out, hq5]
          exact ⟨_, _, _, _, _, h6.to hB8⟩
        · have hwp := Hw.out
          simp only [Bool.and_eq_true, decide_eq_true_eq] at hwp
          have hd0 := hwp.1.1
          have hd15 := hwp.1.2
          clear hwp
          go_wp2_with fail
          refine (whole_any R _ _ D6 m6 c6 _ _ _ _ hd' f' 0 w6 h6 (by omega) (by omega) true (by rw [← hq5]; exact Hw.out)).mono ?_
          rintro e w8 ⟨rfl, hB8⟩
          go_wp2_with fail
          refine (checked_any R _ _ D6 m6 c6 _ _ _ _ hd' f' 0 w8 (h6.to hB8) Hr.out hd0 (by omega) (by omega) ck Hs.out).mono ?_
          rintro e w9 ⟨rfl, hB9⟩
          have hB10 := hB7.trans ((below_then hB8 hB9).mono (Nat.le_of_lt h6.lt))
          have h9 := h6.to (below_then hB8 hB9)
          clear hB7 hB8 hB9 h6
          cases ck
          · obtain rfl : v = 4 := HV.out
            go_wp2_with fail
            go_ret
            exact ⟨rfl, hB10, fun e => by cases e⟩
          · obtain rfl : v = 0 := HV.out
            go_wp2_with fail
            go_ret
            refine ⟨rfl, hB10, fun _ => ?_⟩
            rw [Hh.out, hq5]
            exact ⟨_, _, _, _, _, h9⟩

end Go.Proofs.Ytmapkjjglhpamaa
