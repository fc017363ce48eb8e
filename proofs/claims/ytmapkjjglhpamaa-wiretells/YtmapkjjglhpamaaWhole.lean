/-
  The reader of layer 4: the whole frame.
-/
import Derived.Test.YtmapkjjglhpamaaNamed
namespace Go.Proofs.Ytmapkjjglhpamaa
open Go.RowKit

theorem set_3 {w : World} {F : Nat} {a b c d e : Value} {t : TypeId} (h : w.heap[F]? = some (.cells #[a, b, c, d, e] t)) (v : Value) : (w.setCell ⟨F, 3, none⟩ v).heap[F]? = some (.cells #[a, b, c, v, e] t) := by
  simp [World.setCell, Array.getElem?_modify, h]
theorem set_4 {w : World} {F : Nat} {a b c d e : Value} {t : TypeId} (h : w.heap[F]? = some (.cells #[a, b, c, d, e] t)) (v : Value) : (w.setCell ⟨F, 4, none⟩ v).heap[F]? = some (.cells #[a, b, c, d, v] t) := by
  simp [World.setCell, Array.getElem?_modify, h]
theorem obj_to {w w' : World} {R F : Nat} {o : Obj} (h : w.heap[F]? = some o) (g : w.grownBy w' (some R)) (hne : F ≠ R) : w'.heap[F]? = some o :=
  (g.block F (Array.getElem?_eq_some_iff.1 h).1 (by simp; omega)).trans h
theorem obj_below {w w' : World} {F : Nat} {o : Obj} (h : w.heap[F]? = some o) (b : Below w.heap.size w w') : w'.heap[F]? = some o :=
  (b.block F (Array.getElem?_eq_some_iff.1 h).1).trans h
theorem obj_alloc {w : World} {F : Nat} {o : Obj} (h : w.heap[F]? = some o) (o' : Obj) : (w.alloc o').heap[F]? = some o := obj_below h ((Below.refl _ _).alloc (Nat.le_refl _) o')

theorem namedL_ok {l : List Int} {f : Fr} {k : Nat} (h : namedL l = .ok (f, k)) : k ≤ l.length ∧ (k = 14 ∨ k = 34) ∧ f.data = [] ∧ f.len = 0 := by
  unfold namedL at h
  repeat' split at h
  all_goals first
    | (cases h; exact ⟨by omega, by omega, rfl, rfl⟩)
    | cases h

theorem join_own_at (l : List Int) (n : Nat) (hn : l.length = n) (A : Option Addr) (c B : Nat) (w : World) (h : Row .i64 w B A l) (hB : B ≤ w.heap.size) (hm : n * 8 ≤ 140737488355328) (hc : n ≤ c) (hg : joinOk l = true) (m : Nat) (hm' : n / 8 = m) :
    Calls Try.prog 74 #[.slice A n c] w fun e w' => e = .returned (.tuple #[.slice (some ⟨w.heap.size, 0, none⟩) m m, .bool true]) ∧
      w'.ownsRow w.heap.size 5 1 (.slice (some ⟨w.heap.size, 0, none⟩) m m) m ((joinL l).map (Value.int .u8)) ∧ Below w.heap.size w w' := by
  subst hn hm'
  exact join_yes l A c w (h.more hB) hm hc hg

set_option maxRecDepth 100000 in
set_option maxHeartbeats 2000000 in
theorem frame_any (R : Nat) (A : Option Addr) (n c : Nat) (l : List Int) (hr : rightB l = true) (hm : n ≤ 1000000) (w : World) (h : Rd w R A n c l 0) :
    Calls Try.prog 58 #[.pointer (some ⟨R, 0, none⟩)] w (RdPost w R A n c l (readL l)) := by
  have hl := h.len
  have HR := Lib.hid hr
  have HL := Lib.hid hl
  clear hr hl
  have hA := h.alloc (.cells #[.bool false, .int .i64 0, .bool false, .int .i64 0, .slice none 0 0] 24)
  have gA := World.grownBy_alloc w (.cells #[.bool false, .int .i64 0, .bool false, .int .i64 0, .slice none 0 0] 24) (some R)
  by_cases h0 : n = 0
  · have hp : readL l = .error 40 := by unfold readL; rw [if_pos (by rw [HL.out]; omega)]
    rw [hp]
    subst h0
    go_enter Try.func58, Try.ntmps58
    go_wp2_with fail
    refine (zero_short R A _ c l _ hA).mono ?_
    rintro e w' ⟨he, hg⟩
    subst he
    unfold quit
    go_wp2_with fail
    exact ⟨rfl, rfl, gA.trans hg⟩
  have x0 := getD_some (l := l) (k := 0) (by rw [HL.out]; omega)
  have b0 := getD_01 HR.out 0
  rcases b0 with b0 | b0
  rotate_left
  · have hp : readL l = .error 42 := by unfold readL; rw [if_neg (by rw [HL.out]; omega), if_pos (by rw [b0]; decide)]
    rw [hp]
    rw [b0] at x0
    have X0 := Lib.hid x0
    clear x0 b0 hp
    go_enter Try.func58, Try.ntmps58
    go_wp2_with fail
    refine (zero_form R A _ c l 0 X0.out hm _ hA).mono ?_
    rintro e w' ⟨he, hg⟩
    subst he
    unfold quit
    go_wp2_with fail
    exact ⟨rfl, rfl, gA.trans hg⟩
  have hp : readL l = match namedL l with | .error e => .error e | .ok (f, k) => tailL l f k := by
    unfold readL; rw [if_neg (by rw [HL.out]; omega), if_neg (by rw [b0]; decide)]
    cases namedL l <;> rfl
  rw [b0] at x0
  have X0 := Lib.hid x0
  have HF := Lib.hid (show (w.alloc (.cells #[.bool false, .int .i64 0, .bool false, .int .i64 0, .slice none 0 0] 24)).heap[w.heap.size]? = some (.cells #[.bool false, .int .i64 0, .bool false, .int .i64 0, .slice none 0 0] 24) from World.alloc_heap_new _ _)
  clear x0 b0
  have hlt := h.lt
  cases hnl : namedL l with
  | error ee =>
    rw [hnl] at hp
    simp only at hp
    rw [hp]
    have HN := Lib.hid hnl
    clear hp hnl
    go_enter Try.func58, Try.ntmps58
    go_wp2_with fail
    refine (zero_ok R A _ c l 0 X0.out hm _ hA).mono ?_
    rintro e w1 ⟨rfl, hR1, hg1⟩
    go_wp2_with fail
    refine (named_any R A n c l (by omega) HR.out hm _ hR1).mono ?_
    rw [HN.out]
    rintro e w2 ⟨he, hg2⟩
    subst he
    unfold quit
    go_wp2_with fail
    exact ⟨rfl, rfl, gA.trans (hg1.trans hg2)⟩
  | ok p =>
    obtain ⟨⟨fx, fi, fr, fl, fd⟩, k⟩ := p
    rw [hnl] at hp
    simp only at hp
    obtain ⟨hk, hk2, hd, hfl⟩ := namedL_ok hnl
    simp only at hd hfl
    subst hd hfl
    rw [HL.out] at hk
    rw [hp]
    obtain ⟨r, hres⟩ : ∃ r, tailL l ⟨fx, fi, fr, 0, []⟩ k = r := ⟨_, rfl⟩
    rw [hres]
    have HN := Lib.hid hnl
    have HT := Lib.hid hres
    clear hp hnl hres
    go_enter Try.func58, Try.ntmps58
    go_wp2_with fail
    refine (zero_ok R A _ c l 0 X0.out hm _ hA).mono ?_
    rintro e w1 ⟨rfl, hR1, hg1⟩
    go_wp2_with fail
    refine (named_any R A n c l (by omega) HR.out hm _ hR1).mono ?_
    rw [HN.out]
    rintro e w2 ⟨D, m, c', rfl, hml, hmc, hrow, -, hR2, hg2⟩
    obtain rfl : m = 0 := hml.symm
    clear hml hrow
    have HF2 := Lib.hid (obj_alloc (obj_to HF.out (hg1.trans hg2) (by omega)) (.cells #[.bool fx, .int .i64 fi, .bool fr, .int .i64 0, .slice D 0 c'] 24))
    have hG2 := gA.trans (hg1.trans (hg2.trans (World.grownBy_alloc w2 (.cells #[.bool fx, .int .i64 fi, .bool fr, .int .i64 0, .slice D 0 c'] 24) (some R))))
    have hR2' := hR2.alloc (.cells #[.bool fx, .int .i64 fi, .bool fr, .int .i64 0, .slice D 0 c'] 24)
    have hN2 := Lib.hid (World.alloc_heap_new w2 (.cells #[.bool fx, .int .i64 fi, .bool fr, .int .i64 0, .slice D 0 c'] 24))
    have hlt2 := hR2.lt
    have hsz2 : w.heap.size < w2.heap.size := by have := (hg1.trans hg2).size; simp at this; omega
    clear hg1 hg2 hR1 hR2
    go_wp2_with fail
    by_cases hk1 : n = k
    · have ht : tailL l ⟨fx, fi, fr, 0, []⟩ k = .error 40 := by unfold tailL; rw [if_pos (by rw [HL.out]; omega)]
      have e1 := Lib.hid (HT.out.symm.trans ht)
      clear ht
      subst hk1
      refine (zero_short R A _ c l _ hR2').mono ?_
      rintro e w' ⟨he, hg⟩
      subst he
      unfold quit
      go_wp2_with fail
      refine ⟨rfl, ?_⟩
      rw [e1.out]
      exact ⟨rfl, hG2.trans hg⟩
    have xk := getD_some (l := l) (k := k) (by rw [HL.out]; omega)
    have bk := getD_01 HR.out k
    rcases bk with bk | bk
    rotate_left
    · have ht : tailL l ⟨fx, fi, fr, 0, []⟩ k = .error 42 := by unfold tailL; rw [if_neg (by rw [HL.out]; omega), if_pos (by rw [bk]; decide)]
      have e1 := Lib.hid (HT.out.symm.trans ht)
      rw [bk] at xk
      refine (zero_form R A _ c l k xk hm _ hR2').mono ?_
      clear xk bk ht
      rintro e w' ⟨he, hg⟩
      subst he
      unfold quit
      go_wp2_with fail
      refine ⟨rfl, ?_⟩
      rw [e1.out]
      exact ⟨rfl, hG2.trans hg⟩
    have ht : tailL l ⟨fx, fi, fr, 0, []⟩ k = if l.length < k + 5 then .error 40
        else if 8 < numAt l (k + 1) 4 then .error 41
        else if fr then .ok (⟨fx, fi, fr, numAt l (k + 1) 4, []⟩, k + 5)
        else if l.length < k + 5 + 8 * (numAt l (k + 1) 4).toNat then .error 40
        else .ok (⟨fx, fi, fr, numAt l (k + 1) 4, joinL ((l.drop (k + 5)).take (8 * (numAt l (k + 1) 4).toNat))⟩, k + 5 + 8 * (numAt l (k + 1) 4).toNat) := by
      unfold tailL; rw [if_neg (by rw [HL.out]; omega), if_neg (by rw [bk]; decide)]
    have HT2 := Lib.hid (HT.out.symm.trans ht)
    rw [bk] at xk
    refine (zero_ok R A _ c l k xk hm _ hR2').mono ?_
    clear xk bk ht
    rintro e w3 ⟨rfl, hR3, hg3⟩
    have HF3 := Lib.hid (obj_to HF2.out hg3 (by omega))
    have hN3 := Lib.hid (obj_to hN2.out hg3 (by omega))
    have hG3 := hG2.trans hg3
    clear hG2 hg3
    go_wp2_with fail
    by_cases hk5 : n < k + 5
    · have e1 := Lib.hid (HT2.out.trans (if_pos (by rw [HL.out]; omega)))
      refine (number_short R A _ c l (k + 1) 4 (by omega) (by omega) (by omega) HR.out hm _ hR3).mono ?_
      rintro e w' ⟨he, hg⟩
      subst he
      unfold quit
      go_wp2_with fail
      refine ⟨rfl, ?_⟩
      rw [e1.out]
      exact ⟨rfl, hG3.trans hg⟩
    have h3 := HT2.out.trans (if_neg (by rw [HL.out]; omega))
    obtain ⟨v, hv⟩ : ∃ v, numAt l (k + 1) 4 = v := ⟨_, rfl⟩
    have hvb := numAt_lt HR.out (k + 1) 4 (by rw [HL.out]; omega)
    rw [hv] at hvb
    obtain ⟨V, rfl⟩ := Int.eq_ofNat_of_zero_le hvb.1
    have hvb2 : V < 16 := by have := hvb.2; simp at this; omega
    clear hvb
    rw [hv] at h3
    have HT3 := Lib.hid h3
    clear h3
    refine (number_ok R A _ c l (k + 1) 4 (by omega) (by omega) HR.out hm _ hv _ hR3).mono ?_
    clear hv
    rintro e w4 ⟨rfl, hR4, hg4⟩
    have HF4 := Lib.hid (obj_to HF3.out hg4 (by omega))
    have hN4 := obj_to hN3.out hg4 (by omega)
    have hG4 := hG3.trans hg4
    clear hG3 hg4
    obtain ⟨⟨d0, d1, d2, d3, d4⟩, g0, g1, g2, g3, g4⟩ := cells5 hN4
    have HN4 := Lib.hid hN4
    clear hN4
    by_cases hv8 : 8 < V
    · have e1 := Lib.hid (HT3.out.trans (if_pos (by omega)))
      have t8 : decide ((8 : Int) < (V : Int)) = true := by simp; omega
      have gq := hG4.andThen (grown_setAt w4 w2.heap.size 3 (.int .i64 V)) (fun j e => by cases e; exact .inl (by omega))
      go_wp2_with fail
      refine ⟨rfl, ?_⟩
      rw [e1.out]
      exact ⟨rfl, gq⟩
    have HT4 := Lib.hid (HT3.out.trans (if_neg (by omega)))
    have t8 : decide ((8 : Int) < (V : Int)) = false := by simp; omega
    have hR5 := hR4.past (grown_setAt w4 w2.heap.size 3 (.int .i64 V)) hlt2
    have hG5 := hG4.andThen (grown_setAt w4 w2.heap.size 3 (.int .i64 V)) (fun j e => by cases e; exact .inl (by omega))
    have HF5 := Lib.hid (obj_to HF4.out (grown_setAt w4 w2.heap.size 3 (.int .i64 V)) (by omega))
    have HN5 := Lib.hid (set_3 HN4.out (.int .i64 V))
    cases fr with
    | true =>
      have e1 := Lib.hid (HT4.out.trans (if_pos rfl))
      obtain ⟨⟨c0, c1, c2, c3, c4⟩, f0, f1, f2, f3, f4⟩ := cells5 HF5.out
      have q := hR5.past (set5_grown (w4.setCell ⟨w2.heap.size, 3, none⟩ (.int .i64 V)) w.heap.size (.bool fx) (.int .i64 fi) (.bool true) (.int .i64 V) (.slice D 0 c')) hlt
      have gq := hG5.andThen (set5_grown (w4.setCell ⟨w2.heap.size, 3, none⟩ (.int .i64 V)) w.heap.size (.bool fx) (.int .i64 fi) (.bool true) (.int .i64 V) (.slice D 0 c')) (fun j e => by cases e; exact .inl (Nat.le_refl _))
      unfold set5 at q gq
      go_wp2_with fail
      refine bodyPost_ret (v := .agg #[.bool fx, .int .i64 fi, .bool true, .int .i64 V, .slice D 0 c']) (results_fr rfl _ rfl (set5_obj HF5.out _ _ _ _ _)) rfl ?_
      rw [e1.out]
      exact ⟨D, 0, c', rfl, rfl, Nat.zero_le _, .inl rfl, .inl rfl, q, gq⟩
    | false =>
      have h5 := HT4.out.trans (if_neg (by decide))
      rw [Int.toNat_natCast] at h5
      have HT5 := Lib.hid h5
      clear h5
      have t3 : ((8 * V : Nat) : Int) = (V : Int) * 8 := by omega
      go_wp2_with fail
      rw [← t3]
      clear t3
      by_cases hkd : n < k + 5 + 8 * V
      · have e1 := Lib.hid (HT5.out.trans (if_pos (by rw [HL.out]; omega)))
        refine (take_short R A _ c l (k + 5) (8 * V) (by omega) (by omega) (by omega) HR.out hm _ hR5).mono ?_
        rintro e w' ⟨he, hg⟩
        subst he
        unfold quit
        go_wp2_with fail
        refine ⟨rfl, ?_⟩
        rw [e1.out]
        exact ⟨rfl, hG5.trans hg⟩
      have e1 := Lib.hid (HT5.out.trans (if_neg (by rw [HL.out]; omega)))
      refine (take_ok R A _ c l (k + 5) (8 * V) (by omega) HR.out hm _ hR5).mono ?_
      rintro e w6 ⟨A6, rfl, hrow6, hR6, hg6⟩
      have HF6 := Lib.hid (obj_to HF5.out hg6 (by omega))
      have HN6 := Lib.hid (obj_to HN5.out hg6 (by omega))
      have hG6 := hG5.trans hg6
      have hlen : ((l.drop (k + 5)).take (8 * V)).length = 8 * V := by simp [h.len]; omega
      have hok : joinOk ((l.drop (k + 5)).take (8 * V)) = true := by unfold joinOk; rw [hlen, rightB_take (rightB_drop HR.out _) _]; simp
      have hjl : (joinL ((l.drop (k + 5)).take (8 * V))).length = V := by rw [joinL_len, hlen]; omega
      have HLn := Lib.hid hlen
      have HOk := Lib.hid hok
      have HJl := Lib.hid hjl
      clear hg6 hG5 hR5 hlen hok hjl d0 d1 d2 d3 d4 g0 g1 g2 g3 g4
      go_wp2_with fail
      refine (join_own_at _ (8 * V) HLn.out _ _ _ _ hrow6 (Nat.le_refl _) (by omega) (Nat.le_refl _) HOk.out V (by omega)).mono ?_
      rintro e w7 ⟨rfl, hown7, hB7⟩
      have hs6 := hG6.size
      have hs62 : w2.heap.size < w6.heap.size := (Array.getElem?_eq_some_iff.1 HN6.out).1
      obtain ⟨A7, hA7⟩ : ∃ A7, (some ⟨w6.heap.size, 0, none⟩ : Option Addr) = A7 := ⟨_, rfl⟩
      have hown8 := hown7.kept (grown_setAt w7 w2.heap.size 4 (.slice A7 V V)) (.inr (by simp [Value.ownBlock]; omega))
      have hown9 := Row.own (hown8.kept (set5_grown (w7.setCell ⟨w2.heap.size, 4, none⟩ (.slice A7 V V)) w.heap.size (.bool fx) (.int .i64 fi) (.bool false) (.int .i64 V) (.slice A7 V V)) (.inr (by simp [Value.ownBlock]; omega)))
      rw [hA7] at hown9 ⊢
      have hAd : ∃ ad, A7 = some ad ∧ w.heap.size ≤ ad.block := ⟨_, hA7.symm, by simp; omega⟩
      clear hA7 hown7 hown8
      have hR7 := hR6.to hB7
      have HF7 := Lib.hid (obj_below HF6.out hB7)
      have HN7 := Lib.hid (obj_below HN6.out hB7)
      have hG7 := hG6.trans (grown_of_below (some R) hB7)
      obtain ⟨⟨d0, d1, d2, d3, d4⟩, g0, g1, g2, g3, g4⟩ := cells5 HN7.out
      have hR8 := hR7.past (grown_setAt w7 w2.heap.size 4 (.slice A7 V V)) hlt2
      have hG8 := hG7.andThen (grown_setAt w7 w2.heap.size 4 (.slice A7 V V)) (fun j e => by cases e; exact .inl (by omega))
      have HF8 := Lib.hid (obj_to HF7.out (grown_setAt w7 w2.heap.size 4 (.slice A7 V V)) (by omega))
      obtain ⟨⟨c0, c1, c2, c3, c4⟩, f0, f1, f2, f3, f4⟩ := cells5 HF8.out
      have q := hR8.past (set5_grown (w7.setCell ⟨w2.heap.size, 4, none⟩ (.slice A7 V V)) w.heap.size (.bool fx) (.int .i64 fi) (.bool false) (.int .i64 V) (.slice A7 V V)) hlt
      have gq := hG8.andThen (set5_grown (w7.setCell ⟨w2.heap.size, 4, none⟩ (.slice A7 V V)) w.heap.size (.bool fx) (.int .i64 fi) (.bool false) (.int .i64 V) (.slice A7 V V)) (fun j e => by cases e; exact .inl (Nat.le_refl _))
      unfold set5 at q gq hown9
      go_wp2_with fail
      refine bodyPost_ret (v := .agg #[.bool fx, .int .i64 fi, .bool false, .int .i64 V, .slice A7 V V]) (results_fr rfl _ rfl (set5_obj HF8.out _ _ _ _ _)) rfl ?_
      rw [e1.out]
      exact ⟨A7, V, V, rfl, HJl.out, Nat.le_refl _, hown9, .inr hAd, q, gq⟩

end Go.Proofs.Ytmapkjjglhpamaa
