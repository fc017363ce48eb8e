/-
  The document's Read of layer 4. (Written by wip/tools/mk_refread5.py.)
-/
import Derived.Test.YtmapkjjglhpamaaWLaw
import Derived.Test.YtmapkjjglhpamaaFr5
namespace Go.Proofs.Ytmapkjjglhpamaa
open Go.RowKit

/-- The result's cell holds zeros yet; what lay there lies so. -/
structure Fz (w W : World) : Prop where
  obj : W.heap[w.heap.size]? = some (.cells #[.bool false, .int .i64 0, .bool false, .int .i64 0, .slice none 0 0] 24)
  bel : Below w.heap.size w W
theorem Fz.set {w W : World} (h : Fz w W) (i : Nat) (v : Value) : Fz w (W.setCell ⟨w.heap.size + 1, i, none⟩ v) :=
  ⟨(Below.heap_setCell _ _ _ _ (by simp)).trans h.obj, h.bel.setCell (p := ⟨w.heap.size + 1, i, none⟩) (by simp) v⟩
theorem Fz.fin {w W : World} (h : Fz w W) (a b c d e : Value) : Below w.heap.size w (set5 W w.heap.size a b c d e) :=
  h.bel.trans (below_of_grown (set5_grown _ _ _ _ _ _ _) (Nat.le_refl _) h.bel.size)
theorem Fz.to {w W W' : World} (h : Fz w W) (b : Below W.heap.size W W') : Fz w W' := ⟨obj_below h.obj b, below_then h.bel b⟩
theorem cell_k {w : World} {B : Nat} {ad : Addr} {l : List Int} (h : Row .i64 w B (some ad) l) {k : Nat} {x : Int} (hk : 0 < k ∧ k < l.length) (hx : l.getD k 0 = x) : w.cell? ⟨ad.block, ad.off + k, none⟩ = some (.int .i64 x) := by
  have := h.at_ (getD_some hk.2)
  rw [hx] at this
  rwa [show ad.add k = ⟨ad.block, ad.off + k, none⟩ by unfold Addr.add; rw [if_neg (by omega)]] at this

theorem refJoin_q (l : List Int) (L n : Nat) (hn : n = 8 * L) (hl : l.length = 8 * L) (A : Option Addr) (c : Nat) (w : World) (h : Row .i64 w w.heap.size A l) (hL : L ≤ 8) (hc : 8 * L ≤ c) (hg : joinOk l = true) :
    Calls Try.prog 60 #[.slice A n c] w fun e w' => ∃ A' c', e = .returned (.tuple #[.slice A' L c', .bool true]) ∧ (joinL l).length = L ∧ L ≤ c' ∧ Row .u8 w' w'.heap.size A' (joinL l) ∧ (joinL l = [] ∨ ∃ ad, A' = some ad ∧ w.heap.size ≤ ad.block) ∧ Below w.heap.size w w' := by
  subst hn
  have e8 : l.length / 8 = L := by omega
  have := refJoin_yes l A c w h (by omega) (by omega) hg
  rw [e8, hl] at this
  refine this.mono ?_
  rintro e w' ⟨A', c', h1, h2, h3⟩
  have hj : (joinL l).length = L := by have := h2.1; simpa using this
  refine ⟨A', c', h1, hj, ?_, Row.own h2, ?_, h3⟩
  · rcases h2.2 with ⟨e1, e2⟩ | ⟨g, cap, cur, e1, _, _, hc2, _⟩
    · omega
    · injection e1 with _ _ e3; omega
  · rcases h2.2 with ⟨e1, e2⟩ | ⟨g, cap, cur, e1, hb, _⟩
    · left; exact List.eq_nil_of_length_eq_zero (by omega)
    · right; exact ⟨_, by injection e1, hb⟩

set_option maxRecDepth 100000 in
set_option maxHeartbeats 4000000 in
theorem refRead_new (l : List Int) (n : Nat) (hn : l.length = n) (A : Option Addr) (c : Nat) (w : World) (h : Row .i64 w w.heap.size A l) (hr : rightB l = true) (hm : n ≤ 1000000) (hnc : n ≤ c) :
    Calls Try.prog 33 #[.slice A n c] w (ReadPostN w (readL l)) := by
  have HR := Lib.hid hr
  have HL := Lib.hid hn
  clear hr hn
  have hz0 : Fz w (w.alloc (.cells #[.bool false, .int .i64 0, .bool false, .int .i64 0, .slice none 0 0] 24)) := ⟨World.alloc_heap_new _ _, below_alloc1 _ _⟩
  by_cases e0 : n = 0
  · subst e0
    have HP := Lib.hid (show readL l = .error 40 by unfold readL; rw [if_pos (by rw [HL.out]; omega)])
    go_enter Try.func33, Try.ntmps33
    go_wp2_with fail
    refine bodyPost_ret (results_c2 (u := .int .i64 0) (v := .int .i64 40) rfl _ rfl rfl rfl hz0.obj) rfl ?_
    rw [HP.out]
    exact ⟨rfl, hz0.bel⟩
  have q0 : ((n : Int) == 0) = false := by simp; omega
  have q0' : (n == 0) = false := by simp; omega
  have q0p : (0 : Int) < (n : Int) := by omega
  obtain ⟨ad, rfl⟩ := h.some_ (by rw [HL.out]; omega)
  have hrow0 := h
  have x0 : w.cell? ad = some (.int .i64 (l.getD 0 0)) := by
    have := h.at_ (getD_some (l := l) (k := 0) (by rw [HL.out]; omega))
    simpa [Addr.add] using this
  have y0 : (w.alloc (.cells #[.bool false, .int .i64 0, .bool false, .int .i64 0, .slice none 0 0] 24)).cell? ad = some (.int .i64 (l.getD 0 0)) := by
    have := (h.to (below_alloc1 w (.cells #[.bool false, .int .i64 0, .bool false, .int .i64 0, .slice none 0 0] 24))).at_ (getD_some (l := l) (k := 0) (by rw [HL.out]; omega))
    simpa [Addr.add] using this
  rcases getD_01 HR.out 0 with b0 | b0
  rotate_left
  · rw [b0] at x0 y0
    have HP := Lib.hid (show readL l = .error 42 by unfold readL; rw [if_neg (by rw [HL.out]; omega), if_pos (by rw [b0]; decide)])
    clear b0
    go_enter Try.func33, Try.ntmps33
    go_wp2_with fail
    refine bodyPost_ret (results_c2 (u := .int .i64 0) (v := .int .i64 42) rfl _ rfl rfl rfl hz0.obj) rfl ?_
    rw [HP.out]
    exact ⟨rfl, hz0.bel⟩
  rw [b0] at x0 y0
  have HB0 := Lib.hid b0
  clear b0
  by_cases e14 : n < 14
  · have HP := Lib.hid (show readL l = .error 40 by unfold readL; rw [if_neg (by rw [HL.out]; omega), if_neg (by rw [HB0.out]; decide)]; unfold namedL; rw [if_pos (by rw [HL.out]; omega)])
    have q1 : decide ((n : Int) < 14) = true := by simp; omega
    go_enter Try.func33, Try.ntmps33
    go_wp2_with fail
    refine bodyPost_ret (results_c2 (u := .int .i64 0) (v := .int .i64 40) rfl _ rfl rfl rfl hz0.obj) rfl ?_
    rw [HP.out]
    exact ⟨rfl, hz0.bel⟩
  have q1 : decide ((n : Int) < 14) = false := by simp; omega
  have s1 : (12 : Int) ≤ (c : Int) := by omega
  have s2 : 12 ≤ c := by omega
  have s3 : ¬ c = 1 := by omega
  have s4 : (12 : Int) < (n : Int) := by omega
  have s5 : (13 : Int) < (n : Int) := by omega
  obtain ⟨uv, uvh⟩ : ∃ u, numAt l 1 11 = u := ⟨_, rfl⟩
  have uvb := numAt_lt HR.out 1 11 (by rw [HL.out]; omega)
  rw [uvh] at uvb
  obtain ⟨U, rfl⟩ := Int.eq_ofNat_of_zero_le uvb.1
  have Ult : U < 2048 := by have := uvb.2; simp at this; omega
  have HU := Lib.hid uvh
  clear uvh uvb
  go_enter Try.func33, Try.ntmps33
  go_wp2_with fail
  obtain ⟨W2, hW2⟩ : ∃ W2, (w.alloc (.cells #[.bool false, .int .i64 0, .bool false, .int .i64 0, .slice none 0 0] 24)).alloc (.cells #[.bool false, .int .i64 0, .bool false, .int .i64 0, .slice none 0 0] 24) = W2 := ⟨_, rfl⟩
  have hz : Fz w W2 := by rw [← hW2]; exact hz0.to (below_alloc1 _ _)
  have hG : W2.heap[w.heap.size + 1]? = some (.cells #[.bool false, .int .i64 0, .bool false, .int .i64 0, .slice none 0 0] 24) := by rw [← hW2]; have := World.alloc_heap_new (w.alloc (.cells #[.bool false, .int .i64 0, .bool false, .int .i64 0, .slice none 0 0] 24)) (.cells #[.bool false, .int .i64 0, .bool false, .int .i64 0, .slice none 0 0] 24); rw [World.size_alloc] at this; exact this
  have hrow : Row .i64 W2 W2.heap.size (some ad) l := hrow0.to hz.bel
  rw [hW2]
  clear hW2 hz0 x0 y0
  have g1 := Lib.hid (show getOk ((l.drop 1).take 11) = true by unfold getOk; rw [rightB_take (rightB_drop HR.out 1) 11]; simp [HL.out]; omega)
  have m1 := Lib.hid (show ((l.drop 1).take 11).length = 11 by simp [HL.out]; omega)
  have r1 : Row .i64 W2 W2.heap.size (some ⟨ad.block, ad.off + 1, none⟩) ((l.drop 1).take 11) := hrow.sub_ 1 12 (by omega) (by rw [HL.out]; omega) (fun _ => by simp [Addr.add])
  refine (refGet_at ((l.drop 1).take 11) 11 m1.out (U : Int) HU.out _ _ _ W2 r1 g1.out).mono ?_
  rintro e wq ⟨rfl, rfl⟩
  clear g1 m1 r1
  obtain ⟨⟨c0, c1, c2, c3, c4⟩, f0, f1, f2, f3, f4⟩ := cells5 hG
  obtain ⟨⟨y0, y1, y2, y3, y4⟩, z0, z1, z2, z3, z4⟩ := cells5 hz.obj
  obtain ⟨b12, hb12⟩ : ∃ b, l.getD 12 0 = b := ⟨_, rfl⟩
  have h01_12 := getD_01 HR.out 12
  rw [hb12] at h01_12
  have B12 := Lib.hid hb12
  clear hb12
  obtain ⟨b13, hb13⟩ : ∃ b, l.getD 13 0 = b := ⟨_, rfl⟩
  have h01_13 := getD_01 HR.out 13
  rw [hb13] at h01_13
  have B13 := Lib.hid hb13
  clear hb13
  have x12 : W2.cell? ⟨ad.block, ad.off + 12, none⟩ = some (.int .i64 b12) := cell_k hrow (k := 12) ⟨by omega, by rw [HL.out]; omega⟩ B12.out
  have x13 : W2.cell? ⟨ad.block, ad.off + 13, none⟩ = some (.int .i64 b13) := cell_k hrow (k := 13) ⟨by omega, by rw [HL.out]; omega⟩ B13.out
  obtain ⟨r, hr⟩ : ∃ r, decide (b12 = 1) = r := ⟨_, rfl⟩
  have hr' : (b12 == 1) = r := by rw [← hr]; by_cases e : b12 = 1 <;> simp [e]
  have HRr := Lib.hid hr
  clear hr
  rcases h01_13 with rfl | rfl
  · clear h01_12
    have hp0 := Lib.hid (show readL l = tailL l ⟨false, (U : Int), r, 0, []⟩ 14 by unfold readL; rw [if_neg (by rw [HL.out]; omega), if_neg (by rw [HB0.out]; decide)]; unfold namedL; rw [if_neg (by rw [HL.out]; omega), if_pos B13.out, B12.out, HU.out, HRr.out])
    by_cases ea : n = 14
    · subst ea
      have HP := Lib.hid (show readL l = .error 40 from hp0.out.trans (show tailL l ⟨false, (U : Int), r, 0, []⟩ 14 = .error 40 by unfold tailL; rw [if_pos (by rw [HL.out]; omega)]))
      have HZ := ((hz.set 1 (.int .i64 U)).set 2 (.bool r))
      go_wp2_with fail
      refine bodyPost_ret (results_c2 (u := .int .i64 0) (v := .int .i64 40) rfl _ rfl rfl rfl (set5_obj HZ.obj (.bool false) (.int .i64 0) (.bool false) (.int .i64 0) (.slice none 0 0))) rfl ?_
      rw [HP.out]
      exact ⟨rfl, HZ.fin _ _ _ _ _⟩
    have u1 : ((n : Int) == 14) = false := by simp; omega
    have u2 : (n == 14) = false := by simp; omega
    have u1p : (14 : Int) < (n : Int) := by omega
    have u2p : 14 < n := by omega
    obtain ⟨b14, hb14⟩ : ∃ b, l.getD 14 0 = b := ⟨_, rfl⟩
    have h01_14 := getD_01 HR.out 14
    rw [hb14] at h01_14
    have B14 := Lib.hid hb14
    clear hb14
    have x14 : W2.cell? ⟨ad.block, ad.off + 14, none⟩ = some (.int .i64 b14) := cell_k hrow (k := 14) ⟨by omega, by rw [HL.out]; omega⟩ B14.out
    rcases h01_14 with rfl | rfl
    rotate_left
    · have t0 : True := trivial
      have HP := Lib.hid (show readL l = .error 42 from hp0.out.trans (show tailL l ⟨false, (U : Int), r, 0, []⟩ 14 = .error 42 by unfold tailL; rw [if_neg (by rw [HL.out]; omega), if_pos (by rw [B14.out]; decide)]))
      have HZ := ((hz.set 1 (.int .i64 U)).set 2 (.bool r))
      go_wp2_with fail
      refine bodyPost_ret (results_c2 (u := .int .i64 0) (v := .int .i64 42) rfl _ rfl rfl rfl (set5_obj HZ.obj (.bool false) (.int .i64 0) (.bool false) (.int .i64 0) (.slice none 0 0))) rfl ?_
      rw [HP.out]
      exact ⟨rfl, HZ.fin _ _ _ _ _⟩
    by_cases eb : n < 19
    · have u3 : decide ((n : Int) < 19) = true := by simp; omega
      have HP := Lib.hid (show readL l = .error 40 from hp0.out.trans (show tailL l ⟨false, (U : Int), r, 0, []⟩ 14 = .error 40 by unfold tailL; rw [if_neg (by rw [HL.out]; omega), if_neg (by rw [B14.out]; decide), if_pos (by rw [HL.out]; omega)]))
      have HZ := ((hz.set 1 (.int .i64 U)).set 2 (.bool r))
      go_wp2_with fail
      refine bodyPost_ret (results_c2 (u := .int .i64 0) (v := .int .i64 40) rfl _ rfl rfl rfl (set5_obj HZ.obj (.bool false) (.int .i64 0) (.bool false) (.int .i64 0) (.slice none 0 0))) rfl ?_
      rw [HP.out]
      exact ⟨rfl, HZ.fin _ _ _ _ _⟩
    have u3 : decide ((n : Int) < 19) = false := by simp; omega
    have u4 : (19 : Int) ≤ (c : Int) := by omega
    have u5 : 19 ≤ c := by omega
    have u6 : ¬ c = 15 := by omega
    have u6b : 15 ≤ c := by omega
    have u6c : (15 : Int) ≤ (c : Int) := by omega
    obtain ⟨lv, lvh⟩ : ∃ u, numAt l 15 4 = u := ⟨_, rfl⟩
    have lvb := numAt_lt HR.out 15 4 (by rw [HL.out]; omega)
    rw [lvh] at lvb
    obtain ⟨L, rfl⟩ := Int.eq_ofNat_of_zero_le lvb.1
    have Llt : L < 16 := by have := lvb.2; simp at this; omega
    have HLx := Lib.hid lvh
    clear lvh lvb
    go_wp2_with fail
    have hz3 := ((hz.set 1 (.int .i64 U)).set 2 (.bool r))
    have hG3 : ((W2.setCell ⟨w.heap.size + 1, 1, none⟩ (.int .i64 U)).setCell ⟨w.heap.size + 1, 2, none⟩ (.bool r)).heap[w.heap.size + 1]? = some (.cells #[.bool false, .int .i64 (U : Int), .bool r, .int .i64 0, .slice none 0 0] 24) := by simp [World.setCell, Array.getElem?_modify, hG]
    have hrow3 : Row .i64 ((W2.setCell ⟨w.heap.size + 1, 1, none⟩ (.int .i64 U)).setCell ⟨w.heap.size + 1, 2, none⟩ (.bool r)) ((W2.setCell ⟨w.heap.size + 1, 1, none⟩ (.int .i64 U)).setCell ⟨w.heap.size + 1, 2, none⟩ (.bool r)).heap.size (some ad) l := hrow0.to hz3.bel
    generalize ((W2.setCell ⟨w.heap.size + 1, 1, none⟩ (.int .i64 U)).setCell ⟨w.heap.size + 1, 2, none⟩ (.bool r)) = W3 at hz3 hG3 hrow3 ⊢
    clear hrow hG hz c0 c1 c2 c3 c4 f0 f1 f2 f3 f4 y0 y1 y2 y3 y4 z0 z1 z2 z3 z4 x12 x13 x14
    have hrow := hrow3
    have g15 := Lib.hid (show getOk ((l.drop 15).take 4) = true by unfold getOk; rw [rightB_take (rightB_drop HR.out 15) 4]; simp [HL.out]; omega)
    have m15 := Lib.hid (show ((l.drop 15).take 4).length = 4 by simp [HL.out]; omega)
    have r15 : Row .i64 W3 W3.heap.size (some ⟨ad.block, ad.off + 15, none⟩) ((l.drop 15).take 4) := hrow.sub_ 15 19 (by omega) (by rw [HL.out]; omega) (fun _ => by simp [Addr.add])
    refine (refGet_at ((l.drop 15).take 4) 4 m15.out (L : Int) HLx.out _ _ _ W3 r15 g15.out).mono ?_
    rintro e wq ⟨rfl, rfl⟩
    clear g15 m15 r15
    obtain ⟨⟨c0, c1, c2, c3, c4⟩, f0, f1, f2, f3, f4⟩ := cells5 hG3
    obtain ⟨⟨y0, y1, y2, y3, y4⟩, z0, z1, z2, z3, z4⟩ := cells5 hz3.obj
    have HL4 : numAt l 15 4 = (L : Int) := HLx.out
    have HL4h := Lib.hid HL4
    clear HL4
    by_cases e8 : 8 < L
    · have u7 : decide ((8 : Int) < (L : Int)) = true := by simp; omega
      have HP := Lib.hid (show readL l = .error 41 from hp0.out.trans (show tailL l ⟨false, (U : Int), r, 0, []⟩ 14 = .error 41 by unfold tailL; rw [if_neg (by rw [HL.out]; omega), if_neg (by rw [B14.out]; decide), if_neg (by rw [HL.out]; omega), HL4h.out, if_pos (by omega)]))
      have HZ := (hz3.set 3 (.int .i64 L))
      go_wp2_with fail
      refine bodyPost_ret (results_c2 (u := .int .i64 0) (v := .int .i64 41) rfl _ rfl rfl rfl (set5_obj HZ.obj (.bool false) (.int .i64 0) (.bool false) (.int .i64 0) (.slice none 0 0))) rfl ?_
      rw [HP.out]
      exact ⟨rfl, HZ.fin _ _ _ _ _⟩
    have u7 : decide ((8 : Int) < (L : Int)) = false := by simp; omega
    have hG4 : (W3.setCell ⟨w.heap.size + 1, 3, none⟩ (.int .i64 L)).heap[w.heap.size + 1]? = some (.cells #[.bool false, .int .i64 (U : Int), .bool r, .int .i64 L, .slice none 0 0] 24) := by simp [World.setCell, Array.getElem?_modify, hG3]
    cases r
    · have u8 : L ≤ 8 := by omega
      by_cases ed : n < 19 + 8 * L
      · have u9 : decide ((n : Int) < 19 + 8 * (L : Int)) = true := by simp; omega
        have HP := Lib.hid (show readL l = .error 40 from hp0.out.trans (show tailL l ⟨false, (U : Int), false, 0, []⟩ 14 = .error 40 by unfold tailL; rw [if_neg (by rw [HL.out]; omega), if_neg (by rw [B14.out]; decide), if_neg (by rw [HL.out]; omega), HL4h.out, if_neg (by omega), if_neg (by simp), Int.toNat_natCast, if_pos (by rw [HL.out]; omega)]))
        have HZ := (hz3.set 3 (.int .i64 L))
        go_wp2_with fail
        refine bodyPost_ret (results_c2 (u := .int .i64 0) (v := .int .i64 40) rfl _ rfl rfl rfl (set5_obj HZ.obj (.bool false) (.int .i64 0) (.bool false) (.int .i64 0) (.slice none 0 0))) rfl ?_
        rw [HP.out]
        exact ⟨rfl, HZ.fin _ _ _ _ _⟩
      have u9 : decide ((n : Int) < 19 + 8 * (L : Int)) = false := by simp; omega
      have v1 : (0 : Int) ≤ 19 + 8 * (L : Int) := by omega
      have v2 : (19 : Int) + 8 * (L : Int) ≤ (c : Int) := by omega
      have v3 : 19 + 8 * L ≤ c := by omega
      have v4 : (19 : Int) ≤ 19 + 8 * (L : Int) := by omega
      have v5 : (19 + 8 * (L : Int)).toNat = 19 + 8 * L := by omega
      have v6 : 19 + 8 * L - 19 = 8 * L := by omega
      have HP := Lib.hid (show readL l = .ok (⟨false, (U : Int), false, (L : Int), joinL ((l.drop 19).take (8 * L))⟩, 19 + 8 * L) from hp0.out.trans (show tailL l ⟨false, (U : Int), false, 0, []⟩ 14 = .ok (⟨false, (U : Int), false, (L : Int), joinL ((l.drop 19).take (8 * L))⟩, 19 + 8 * L) by unfold tailL; rw [if_neg (by rw [HL.out]; omega), if_neg (by rw [B14.out]; decide), if_neg (by rw [HL.out]; omega), HL4h.out, if_neg (by omega), if_neg (by simp), Int.toNat_natCast, if_neg (by rw [HL.out]; omega)]))
      have hj1 := Lib.hid (show ((l.drop 19).take (8 * L)).length = 8 * L by simp [HL.out]; omega)
      have hj2 := Lib.hid (show joinOk ((l.drop 19).take (8 * L)) = true by unfold joinOk; rw [rightB_take (rightB_drop HR.out 19) (8 * L), hj1.out]; simp)
      have hz5 := (hz3.set 3 (.int .i64 L))
      by_cases cc : c = 19
      · obtain rfl : L = 0 := by omega
        go_wp2_with fail
        obtain ⟨W4, hW4⟩ : ∃ W4, (W3.setCell ⟨w.heap.size + 1, 3, none⟩ (.int .i64 0)) = W4 := ⟨_, rfl⟩
        have hG4 : (W3.setCell ⟨w.heap.size + 1, 3, none⟩ (.int .i64 0)).heap[w.heap.size + 1]? = some (.cells #[.bool false, .int .i64 (U : Int), .bool false, .int .i64 0, .slice none 0 0] 24) := hG4
        have hz5 : Fz w (W3.setCell ⟨w.heap.size + 1, 3, none⟩ (.int .i64 0)) := hz5
        rw [hW4] at hG4 hz5 ⊢
        clear hW4
        have hrow4 : Row .i64 W4 W4.heap.size (some ad) l := hrow0.to hz5.bel
        have rj : Row .i64 W4 W4.heap.size (some ad) ((l.drop 19).take (8 * 0)) := .inl (by simp)
        refine (refJoin_q ((l.drop 19).take (8 * 0)) 0 (0) (by omega) hj1.out (some ad) _ W4 rj (by omega) (by omega) hj2.out).mono ?_
        rintro e W5 ⟨A5, c5, rfl, hl5, hc5, hr5, hn5, hB5⟩
        have hz6 := hz5.to hB5
        have hG5 := obj_below hG4 hB5
        have hlt5 : w.heap.size + 1 < W4.heap.size := (Array.getElem?_eq_some_iff.1 hG4).1
        clear c0 c1 c2 c3 c4 f0 f1 f2 f3 f4 y0 y1 y2 y3 y4 z0 z1 z2 z3 z4 rj hrow4 hj1 hj2 hG4 hz5 hG3 hz3 hrow hrow3 hB5
        obtain ⟨⟨c0, c1, c2, c3, c4⟩, f0, f1, f2, f3, f4⟩ := cells5 hG5
        obtain ⟨⟨y0, y1, y2, y3, y4⟩, z0, z1, z2, z3, z4⟩ := cells5 hz6.obj
        have HZ := hz6.set 4 (.slice A5 0 c5)
        have hr6 := row_set (g := w.heap.size + 1) (k := 4) (v := .slice A5 0 c5) hr5 (hn5.imp id fun ⟨ad, e1, e2⟩ => ⟨ad, e1, by omega⟩)
        go_wp2_with fail
        refine bodyPost_ret (results_c2 (u := .int .i64 (19)) (v := .int .i64 0) rfl _ rfl rfl rfl (set5_obj HZ.obj (.bool false) (.int .i64 ((U : Int))) (.bool false) (.int .i64 0) (.slice A5 0 c5))) rfl ?_
        rw [HP.out]
        refine ⟨A5, 0, c5, by rfl, hl5, hc5, ?_, hn5.imp id (fun ⟨ad, e1, e2⟩ => ⟨ad, e1, by omega⟩), HZ.fin _ _ _ _ _⟩
        exact data_to (f := ⟨false, (U : Int), false, (0 : Nat), joinL ((l.drop 19).take (8 * 0))⟩) (by simpa using hr6) (hn5.imp id fun ⟨ad, e1, e2⟩ => ⟨ad, e1, fun e3 => by have := Option.some.inj e3; omega⟩) (set5_grown _ _ _ _ _ _ _)
      · have cc2 : ¬ 19 = c := by omega
        go_wp2_with fail
        obtain ⟨W4, hW4⟩ : ∃ W4, (W3.setCell ⟨w.heap.size + 1, 3, none⟩ (.int .i64 L)) = W4 := ⟨_, rfl⟩
        rw [hW4] at hG4 hz5 ⊢
        clear hW4
        have hrow4 : Row .i64 W4 W4.heap.size (some ad) l := hrow0.to hz5.bel
        have rj : Row .i64 W4 W4.heap.size (some ⟨ad.block, ad.off + 19, none⟩) ((l.drop 19).take (8 * L)) := by
          have := hrow4.sub_ 19 (19 + 8 * L) (by omega) (by rw [HL.out]; omega) (A' := some ⟨ad.block, ad.off + 19, none⟩) (fun _ => by simp [Addr.add])
          rwa [v6] at this
        refine (refJoin_q ((l.drop 19).take (8 * L)) L (8 * L) (by omega) hj1.out (some ⟨ad.block, ad.off + 19, none⟩) _ W4 rj (by omega) (by omega) hj2.out).mono ?_
        rintro e W5 ⟨A5, c5, rfl, hl5, hc5, hr5, hn5, hB5⟩
        have hz6 := hz5.to hB5
        have hG5 := obj_below hG4 hB5
        have hlt5 : w.heap.size + 1 < W4.heap.size := (Array.getElem?_eq_some_iff.1 hG4).1
        clear c0 c1 c2 c3 c4 f0 f1 f2 f3 f4 y0 y1 y2 y3 y4 z0 z1 z2 z3 z4 rj hrow4 hj1 hj2 hG4 hz5 hG3 hz3 hrow hrow3 hB5
        obtain ⟨⟨c0, c1, c2, c3, c4⟩, f0, f1, f2, f3, f4⟩ := cells5 hG5
        obtain ⟨⟨y0, y1, y2, y3, y4⟩, z0, z1, z2, z3, z4⟩ := cells5 hz6.obj
        have HZ := hz6.set 4 (.slice A5 L c5)
        have hr6 := row_set (g := w.heap.size + 1) (k := 4) (v := .slice A5 L c5) hr5 (hn5.imp id fun ⟨ad, e1, e2⟩ => ⟨ad, e1, by omega⟩)
        go_wp2_with fail
        refine bodyPost_ret (results_c2 (u := .int .i64 (19 + 8 * (L : Int))) (v := .int .i64 0) rfl _ rfl rfl rfl (set5_obj HZ.obj (.bool false) (.int .i64 ((U : Int))) (.bool false) (.int .i64 L) (.slice A5 L c5))) rfl ?_
        rw [HP.out]
        refine ⟨A5, L, c5, by simp, hl5, hc5, ?_, hn5.imp id (fun ⟨ad, e1, e2⟩ => ⟨ad, e1, by omega⟩), HZ.fin _ _ _ _ _⟩
        exact data_to (f := ⟨false, (U : Int), false, (L : Nat), joinL ((l.drop 19).take (8 * L))⟩) (by simpa using hr6) (hn5.imp id fun ⟨ad, e1, e2⟩ => ⟨ad, e1, fun e3 => by have := Option.some.inj e3; omega⟩) (set5_grown _ _ _ _ _ _ _)
    · have t0 : True := trivial
      have HP := Lib.hid (show readL l = .ok (⟨false, (U : Int), true, (L : Int), []⟩, 19) from hp0.out.trans (show tailL l ⟨false, (U : Int), true, 0, []⟩ 14 = .ok (⟨false, (U : Int), true, (L : Int), []⟩, 19) by unfold tailL; rw [if_neg (by rw [HL.out]; omega), if_neg (by rw [B14.out]; decide), if_neg (by rw [HL.out]; omega), HL4h.out, if_neg (by omega), if_pos rfl]))
      have HZ := (hz3.set 3 (.int .i64 L))
      go_wp2_with fail
      refine bodyPost_ret (results_c2 (u := .int .i64 19) (v := .int .i64 0) rfl _ rfl rfl rfl (set5_obj HZ.obj (.bool false) (.int .i64 ((U : Int))) (.bool true) (.int .i64 L) (.slice none 0 0))) rfl ?_
      rw [HP.out]
      exact ⟨none, 0, 0, rfl, rfl, Nat.le_refl _, .inl rfl, .inl rfl, HZ.fin _ _ _ _ _⟩
  · rcases h01_12 with rfl | rfl
    · obtain rfl : false = r := by rw [← hr']; rfl
      have HP := Lib.hid (show readL l = .error 42 from (by unfold readL; rw [if_neg (by rw [HL.out]; omega), if_neg (by rw [HB0.out]; decide)]; unfold namedL; rw [if_neg (by rw [HL.out]; omega), if_neg (by rw [B13.out]; decide), if_pos (by rw [B12.out]; decide)]))
      have HZ := ((hz.set 1 (.int .i64 U)).set 2 (.bool false))
      go_wp2_with fail
      refine bodyPost_ret (results_c2 (u := .int .i64 0) (v := .int .i64 42) rfl _ rfl rfl rfl (set5_obj HZ.obj (.bool false) (.int .i64 0) (.bool false) (.int .i64 0) (.slice none 0 0))) rfl ?_
      rw [HP.out]
      exact ⟨rfl, HZ.fin _ _ _ _ _⟩
    · obtain rfl : true = r := by rw [← hr']; rfl
      by_cases e33 : n < 33
      · have t3 : decide ((n : Int) < 33) = true := by simp; omega
        have HP := Lib.hid (show readL l = .error 40 from (by unfold readL; rw [if_neg (by rw [HL.out]; omega), if_neg (by rw [HB0.out]; decide)]; unfold namedL; rw [if_neg (by rw [HL.out]; omega), if_neg (by rw [B13.out]; decide), if_neg (by rw [B12.out]; decide), if_pos (by rw [HL.out]; omega)]))
        have HZ := ((hz.set 1 (.int .i64 U)).set 2 (.bool true))
        go_wp2_with fail
        refine bodyPost_ret (results_c2 (u := .int .i64 0) (v := .int .i64 40) rfl _ rfl rfl rfl (set5_obj HZ.obj (.bool false) (.int .i64 0) (.bool false) (.int .i64 0) (.slice none 0 0))) rfl ?_
        rw [HP.out]
        exact ⟨rfl, HZ.fin _ _ _ _ _⟩
      have t3 : decide ((n : Int) < 33) = false := by simp; omega
      have t4 : (32 : Int) ≤ (c : Int) := by omega
      have t5 : 32 ≤ c := by omega
      have t6 : ¬ c = 14 := by omega
      have t7 : 14 ≤ c := by omega
      have t8 : (14 : Int) ≤ (c : Int) := by omega
      have t9 : (32 : Int) < (n : Int) := by omega
      obtain ⟨vv, vvh⟩ : ∃ u, numAt l 14 18 = u := ⟨_, rfl⟩
      have vvb := numAt_lt HR.out 14 18 (by rw [HL.out]; omega)
      rw [vvh] at vvb
      obtain ⟨V, rfl⟩ := Int.eq_ofNat_of_zero_le vvb.1
      have Vlt : V < 262144 := by have := vvb.2; simp at this; omega
      have HV := Lib.hid vvh
      clear vvh vvb
      go_wp2_with fail
      have hzb := ((hz.set 1 (.int .i64 U)).set 2 (.bool true))
      have hGb : ((W2.setCell ⟨w.heap.size + 1, 1, none⟩ (.int .i64 U)).setCell ⟨w.heap.size + 1, 2, none⟩ (.bool true)).heap[w.heap.size + 1]? = some (.cells #[.bool false, .int .i64 (U : Int), .bool true, .int .i64 0, .slice none 0 0] 24) := by simp [World.setCell, Array.getElem?_modify, hG]
      have hrowb : Row .i64 ((W2.setCell ⟨w.heap.size + 1, 1, none⟩ (.int .i64 U)).setCell ⟨w.heap.size + 1, 2, none⟩ (.bool true)) ((W2.setCell ⟨w.heap.size + 1, 1, none⟩ (.int .i64 U)).setCell ⟨w.heap.size + 1, 2, none⟩ (.bool true)).heap.size (some ad) l := hrow0.to hzb.bel
      generalize ((W2.setCell ⟨w.heap.size + 1, 1, none⟩ (.int .i64 U)).setCell ⟨w.heap.size + 1, 2, none⟩ (.bool true)) = Wb at hzb hGb hrowb ⊢
      clear hrow hG hz c0 c1 c2 c3 c4 f0 f1 f2 f3 f4 y0 y1 y2 y3 y4 z0 z1 z2 z3 z4 x12 x13 hr' HRr
      have hrow := hrowb
      have hG := hGb
      have hz := hzb
      clear hrowb hGb hzb
      have g14 := Lib.hid (show getOk ((l.drop 14).take 18) = true by unfold getOk; rw [rightB_take (rightB_drop HR.out 14) 18]; simp [HL.out]; omega)
      have m14 := Lib.hid (show ((l.drop 14).take 18).length = 18 by simp [HL.out]; omega)
      have r14 : Row .i64 Wb Wb.heap.size (some ⟨ad.block, ad.off + 14, none⟩) ((l.drop 14).take 18) := hrow.sub_ 14 32 (by omega) (by rw [HL.out]; omega) (fun _ => by simp [Addr.add])
      refine (refGet_at ((l.drop 14).take 18) 18 m14.out (V : Int) HV.out _ _ _ Wb r14 g14.out).mono ?_
      rintro e wq ⟨rfl, rfl⟩
      clear g14 m14 r14
      obtain ⟨⟨c0, c1, c2, c3, c4⟩, f0, f1, f2, f3, f4⟩ := cells5 hG
      obtain ⟨⟨y0, y1, y2, y3, y4⟩, z0, z1, z2, z3, z4⟩ := cells5 hz.obj
      obtain ⟨b32, hb32⟩ : ∃ b, l.getD 32 0 = b := ⟨_, rfl⟩
      have h01_32 := getD_01 HR.out 32
      rw [hb32] at h01_32
      have B32 := Lib.hid hb32
      clear hb32
      have x32 : Wb.cell? ⟨ad.block, ad.off + 32, none⟩ = some (.int .i64 b32) := cell_k hrow (k := 32) ⟨by omega, by rw [HL.out]; omega⟩ B32.out
      obtain ⟨r, hr⟩ : ∃ r, decide (b32 = 1) = r := ⟨_, rfl⟩
      have hr' : (b32 == 1) = r := by rw [← hr]; by_cases e : b32 = 1 <;> simp [e]
      have HRr := Lib.hid hr
      clear hr h01_32
      have hsh : (U : Int) * 262144 + (V : Int) ≤ 9223372036854775807 := by omega
      by_cases e34 : n = 33
      · subst e34
        have HP := Lib.hid (show readL l = .error 40 from (by unfold readL; rw [if_neg (by rw [HL.out]; omega), if_neg (by rw [HB0.out]; decide)]; unfold namedL; rw [if_neg (by rw [HL.out]; omega), if_neg (by rw [B13.out]; decide), if_neg (by rw [B12.out]; decide), if_pos (by rw [HL.out]; omega)]))
        have HZ := (((hz.set 0 (.bool true)).set 1 (.int .i64 ((U : Int) * 262144 + (V : Int)))).set 2 (.bool r))
        go_wp2_with fail
        refine bodyPost_ret (results_c2 (u := .int .i64 0) (v := .int .i64 40) rfl _ rfl rfl rfl (set5_obj HZ.obj (.bool false) (.int .i64 0) (.bool false) (.int .i64 0) (.slice none 0 0))) rfl ?_
        rw [HP.out]
        exact ⟨rfl, HZ.fin _ _ _ _ _⟩
      have t10 : ((n : Int) == 33) = false := by simp; omega
      have t11 : (n == 33) = false := by simp; omega
      have t12 : (33 : Int) < (n : Int) := by omega
      have t13 : 33 < n := by omega
      obtain ⟨b33, hb33⟩ : ∃ b, l.getD 33 0 = b := ⟨_, rfl⟩
      have h01_33 := getD_01 HR.out 33
      rw [hb33] at h01_33
      have B33 := Lib.hid hb33
      clear hb33
      have x33 : Wb.cell? ⟨ad.block, ad.off + 33, none⟩ = some (.int .i64 b33) := cell_k hrow (k := 33) ⟨by omega, by rw [HL.out]; omega⟩ B33.out
      rcases h01_33 with rfl | rfl
      rotate_left
      · have t0 : True := trivial
        have HP := Lib.hid (show readL l = .error 42 from (by unfold readL; rw [if_neg (by rw [HL.out]; omega), if_neg (by rw [HB0.out]; decide)]; unfold namedL; rw [if_neg (by rw [HL.out]; omega), if_neg (by rw [B13.out]; decide), if_neg (by rw [B12.out]; decide), if_neg (by rw [HL.out]; omega), if_pos (by rw [B33.out]; decide)]))
        have HZ := (((hz.set 0 (.bool true)).set 1 (.int .i64 ((U : Int) * 262144 + (V : Int)))).set 2 (.bool r))
        go_wp2_with fail
        refine bodyPost_ret (results_c2 (u := .int .i64 0) (v := .int .i64 42) rfl _ rfl rfl rfl (set5_obj HZ.obj (.bool false) (.int .i64 0) (.bool false) (.int .i64 0) (.slice none 0 0))) rfl ?_
        rw [HP.out]
        exact ⟨rfl, HZ.fin _ _ _ _ _⟩
      have hp0 := Lib.hid (show readL l = tailL l ⟨true, ((U : Int) * 262144 + (V : Int)), r, 0, []⟩ 34 by unfold readL; rw [if_neg (by rw [HL.out]; omega), if_neg (by rw [HB0.out]; decide)]; unfold namedL; rw [if_neg (by rw [HL.out]; omega), if_neg (by rw [B13.out]; decide), if_neg (by rw [B12.out]; decide), if_neg (by rw [HL.out]; omega), if_neg (by rw [B33.out]; decide), B32.out, HU.out, HV.out, HRr.out])
      by_cases ea : n = 34
      · subst ea
        have HP := Lib.hid (show readL l = .error 40 from hp0.out.trans (show tailL l ⟨true, ((U : Int) * 262144 + (V : Int)), r, 0, []⟩ 34 = .error 40 by unfold tailL; rw [if_pos (by rw [HL.out]; omega)]))
        have HZ := (((hz.set 0 (.bool true)).set 1 (.int .i64 ((U : Int) * 262144 + (V : Int)))).set 2 (.bool r))
        go_wp2_with fail
        refine bodyPost_ret (results_c2 (u := .int .i64 0) (v := .int .i64 40) rfl _ rfl rfl rfl (set5_obj HZ.obj (.bool false) (.int .i64 0) (.bool false) (.int .i64 0) (.slice none 0 0))) rfl ?_
        rw [HP.out]
        exact ⟨rfl, HZ.fin _ _ _ _ _⟩
      have u1 : ((n : Int) == 34) = false := by simp; omega
      have u2 : (n == 34) = false := by simp; omega
      have u1p : (34 : Int) < (n : Int) := by omega
      have u2p : 34 < n := by omega
      obtain ⟨b34, hb34⟩ : ∃ b, l.getD 34 0 = b := ⟨_, rfl⟩
      have h01_34 := getD_01 HR.out 34
      rw [hb34] at h01_34
      have B34 := Lib.hid hb34
      clear hb34
      have x34 : Wb.cell? ⟨ad.block, ad.off + 34, none⟩ = some (.int .i64 b34) := cell_k hrow (k := 34) ⟨by omega, by rw [HL.out]; omega⟩ B34.out
      rcases h01_34 with rfl | rfl
      rotate_left
      · have t0 : True := trivial
        have HP := Lib.hid (show readL l = .error 42 from hp0.out.trans (show tailL l ⟨true, ((U : Int) * 262144 + (V : Int)), r, 0, []⟩ 34 = .error 42 by unfold tailL; rw [if_neg (by rw [HL.out]; omega), if_pos (by rw [B34.out]; decide)]))
        have HZ := (((hz.set 0 (.bool true)).set 1 (.int .i64 ((U : Int) * 262144 + (V : Int)))).set 2 (.bool r))
        go_wp2_with fail
        refine bodyPost_ret (results_c2 (u := .int .i64 0) (v := .int .i64 42) rfl _ rfl rfl rfl (set5_obj HZ.obj (.bool false) (.int .i64 0) (.bool false) (.int .i64 0) (.slice none 0 0))) rfl ?_
        rw [HP.out]
        exact ⟨rfl, HZ.fin _ _ _ _ _⟩
      by_cases eb : n < 39
      · have u3 : decide ((n : Int) < 39) = true := by simp; omega
        have HP := Lib.hid (show readL l = .error 40 from hp0.out.trans (show tailL l ⟨true, ((U : Int) * 262144 + (V : Int)), r, 0, []⟩ 34 = .error 40 by unfold tailL; rw [if_neg (by rw [HL.out]; omega), if_neg (by rw [B34.out]; decide), if_pos (by rw [HL.out]; omega)]))
        have HZ := (((hz.set 0 (.bool true)).set 1 (.int .i64 ((U : Int) * 262144 + (V : Int)))).set 2 (.bool r))
        go_wp2_with fail
        refine bodyPost_ret (results_c2 (u := .int .i64 0) (v := .int .i64 40) rfl _ rfl rfl rfl (set5_obj HZ.obj (.bool false) (.int .i64 0) (.bool false) (.int .i64 0) (.slice none 0 0))) rfl ?_
        rw [HP.out]
        exact ⟨rfl, HZ.fin _ _ _ _ _⟩
      have u3 : decide ((n : Int) < 39) = false := by simp; omega
      have u4 : (39 : Int) ≤ (c : Int) := by omega
      have u5 : 39 ≤ c := by omega
      have u6 : ¬ c = 35 := by omega
      have u6b : 35 ≤ c := by omega
      have u6c : (35 : Int) ≤ (c : Int) := by omega
      obtain ⟨lv, lvh⟩ : ∃ u, numAt l 35 4 = u := ⟨_, rfl⟩
      have lvb := numAt_lt HR.out 35 4 (by rw [HL.out]; omega)
      rw [lvh] at lvb
      obtain ⟨L, rfl⟩ := Int.eq_ofNat_of_zero_le lvb.1
      have Llt : L < 16 := by have := lvb.2; simp at this; omega
      have HLx := Lib.hid lvh
      clear lvh lvb
      go_wp2_with fail
      have hz3 := (((hz.set 0 (.bool true)).set 1 (.int .i64 ((U : Int) * 262144 + (V : Int)))).set 2 (.bool r))
      have hG3 : (((Wb.setCell ⟨w.heap.size + 1, 0, none⟩ (.bool true)).setCell ⟨w.heap.size + 1, 1, none⟩ (.int .i64 ((U : Int) * 262144 + (V : Int)))).setCell ⟨w.heap.size + 1, 2, none⟩ (.bool r)).heap[w.heap.size + 1]? = some (.cells #[.bool true, .int .i64 ((U : Int) * 262144 + (V : Int)), .bool r, .int .i64 0, .slice none 0 0] 24) := by simp [World.setCell, Array.getElem?_modify, hG]
      have hrow3 : Row .i64 (((Wb.setCell ⟨w.heap.size + 1, 0, none⟩ (.bool true)).setCell ⟨w.heap.size + 1, 1, none⟩ (.int .i64 ((U : Int) * 262144 + (V : Int)))).setCell ⟨w.heap.size + 1, 2, none⟩ (.bool r)) (((Wb.setCell ⟨w.heap.size + 1, 0, none⟩ (.bool true)).setCell ⟨w.heap.size + 1, 1, none⟩ (.int .i64 ((U : Int) * 262144 + (V : Int)))).setCell ⟨w.heap.size + 1, 2, none⟩ (.bool r)).heap.size (some ad) l := hrow0.to hz3.bel
      generalize (((Wb.setCell ⟨w.heap.size + 1, 0, none⟩ (.bool true)).setCell ⟨w.heap.size + 1, 1, none⟩ (.int .i64 ((U : Int) * 262144 + (V : Int)))).setCell ⟨w.heap.size + 1, 2, none⟩ (.bool r)) = W3 at hz3 hG3 hrow3 ⊢
      clear hrow hG hz c0 c1 c2 c3 c4 f0 f1 f2 f3 f4 y0 y1 y2 y3 y4 z0 z1 z2 z3 z4 x32 x33 x34
      have hrow := hrow3
      have g35 := Lib.hid (show getOk ((l.drop 35).take 4) = true by unfold getOk; rw [rightB_take (rightB_drop HR.out 35) 4]; simp [HL.out]; omega)
      have m35 := Lib.hid (show ((l.drop 35).take 4).length = 4 by simp [HL.out]; omega)
      have r35 : Row .i64 W3 W3.heap.size (some ⟨ad.block, ad.off + 35, none⟩) ((l.drop 35).take 4) := hrow.sub_ 35 39 (by omega) (by rw [HL.out]; omega) (fun _ => by simp [Addr.add])
      refine (refGet_at ((l.drop 35).take 4) 4 m35.out (L : Int) HLx.out _ _ _ W3 r35 g35.out).mono ?_
      rintro e wq ⟨rfl, rfl⟩
      clear g35 m35 r35
      obtain ⟨⟨c0, c1, c2, c3, c4⟩, f0, f1, f2, f3, f4⟩ := cells5 hG3
      obtain ⟨⟨y0, y1, y2, y3, y4⟩, z0, z1, z2, z3, z4⟩ := cells5 hz3.obj
      have HL4 : numAt l 35 4 = (L : Int) := HLx.out
      have HL4h := Lib.hid HL4
      clear HL4
      by_cases e8 : 8 < L
      · have u7 : decide ((8 : Int) < (L : Int)) = true := by simp; omega
        have HP := Lib.hid (show readL l = .error 41 from hp0.out.trans (show tailL l ⟨true, ((U : Int) * 262144 + (V : Int)), r, 0, []⟩ 34 = .error 41 by unfold tailL; rw [if_neg (by rw [HL.out]; omega), if_neg (by rw [B34.out]; decide), if_neg (by rw [HL.out]; omega), HL4h.out, if_pos (by omega)]))
        have HZ := (hz3.set 3 (.int .i64 L))
        go_wp2_with fail
        refine bodyPost_ret (results_c2 (u := .int .i64 0) (v := .int .i64 41) rfl _ rfl rfl rfl (set5_obj HZ.obj (.bool false) (.int .i64 0) (.bool false) (.int .i64 0) (.slice none 0 0))) rfl ?_
        rw [HP.out]
        exact ⟨rfl, HZ.fin _ _ _ _ _⟩
      have u7 : decide ((8 : Int) < (L : Int)) = false := by simp; omega
      have hG4 : (W3.setCell ⟨w.heap.size + 1, 3, none⟩ (.int .i64 L)).heap[w.heap.size + 1]? = some (.cells #[.bool true, .int .i64 ((U : Int) * 262144 + (V : Int)), .bool r, .int .i64 L, .slice none 0 0] 24) := by simp [World.setCell, Array.getElem?_modify, hG3]
      cases r
      · have u8 : L ≤ 8 := by omega
        by_cases ed : n < 39 + 8 * L
        · have u9 : decide ((n : Int) < 39 + 8 * (L : Int)) = true := by simp; omega
          have HP := Lib.hid (show readL l = .error 40 from hp0.out.trans (show tailL l ⟨true, ((U : Int) * 262144 + (V : Int)), false, 0, []⟩ 34 = .error 40 by unfold tailL; rw [if_neg (by rw [HL.out]; omega), if_neg (by rw [B34.out]; decide), if_neg (by rw [HL.out]; omega), HL4h.out, if_neg (by omega), if_neg (by simp), Int.toNat_natCast, if_pos (by rw [HL.out]; omega)]))
          have HZ := (hz3.set 3 (.int .i64 L))
          go_wp2_with fail
          refine bodyPost_ret (results_c2 (u := .int .i64 0) (v := .int .i64 40) rfl _ rfl rfl rfl (set5_obj HZ.obj (.bool false) (.int .i64 0) (.bool false) (.int .i64 0) (.slice none 0 0))) rfl ?_
          rw [HP.out]
          exact ⟨rfl, HZ.fin _ _ _ _ _⟩
        have u9 : decide ((n : Int) < 39 + 8 * (L : Int)) = false := by simp; omega
        have v1 : (0 : Int) ≤ 39 + 8 * (L : Int) := by omega
        have v2 : (39 : Int) + 8 * (L : Int) ≤ (c : Int) := by omega
        have v3 : 39 + 8 * L ≤ c := by omega
        have v4 : (39 : Int) ≤ 39 + 8 * (L : Int) := by omega
        have v5 : (39 + 8 * (L : Int)).toNat = 39 + 8 * L := by omega
        have v6 : 39 + 8 * L - 39 = 8 * L := by omega
        have HP := Lib.hid (show readL l = .ok (⟨true, ((U : Int) * 262144 + (V : Int)), false, (L : Int), joinL ((l.drop 39).take (8 * L))⟩, 39 + 8 * L) from hp0.out.trans (show tailL l ⟨true, ((U : Int) * 262144 + (V : Int)), false, 0, []⟩ 34 = .ok (⟨true, ((U : Int) * 262144 + (V : Int)), false, (L : Int), joinL ((l.drop 39).take (8 * L))⟩, 39 + 8 * L) by unfold tailL; rw [if_neg (by rw [HL.out]; omega), if_neg (by rw [B34.out]; decide), if_neg (by rw [HL.out]; omega), HL4h.out, if_neg (by omega), if_neg (by simp), Int.toNat_natCast, if_neg (by rw [HL.out]; omega)]))
        have hj1 := Lib.hid (show ((l.drop 39).take (8 * L)).length = 8 * L by simp [HL.out]; omega)
        have hj2 := Lib.hid (show joinOk ((l.drop 39).take (8 * L)) = true by unfold joinOk; rw [rightB_take (rightB_drop HR.out 39) (8 * L), hj1.out]; simp)
        have hz5 := (hz3.set 3 (.int .i64 L))
        by_cases cc : c = 39
        · obtain rfl : L = 0 := by omega
          go_wp2_with fail
          obtain ⟨W4, hW4⟩ : ∃ W4, (W3.setCell ⟨w.heap.size + 1, 3, none⟩ (.int .i64 0)) = W4 := ⟨_, rfl⟩
          have hG4 : (W3.setCell ⟨w.heap.size + 1, 3, none⟩ (.int .i64 0)).heap[w.heap.size + 1]? = some (.cells #[.bool true, .int .i64 ((U : Int) * 262144 + (V : Int)), .bool false, .int .i64 0, .slice none 0 0] 24) := hG4
          have hz5 : Fz w (W3.setCell ⟨w.heap.size + 1, 3, none⟩ (.int .i64 0)) := hz5
          rw [hW4] at hG4 hz5 ⊢
          clear hW4
          have hrow4 : Row .i64 W4 W4.heap.size (some ad) l := hrow0.to hz5.bel
          have rj : Row .i64 W4 W4.heap.size (some ad) ((l.drop 39).take (8 * 0)) := .inl (by simp)
          refine (refJoin_q ((l.drop 39).take (8 * 0)) 0 (0) (by omega) hj1.out (some ad) _ W4 rj (by omega) (by omega) hj2.out).mono ?_
          rintro e W5 ⟨A5, c5, rfl, hl5, hc5, hr5, hn5, hB5⟩
          have hz6 := hz5.to hB5
          have hG5 := obj_below hG4 hB5
          have hlt5 : w.heap.size + 1 < W4.heap.size := (Array.getElem?_eq_some_iff.1 hG4).1
          clear c0 c1 c2 c3 c4 f0 f1 f2 f3 f4 y0 y1 y2 y3 y4 z0 z1 z2 z3 z4 rj hrow4 hj1 hj2 hG4 hz5 hG3 hz3 hrow hrow3 hB5
          obtain ⟨⟨c0, c1, c2, c3, c4⟩, f0, f1, f2, f3, f4⟩ := cells5 hG5
          obtain ⟨⟨y0, y1, y2, y3, y4⟩, z0, z1, z2, z3, z4⟩ := cells5 hz6.obj
          have HZ := hz6.set 4 (.slice A5 0 c5)
          have hr6 := row_set (g := w.heap.size + 1) (k := 4) (v := .slice A5 0 c5) hr5 (hn5.imp id fun ⟨ad, e1, e2⟩ => ⟨ad, e1, by omega⟩)
          go_wp2_with fail
          refine bodyPost_ret (results_c2 (u := .int .i64 (39)) (v := .int .i64 0) rfl _ rfl rfl rfl (set5_obj HZ.obj (.bool true) (.int .i64 (((U : Int) * 262144 + (V : Int)))) (.bool false) (.int .i64 0) (.slice A5 0 c5))) rfl ?_
          rw [HP.out]
          refine ⟨A5, 0, c5, by rfl, hl5, hc5, ?_, hn5.imp id (fun ⟨ad, e1, e2⟩ => ⟨ad, e1, by omega⟩), HZ.fin _ _ _ _ _⟩
          exact data_to (f := ⟨true, ((U : Int) * 262144 + (V : Int)), false, (0 : Nat), joinL ((l.drop 39).take (8 * 0))⟩) (by simpa using hr6) (hn5.imp id fun ⟨ad, e1, e2⟩ => ⟨ad, e1, fun e3 => by have := Option.some.inj e3; omega⟩) (set5_grown _ _ _ _ _ _ _)
        · have cc2 : ¬ 39 = c := by omega
          go_wp2_with fail
          obtain ⟨W4, hW4⟩ : ∃ W4, (W3.setCell ⟨w.heap.size + 1, 3, none⟩ (.int .i64 L)) = W4 := ⟨_, rfl⟩
          rw [hW4] at hG4 hz5 ⊢
          clear hW4
          have hrow4 : Row .i64 W4 W4.heap.size (some ad) l := hrow0.to hz5.bel
          have rj : Row .i64 W4 W4.heap.size (some ⟨ad.block, ad.off + 39, none⟩) ((l.drop 39).take (8 * L)) := by
            have := hrow4.sub_ 39 (39 + 8 * L) (by omega) (by rw [HL.out]; omega) (A' := some ⟨ad.block, ad.off + 39, none⟩) (fun _ => by simp [Addr.add])
            rwa [v6] at this
          refine (refJoin_q ((l.drop 39).take (8 * L)) L (8 * L) (by omega) hj1.out (some ⟨ad.block, ad.off + 39, none⟩) _ W4 rj (by omega) (by omega) hj2.out).mono ?_
          rintro e W5 ⟨A5, c5, rfl, hl5, hc5, hr5, hn5, hB5⟩
          have hz6 := hz5.to hB5
          have hG5 := obj_below hG4 hB5
          have hlt5 : w.heap.size + 1 < W4.heap.size := (Array.getElem?_eq_some_iff.1 hG4).1
          clear c0 c1 c2 c3 c4 f0 f1 f2 f3 f4 y0 y1 y2 y3 y4 z0 z1 z2 z3 z4 rj hrow4 hj1 hj2 hG4 hz5 hG3 hz3 hrow hrow3 hB5
          obtain ⟨⟨c0, c1, c2, c3, c4⟩, f0, f1, f2, f3, f4⟩ := cells5 hG5
          obtain ⟨⟨y0, y1, y2, y3, y4⟩, z0, z1, z2, z3, z4⟩ := cells5 hz6.obj
          have HZ := hz6.set 4 (.slice A5 L c5)
          have hr6 := row_set (g := w.heap.size + 1) (k := 4) (v := .slice A5 L c5) hr5 (hn5.imp id fun ⟨ad, e1, e2⟩ => ⟨ad, e1, by omega⟩)
          go_wp2_with fail
          refine bodyPost_ret (results_c2 (u := .int .i64 (39 + 8 * (L : Int))) (v := .int .i64 0) rfl _ rfl rfl rfl (set5_obj HZ.obj (.bool true) (.int .i64 (((U : Int) * 262144 + (V : Int)))) (.bool false) (.int .i64 L) (.slice A5 L c5))) rfl ?_
          rw [HP.out]
          refine ⟨A5, L, c5, by simp, hl5, hc5, ?_, hn5.imp id (fun ⟨ad, e1, e2⟩ => ⟨ad, e1, by omega⟩), HZ.fin _ _ _ _ _⟩
          exact data_to (f := ⟨true, ((U : Int) * 262144 + (V : Int)), false, (L : Nat), joinL ((l.drop 39).take (8 * L))⟩) (by simpa using hr6) (hn5.imp id fun ⟨ad, e1, e2⟩ => ⟨ad, e1, fun e3 => by have := Option.some.inj e3; omega⟩) (set5_grown _ _ _ _ _ _ _)
      · have t0 : True := trivial
        have HP := Lib.hid (show readL l = .ok (⟨true, ((U : Int) * 262144 + (V : Int)), true, (L : Int), []⟩, 39) from hp0.out.trans (show tailL l ⟨true, ((U : Int) * 262144 + (V : Int)), true, 0, []⟩ 34 = .ok (⟨true, ((U : Int) * 262144 + (V : Int)), true, (L : Int), []⟩, 39) by unfold tailL; rw [if_neg (by rw [HL.out]; omega), if_neg (by rw [B34.out]; decide), if_neg (by rw [HL.out]; omega), HL4h.out, if_neg (by omega), if_pos rfl]))
        have HZ := (hz3.set 3 (.int .i64 L))
        go_wp2_with fail
        refine bodyPost_ret (results_c2 (u := .int .i64 39) (v := .int .i64 0) rfl _ rfl rfl rfl (set5_obj HZ.obj (.bool true) (.int .i64 (((U : Int) * 262144 + (V : Int)))) (.bool true) (.int .i64 L) (.slice none 0 0))) rfl ?_
        rw [HP.out]
        exact ⟨none, 0, 0, rfl, rfl, Nat.le_refl _, .inl rfl, .inl rfl, HZ.fin _ _ _ _ _⟩

theorem refRead_any (l : List Int) (n : Nat) (hn : l.length = n) (A : Option Addr) (c : Nat) (w : World) (h : Row .i64 w w.heap.size A l) (hr : rightB l = true) (hm : n ≤ 1000000) (hnc : n ≤ c) :
    Calls Try.prog 33 #[.slice A n c] w (ReadPost w (readL l)) := by
  refine (refRead_new l n hn A c w h hr hm hnc).mono ?_
  intro e w' hp
  cases hq : readL l with
  | error e => rw [hq] at hp; exact hp
  | ok q =>
    obtain ⟨f, k⟩ := q
    rw [hq] at hp
    obtain ⟨D, m, c', h1, h2, h3, h4, _, h6⟩ := hp
    exact ⟨D, m, c', h1, h2, h3, h4, h6⟩

end Go.Proofs.Ytmapkjjglhpamaa
