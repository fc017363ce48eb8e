/-
  The document's Read of layer 5, walked. (Written by wip/tools/mk_wrr.py.)
-/
import Derived.Test.YtmapkjjglhpamaaWTail
namespace Go.Proofs.Ytmapkjjglhpamaa
open Go.RowKit

set_option maxRecDepth 100000 in
set_option maxHeartbeats 4000000 in
theorem refRead5_any (l : List Int) (A : Option Addr) (c : Nat) (w : World) (h : Row .i64 w w.heap.size A l) (hr : rightB l = true) (hm : l.length ≤ 5000) :
    Calls Try.prog 23 #[.slice A l.length c] w (WirePost w (wireRd l)) := by
  have HR := Lib.hid hr
  clear hr
  obtain ⟨w1, hw1⟩ : ∃ w1, w.alloc (.cells #[.bool false, .int .i64 0, .bool false, .int .i64 0, .slice none 0 0] 24) = w1 := ⟨_, rfl⟩
  have hB1 : Below w.heap.size w w1 := by rw [← hw1]; exact below_alloc1 _ _
  have hF1 : w1.heap[w.heap.size]? = some (.cells #[.bool false, .int .i64 0, .bool false, .int .i64 0, .slice none 0 0] 24) := by rw [← hw1]; exact World.alloc_heap_new _ _
  have HW1 := Lib.hid hw1
  clear hw1
  go_enter Try.func23, Try.ntmps23
  go_wp2_with fail
  rw [HW1.out]
  clear HW1
  go_loopw [5] (fun mn wr => ∃ many : Nat, 1 ≤ many ∧ many ≤ l.length + 1 ∧ mn = .int .i64 many ∧ Sh l many ∧ wr.heap[w.heap.size]? = some (.cells #[.bool false, .int .i64 0, .bool false, .int .i64 0, .slice none 0 0] 24) ∧ Below w.heap.size w wr) (fun mn _ => l.length + 2 - (intOf mn).toNat)
  case atStart => exact ⟨1, by omega, by omega, rfl, Sh.one l, hF1, hB1⟩
  case round =>
    clear hF1 hB1
    obtain ⟨many, hm1, hm2, rfl, hsh, hFr, hBr⟩ := hrel
    have Hsh := Lib.hid hsh
    clear hsh
    go_wp2_with fail
    refine (bare_any l A c many false wr (h.to hBr) (by omega) (by omega)).mono ?_
    rintro e w2 ⟨k, m, Ah, ch, v, rfl, hml, hmc, hb, hrow, hB2⟩
    have hBB := below_then hBr hB2
    have hF2 := obj_below hFr hB2
    clear hB2 hFr hBr
    by_cases hv : v = 0
    rotate_left
    · have HRR := Lib.hid (first_fault Hsh.out hb hv)
      have dv : (v != 0) = true := by simp [hv]
      clear hb hv
      obtain ⟨⟨y0, y1, y2, y3, y4⟩, z0, z1, z2, z3, z4⟩ := cells5 hF2
      go_wp2_with fail
      first | (refine bodyPost_ret (results_c2 (u := .int .i64 v) (v := .int .i64 k) rfl _ rfl rfl rfl (set5_obj hF2 (.bool false) (.int .i64 0) (.bool false) (.int .i64 0) (.slice none 0 0))) rfl (fin_fault hBB hF2 HRR.out)) | (rw [Exit.noGoto_ret]; refine bodyPost_ret (results_c2 (u := .int .i64 v) (v := .int .i64 k) rfl _ rfl rfl rfl (set5_obj hF2 (.bool false) (.int .i64 0) (.bool false) (.int .i64 0) (.slice none 0 0))) rfl (fin_fault hBB hF2 HRR.out))
    subst hv
    have Hb := Lib.hid hb
    clear hb
    have hmk := pl_len l k
    have hkl := Hb.out.le
    rw [hml] at hmk
    obtain ⟨res, hres⟩ : ∃ res, readL (pl l k) = res := ⟨_, rfl⟩
    have P2 := refRead_new (pl l k) m hml Ah ch w2 hrow (pl_right HR.out k) (by omega) hmc
    rw [hres] at P2
    have HP2 := Lib.hid P2
    have Hres := Lib.hid hres
    clear P2 hrow hml
    rcases res with er | ⟨f, n⟩
    · have her := read_err hres
      clear hres
      go_wp2_with fail
      refine HP2.out.mono ?_
      clear HP2
      rintro e w3 ⟨rfl, hB3⟩
      have hBB3 := below_then hBB hB3
      have hF3 := obj_below hF2 hB3
      clear hB3 hBB hF2
      rcases her with rfl | rfl | rfl
      · skip -- 40
        obtain ⟨w4, hw4⟩ : ∃ w4, w3.alloc (.cells #[.bool false, .int .i64 0, .bool false, .int .i64 0, .slice none 0 0] 24) = w4 := ⟨_, rfl⟩
        have hB4 := below_lits hw4
        have hBB4 := below_then hBB3 hB4
        have hF4 := obj_below hF3 hB4
        have HW4 := Lib.hid hw4
        clear hw4
        have hsn := Lib.hid (Hsh.out.next Hb.out hm1 Hres.out)
        have hmn : many ≤ l.length := by have := pl_len l k; have := (bare_len Hb.out hm1).2.1; have := Hb.out.le; omega
        go_wp2_with fail
        rw [HW4.out]
        refine ⟨⟨many + 1, by omega, by omega, by go_num, hsn.out, hF4, hBB4⟩, by simp [intOf]; omega⟩
      · skip -- 42
        obtain ⟨w4, hw4⟩ : ∃ w4, w3.alloc (.cells #[.bool false, .int .i64 0, .bool false, .int .i64 0, .slice none 0 0] 24) = w4 := ⟨_, rfl⟩
        have hB4 := below_lits hw4
        have hBB4 := below_then hBB3 hB4
        have hF4 := obj_below hF3 hB4
        have HW4 := Lib.hid hw4
        clear hw4
        obtain ⟨hk1, hl1, hl2, hnf⟩ := bare_len Hb.out hm1
        obtain ⟨p, rfl⟩ : ∃ p, k = p + 1 := ⟨k - 1, by omega⟩
        rw [Nat.add_sub_cancel] at hl2 hnf
        have HRR := Lib.hid (show wireRd l = (Fr.none_, 3, (p : Int)) from form_fault Hsh.out Hb.out hm1 Hres.out (by decide))
        have Hl2 := Lib.hid hl2
        have Hnf := Lib.hid hnf
        have hl4 := h.to hBB4
        have hpl : p < l.length := by have := Hb.out.le; omega
        clear hl1 hl2 hnf
        go_wp2_with fail
        rw [HW4.out]
        refine (last_any l A c many p w4 hl4 (by omega) (by omega) hpl Hb.out.ok Hl2.out Hnf.out (fun j hj => need_len (Hb.out.bef j (by omega)))).mono ?_
        rintro e w5 ⟨rfl, hB5⟩
        have hBB5 := below_then hBB4 hB5
        have hF5 := obj_below hF4 hB5
        obtain ⟨⟨y0, y1, y2, y3, y4⟩, z0, z1, z2, z3, z4⟩ := cells5 hF5
        go_wp2_with fail
        first | (refine bodyPost_ret (results_c2 (u := .int .i64 3) (v := .int .i64 p) rfl _ rfl rfl rfl (set5_obj hF5 (.bool false) (.int .i64 0) (.bool false) (.int .i64 0) (.slice none 0 0))) rfl (fin_fault hBB5 hF5 HRR.out)) | (rw [Exit.noGoto_ret]; refine bodyPost_ret (results_c2 (u := .int .i64 3) (v := .int .i64 p) rfl _ rfl rfl rfl (set5_obj hF5 (.bool false) (.int .i64 0) (.bool false) (.int .i64 0) (.slice none 0 0))) rfl (fin_fault hBB5 hF5 HRR.out))
      · skip -- 41
        obtain ⟨w4, hw4⟩ : ∃ w4, w3.alloc (.cells #[.bool false, .int .i64 0, .bool false, .int .i64 0, .slice none 0 0] 24) = w4 := ⟨_, rfl⟩
        have hB4 := below_lits hw4
        have hBB4 := below_then hBB3 hB4
        have hF4 := obj_below hF3 hB4
        have HW4 := Lib.hid hw4
        clear hw4
        obtain ⟨hk1, hl1, hl2, hnf⟩ := bare_len Hb.out hm1
        obtain ⟨p, rfl⟩ : ∃ p, k = p + 1 := ⟨k - 1, by omega⟩
        rw [Nat.add_sub_cancel] at hl2 hnf
        have HRR := Lib.hid (show wireRd l = (Fr.none_, 3, (p : Int)) from form_fault Hsh.out Hb.out hm1 Hres.out (by decide))
        have Hl2 := Lib.hid hl2
        have Hnf := Lib.hid hnf
        have hl4 := h.to hBB4
        have hpl : p < l.length := by have := Hb.out.le; omega
        clear hl1 hl2 hnf
        go_wp2_with fail
        rw [HW4.out]
        refine (last_any l A c many p w4 hl4 (by omega) (by omega) hpl Hb.out.ok Hl2.out Hnf.out (fun j hj => need_len (Hb.out.bef j (by omega)))).mono ?_
        rintro e w5 ⟨rfl, hB5⟩
        have hBB5 := below_then hBB4 hB5
        have hF5 := obj_below hF4 hB5
        obtain ⟨⟨y0, y1, y2, y3, y4⟩, z0, z1, z2, z3, z4⟩ := cells5 hF5
        go_wp2_with fail
        first | (refine bodyPost_ret (results_c2 (u := .int .i64 3) (v := .int .i64 p) rfl _ rfl rfl rfl (set5_obj hF5 (.bool false) (.int .i64 0) (.bool false) (.int .i64 0) (.slice none 0 0))) rfl (fin_fault hBB5 hF5 HRR.out)) | (rw [Exit.noGoto_ret]; refine bodyPost_ret (results_c2 (u := .int .i64 3) (v := .int .i64 p) rfl _ rfl rfl rfl (set5_obj hF5 (.bool false) (.int .i64 0) (.bool false) (.int .i64 0) (.slice none 0 0))) rfl (fin_fault hBB5 hF5 HRR.out))
    · clear hres
      obtain ⟨hnm, hd⟩ := hd_of HR.out Hsh.out Hb.out hm1 Hres.out
      subst hnm
      have Hd' := Lib.hid hd
      clear hd
      go_wp2_with fail
      refine HP2.out.mono ?_
      clear HP2
      rintro e w3 ⟨D, md, cd, rfl, -, -, -, -, hB3⟩
      have hBB3 := below_then hBB hB3
      have hF3 := obj_below hF2 hB3
      clear hB3 hBB hF2
      obtain ⟨w4, hw4⟩ : ∃ w4, w3.alloc (.cells #[.bool f.ext, .int .i64 f.id, .bool f.rem, .int .i64 f.len, .slice D md cd] 24) = w4 := ⟨_, rfl⟩
      have hB4 := below_lits hw4
      have hBB4 := below_then hBB3 hB4
      have hF4 := obj_below hF3 hB4
      have hl4 := h.to hBB4
      have HW4 := Lib.hid hw4
      obtain ⟨⟨fx, fi, fr, fn, fd⟩, a, p, hrd⟩ : ∃ y a p, wireRd l = (y, a, p) := ⟨_, _, _, rfl⟩
      have P3 := tail_any l l.length rfl A c n w4 hl4 HR.out hm f k Hd'.out
      have HRR := Lib.hid hrd
      rw [hrd] at P3
      have HP3 := Lib.hid P3
      clear hw4 hrd P3
      go_wp2_with fail
      rw [HW4.out]
      refine HP3.out.mono ?_
      clear HP3
      rintro e w5 ⟨D5, m5, c5, rfl, hm5, hc5, hr5, hn5, hB5⟩
      have hlt4 : w.heap.size < w4.heap.size := (Array.getElem?_eq_some_iff.1 hF4).1
      have hBB5 := below_then hBB4 hB5
      have hF5 := obj_below hF4 hB5
      obtain ⟨w6, hw6⟩ : ∃ w6, w5.alloc (.cells #[.bool fx, .int .i64 fi, .bool fr, .int .i64 fn, .slice D5 m5 c5] 24) = w6 := ⟨_, rfl⟩
      have hB6 := below_lits hw6
      have hX6 : w6.heap[w5.heap.size]? = some (.cells #[.bool fx, .int .i64 fi, .bool fr, .int .i64 fn, .slice D5 m5 c5] 24) := by rw [← hw6]; exact World.alloc_heap_new _ _
      have hBB6 := below_then hBB5 hB6
      have hF6 := obj_below hF5 hB6
      have hr6 := hr5.to hB6
      obtain ⟨⟨c0, c1, c2, c3, c4⟩, -⟩ := cells5 hX6
      obtain ⟨⟨y0, y1, y2, y3, y4⟩, z0, z1, z2, z3, z4⟩ := cells5 hF6
      rw [← hw6] at c0 c1 c2 c3 c4 y0 y1 y2 y3 y4 z0 z1 z2 z3 z4
      have HW6 := Lib.hid hw6
      have hne : fd = [] ∨ ∃ ad, D5 = some ad ∧ w.heap.size < ad.block := hn5.imp id fun ⟨ad, e1, e2⟩ => ⟨ad, e1, by omega⟩
      have HM5 := Lib.hid hm5
      clear hw6 hX6 hF5 hBB5 hB5 hB6 hr5 hn5 hF4 hBB4 hl4 hB4 HW4 hm5
      go_wp2_with fail
      rw [HW6.out]
      first | (refine bodyPost_ret (results_c2 (u := .int .i64 a) (v := .int .i64 p) rfl _ rfl rfl rfl (set5_obj hF6 (.bool fx) (.int .i64 fi) (.bool fr) (.int .i64 fn) (.slice D5 m5 c5))) rfl (fin_frame2 (f := ⟨fx, fi, fr, fn, fd⟩) hBB6 HM5.out hc5 hr6 hne HRR.out)) | (rw [Exit.noGoto_ret]; refine bodyPost_ret (results_c2 (u := .int .i64 a) (v := .int .i64 p) rfl _ rfl rfl rfl (set5_obj hF6 (.bool fx) (.int .i64 fi) (.bool fr) (.int .i64 fn) (.slice D5 m5 c5))) rfl (fin_frame2 (f := ⟨fx, fi, fr, fn, fd⟩) hBB6 HM5.out hc5 hr6 hne HRR.out))

end Go.Proofs.Ytmapkjjglhpamaa
