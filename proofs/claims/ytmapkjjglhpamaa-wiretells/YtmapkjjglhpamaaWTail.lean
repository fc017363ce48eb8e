/-
  The document's 'tail' of layer 5, walked. (Written by wip/tools/mk_tail5.py.)
-/
import Derived.Test.YtmapkjjglhpamaaWLast
import Derived.Test.YtmapkjjglhpamaaRefRead
namespace Go.Proofs.Ytmapkjjglhpamaa
open Go.RowKit

theorem bare_at (l : List Int) (n : Nat) (hn : l.length = n) (A : Option Addr) (c : Nat) (many : Nat) (z : Int) (hz : (many : Int) = z) (en : Bool) (w : World) (h : Row .i64 w w.heap.size A l) (hm : n ≤ 10000) (hmany : many ≤ 10000) :
    Calls Try.prog 46 #[.slice A n c, .int .i64 z, .bool en] w fun e w' => ∃ k m A' c' v, e = .returned (.tuple #[.slice A' m c', .int .i64 (k : Nat), .int .i64 v]) ∧ (pl l k).length = m ∧ m ≤ c' ∧ Bare l many en k v ∧ Row .i64 w' w'.heap.size A' (pl l k) ∧ Below w.heap.size w w' := by
  subst hn hz
  exact bare_any l A c many en w h hm hmany
theorem fin_frame2 {l : List Int} {w w1 : World} {D : Option Addr} {m c : Nat} {f : Fr} (hB : Below w.heap.size w w1) (hlen : f.data.length = m) (hcap : m ≤ c) (hrow : Row .u8 w1 w1.heap.size D f.data) (hne : f.data = [] ∨ ∃ ad, D = some ad ∧ w.heap.size < ad.block) {v p : Int} (hres : wireRd l = (f, v, p)) :
    WirePost w (wireRd l) (.returned (.tuple #[.agg #[.bool f.ext, .int .i64 f.id, .bool f.rem, .int .i64 f.len, .slice D m c], .int .i64 v, .int .i64 p])) (set5 w1 w.heap.size (.bool f.ext) (.int .i64 f.id) (.bool f.rem) (.int .i64 f.len) (.slice D m c)) := by
  rw [hres]
  exact ⟨D, m, c, rfl, hlen, hcap, data_to hrow (hne.imp id fun ⟨ad, e, hb⟩ => ⟨ad, e, fun e2 => by have := Option.some.inj e2; omega⟩) (set5_grown _ _ _ _ _ _ _), hne.imp id fun ⟨ad, e, hb⟩ => ⟨ad, e, Nat.le_of_lt hb⟩, hB.trans (below_of_grown (set5_grown _ _ _ _ _ _ _) (Nat.le_refl _) hB.size)⟩
/-- Of the ten t are past. -/
def Ten (l : List Int) (k : Nat) (f : Fr) (t : Nat) : Prop :=
  (t < 10 ∧ k + t ≤ l.length ∧ wireRd l = rdT l k f t (l.drop (k + t))) ∨ (t = 10 ∧ k + 10 ≤ l.length ∧ wireRd l = if l.getD (k + 1) 0 = 0 then (f, 0, -1) else (f, 5, ((k + 1 : Nat) : Int)))
theorem Ten.next {l : List Int} {k : Nat} {f : Fr} {t : Nat} {x : Int} (ht : t < 10) (h : wireRd l = rdT l k f t (l.drop (k + t))) (hx : l[k + t]? = some x) (hv : trailF t x = 0) : Ten l k f (t + 1) := by
  have hlt := (List.getElem?_eq_some_iff.1 hx).1
  by_cases e : t + 1 = 10
  · right
    exact ⟨e, by omega, T_end h hx hv e⟩
  · left
    exact ⟨by omega, by omega, T_go h hx hv (by omega)⟩

set_option maxRecDepth 100000 in
set_option maxHeartbeats 4000000 in
theorem tail_any (l : List Int) (L : Nat) (hL : l.length = L) (A : Option Addr) (c : Nat) (n : Nat) (w : World) (h : Row .i64 w w.heap.size A l) (hr : rightB l = true) (hm : L ≤ 5000) (f : Fr) (j : Nat) (hd : Hd l f n j) :
    Calls Try.prog 48 #[.slice A L c, .int .i64 n] w (WirePost w (wireRd l)) := by
  have hn : n ≤ L := by have := pl_len l j; have := hd.le; have := hd.len; omega
  have Hd' := Lib.hid hd
  have HR := Lib.hid hr
  have HL := Lib.hid hL
  clear hd hr hL
  obtain ⟨w1, hw1⟩ : ∃ w1, w.alloc (.cells #[.bool false, .int .i64 0, .bool false, .int .i64 0, .slice none 0 0] 24) = w1 := ⟨_, rfl⟩
  have hB1 : Below w.heap.size w w1 := by rw [← hw1]; exact below_alloc1 _ _
  have hF1 : w1.heap[w.heap.size]? = some (.cells #[.bool false, .int .i64 0, .bool false, .int .i64 0, .slice none 0 0] 24) := by rw [← hw1]; exact World.alloc_heap_new _ _
  have HW1 := Lib.hid hw1
  clear hw1
  go_enter Try.func48, Try.ntmps48
  go_wp2_with fail
  rw [HW1.out]
  clear HW1
  refine (bare_at l L HL.out A c (n + 15) ((n : Int) + 15) (by simp) true w1 (h.to hB1) (by omega) (by omega)).mono ?_
  rintro e w2 ⟨k, m, Ah, ch, v, rfl, hml, hmc, hb, hrow, hB2⟩
  have hBB : Below w.heap.size w w2 := below_then hB1 hB2
  have hF2 := obj_below hF1 hB2
  have hl2 : Row .i64 w2 w2.heap.size A l := h.to hBB
  clear hB1 hF1 hB2
  by_cases hv : v = 0
  rotate_left
  · have HRR := Lib.hid (tail_fault Hd'.out HR.out hb hv)
    have dv : (v != 0) = true := by simp [hv]
    clear hb hv
    obtain ⟨⟨y0, y1, y2, y3, y4⟩, z0, z1, z2, z3, z4⟩ := cells5 hF2
    go_wp2_with fail
    first | (refine bodyPost_ret (results_c2 (u := .int .i64 v) (v := .int .i64 k) rfl _ rfl rfl rfl (set5_obj hF2 (.bool false) (.int .i64 0) (.bool false) (.int .i64 0) (.slice none 0 0))) rfl (fin_fault hBB hF2 HRR.out)) | (rw [Exit.noGoto_ret]; refine bodyPost_ret (results_c2 (u := .int .i64 v) (v := .int .i64 k) rfl _ rfl rfl rfl (set5_obj hF2 (.bool false) (.int .i64 0) (.bool false) (.int .i64 0) (.slice none 0 0))) rfl (fin_fault hBB hF2 HRR.out))
  subst hv
  have hw := wh_of Hd'.out HR.out hb
  have hP := hw.len
  rw [hml] at hP
  subst hP
  obtain ⟨P, hP⟩ : ∃ P, pl l k = P := ⟨_, rfl⟩
  have hrd := hw.rd
  have hs := hw.sum
  have hrP := pl_right HR.out k
  have hkl := hw.le
  have hkp := hw.pos
  rw [HL.out] at hkl
  rw [hP] at hml hrow hrd hs hrP
  obtain ⟨x, hx⟩ : ∃ x : Nat, numOf (P.drop n) = x := ⟨_, rfl⟩
  obtain ⟨y, hy⟩ : ∃ y : Nat, (crc15 (P.take n)).toNat = y := ⟨_, rfl⟩
  rw [hx, hy] at hs
  obtain ⟨ad, rfl⟩ : ∃ ad, Ah = some ad := hrow.some_ (by omega)
  have hl1 : (P.drop n).length = 15 := by simp; omega
  have hl3 : (P.take n).length = n := by simp; omega
  have g1 : getOk (P.drop n) = true := by unfold getOk; rw [hl1, rightB_drop hrP n]; simp
  have r1 : Row .i64 w2 w2.heap.size (some (ad.add n)) (P.drop n) := by
    have := hrow.sub_ n (n + 15) (by omega) (by omega) (A' := some (ad.add n)) (fun _ => rfl)
    rwa [show n + 15 - n = 15 by omega, List.take_of_length_le (by omega)] at this
  have r2 : Row .i64 w2 w2.heap.size (some ad) (P.take n) := by
    have := hrow.sub_ 0 n (by omega) (by omega) (A' := some ad) (fun _ => by simp [Addr.add])
    simpa using this
  have Hl1 := Lib.hid hl1
  have Hl3 := Lib.hid hl3
  have Hx := Lib.hid (show ((numOf (P.drop n) : Nat) : Int) = (x : Int) by rw [hx])
  have Hy := Lib.hid (show ((crc15 (P.take n)).toNat : Int) = (y : Int) by rw [hy])
  have G1 := Lib.hid g1
  have R2 := Lib.hid (rightB_take hrP n)
  have HrP := Lib.hid hrP
  have Hrd := Lib.hid hrd
  have Hml := Lib.hid hml
  have Hw := Lib.hid hw
  have HP := Lib.hid hP
  have Hs := Lib.hid hs
  clear hb hw hP hrd hs hrP hx hy hl1 hl3 g1 hml
  have hkc : n < ch := by omega
  have hkc' : ¬ ch = n := by omega
  have hkc2 : (n : Int) ≤ (n : Int) + 15 := by omega
  have hkc3 : (n : Int) ≤ (ch : Int) := by omega
  have hkc4 : n ≤ ch := by omega
  go_wp2_with fail
  refine (refGet_at (P.drop n) 15 Hl1.out (x : Int) Hx.out _ _ _ w2 r1 G1.out).mono ?_
  rintro e wq ⟨rfl, rfl⟩
  go_wp2_with fail
  refine (refBits_any (P.take n) n Hl3.out (some ad) ch _ w2 r2 R2.out (by unfold maxLen; omega)).mono ?_
  rintro e wq ⟨rfl, rfl⟩
  rw [Hy.out]
  clear r1 r2
  by_cases hxy : x = y
  rotate_left
  · have HRR := Lib.hid (show wireRd l = (Fr.none_, 4, (k : Int) - 1) from (Hw.out.bad HR.out (by rw [HP.out, Hs.out]; simp [hxy])).trans (by congr 2; omega))
    have dxy : ((x : Int) != (y : Int)) = true := by simp; omega
    clear hxy
    obtain ⟨⟨y0, y1, y2, y3, y4⟩, z0, z1, z2, z3, z4⟩ := cells5 hF2
    go_wp2_with fail
    first | (refine bodyPost_ret (results_c2 (u := .int .i64 4) (v := .int .i64 ((k : Int) - 1)) rfl _ rfl rfl rfl (set5_obj hF2 (.bool false) (.int .i64 0) (.bool false) (.int .i64 0) (.slice none 0 0))) rfl (fin_fault hBB hF2 HRR.out)) | (rw [Exit.noGoto_ret]; refine bodyPost_ret (results_c2 (u := .int .i64 4) (v := .int .i64 ((k : Int) - 1)) rfl _ rfl rfl rfl (set5_obj hF2 (.bool false) (.int .i64 0) (.bool false) (.int .i64 0) (.slice none 0 0))) rfl (fin_fault hBB hF2 HRR.out))
  subst hxy
  have Hgo := Lib.hid (show Ten l k f 0 from .inl ⟨by omega, by rw [HL.out]; omega, Hw.out.good HR.out (by rw [HP.out, Hs.out]; simp)⟩)
  clear Hs Hx Hy G1 R2 Hl1 Hl3 Hw HP
  go_wp2_with fail
  go_loopw [12] (fun i wr => ∃ t : Nat, t ≤ 10 ∧ i = .int .i64 t ∧ Ten l k f t ∧ wr = w2) (fun i _ => 10 - (intOf i).toNat)
  case atStart => exact ⟨0, by omega, rfl, Hgo.out, rfl⟩
  case round =>
    clear Hgo
    obtain ⟨t, ht, rfl, hT, rfl⟩ := hrel
    rcases hT with ⟨ht10, hkt, hg⟩ | ⟨rfl, hk10, hg⟩
    · rw [HL.out] at hkt
      have Hg := Lib.hid hg
      clear hg
      have d10 : decide ((t : Int) < 10) = true := by simp; omega
      by_cases hlt : k + t < L
      rotate_left
      · have e1 : k + t = L := by omega
        have HRR := Lib.hid (show wireRd l = (Fr.none_, 1, (L : Int)) from (T_short Hg.out (by rw [HL.out]; exact e1)).trans (by rw [e1]))
        have dge : decide ((L : Int) ≤ (k : Int) + (t : Int)) = true := by simp; omega
        clear e1 hlt
        obtain ⟨⟨y0, y1, y2, y3, y4⟩, z0, z1, z2, z3, z4⟩ := cells5 hF2
        go_wp2_with fail
        first | (refine bodyPost_ret (results_c2 (u := .int .i64 1) (v := .int .i64 L) rfl _ rfl rfl rfl (set5_obj hF2 (.bool false) (.int .i64 0) (.bool false) (.int .i64 0) (.slice none 0 0))) rfl (fin_fault hBB hF2 HRR.out)) | (rw [Exit.noGoto_ret]; refine bodyPost_ret (results_c2 (u := .int .i64 1) (v := .int .i64 L) rfl _ rfl rfl rfl (set5_obj hF2 (.bool false) (.int .i64 0) (.bool false) (.int .i64 0) (.slice none 0 0))) rfl (fin_fault hBB hF2 HRR.out))
      have dge : decide ((L : Int) ≤ (k : Int) + (t : Int)) = false := by simp; omega
      obtain ⟨al, z, rfl, hz, hc⟩ := hl2.get_ (k := k + t) (by rw [HL.out]; exact hlt)
      have i1 : (k : Int) + (t : Int) < (L : Int) := by omega
      have Hz := Lib.hid hz
      clear hz
      by_cases ht1 : t = 1
      · subst ht1
        have hN := Lib.hid (Ten.next ht10 Hg.out Hz.out (by unfold trailF; simp))
        go_wp2_with fail
        refine ⟨⟨2, by omega, by go_num, hN.out, by first | trivial | rfl⟩, by simp [intOf]⟩
      have d1 : ((t : Int) != 1) = true := by simp; omega
      by_cases hz1 : z = 1
      · subst hz1
        have hN := Lib.hid (Ten.next ht10 Hg.out Hz.out (by unfold trailF; simp))
        go_wp2_with fail
        refine ⟨⟨t + 1, by omega, by go_num, hN.out, by first | trivial | rfl⟩, by simp [intOf]; omega⟩
      · have HRR := Lib.hid (show wireRd l = (Fr.none_, 3, (k : Int) + (t : Int)) from (T_fault Hg.out Hz.out (by unfold trailF; rw [if_pos ⟨ht1, hz1⟩])).trans (by simp))
        have dz : (z != 1) = true := by simp [hz1]
        obtain ⟨⟨y0, y1, y2, y3, y4⟩, z0, z1, z2, z3, z4⟩ := cells5 hF2
        go_wp2_with fail
        first | (refine bodyPost_ret (results_c2 (u := .int .i64 3) (v := .int .i64 ((k : Int) + (t : Int))) rfl _ rfl rfl rfl (set5_obj hF2 (.bool false) (.int .i64 0) (.bool false) (.int .i64 0) (.slice none 0 0))) rfl (fin_fault hBB hF2 HRR.out)) | (rw [Exit.noGoto_ret]; refine bodyPost_ret (results_c2 (u := .int .i64 3) (v := .int .i64 ((k : Int) + (t : Int))) rfl _ rfl rfl rfl (set5_obj hF2 (.bool false) (.int .i64 0) (.bool false) (.int .i64 0) (.slice none 0 0))) rfl (fin_fault hBB hF2 HRR.out))
    · have Hg := Lib.hid hg
      clear hg
      have P2 := refRead_new P (n + 15) Hml.out (some ad) ch wr hrow HrP.out (by omega) hmc
      rw [Hrd.out] at P2
      have HP2 := Lib.hid P2
      clear P2
      go_wp2_with fail
      refine HP2.out.mono ?_
      clear HP2
      rintro e w3 ⟨D, md, cd, rfl, hmd, hcd, hrd3, hnew, hB3⟩
      have hBB3 := below_then hBB hB3
      have hF3 := obj_below hF2 hB3
      have hlt3 : w.heap.size < wr.heap.size := (Array.getElem?_eq_some_iff.1 hF2).1
      have hl3 := hl2.to hB3
      obtain ⟨w4, hw4⟩ : ∃ w4, w3.alloc (.cells #[.bool f.ext, .int .i64 f.id, .bool f.rem, .int .i64 f.len, .slice D md cd] 24) = w4 := ⟨_, rfl⟩
      have hB4 := below_lits hw4
      have hX4 : w4.heap[w3.heap.size]? = some (.cells #[.bool f.ext, .int .i64 f.id, .bool f.rem, .int .i64 f.len, .slice D md cd] 24) := by rw [← hw4]; exact World.alloc_heap_new _ _
      have hBB4 := below_then hBB3 hB4
      have hF4 := obj_below hF3 hB4
      have hrd4 := hrd3.to hB4
      have hl4 := hl3.to hB4
      obtain ⟨al, z, rfl, hz, hc⟩ := hl4.get_ (k := k + 1) (by omega)
      simp [Addr.add] at hc
      have hzd : l.getD (k + 1) 0 = z := by simp [List.getD, hz]
      have hz01 := rightB_at HR.out hz
      have hres := Hg.out
      rw [hzd] at hres
      have i1 : (k : Int) + 1 < (L : Int) := by have := HL.out; omega
      obtain ⟨⟨c0, c1, c2, c3, c4⟩, -⟩ := cells5 hX4
      obtain ⟨⟨y0, y1, y2, y3, y4⟩, z0, z1, z2, z3, z4⟩ := cells5 hF4
      rw [← hw4] at hc c0 c1 c2 c3 c4 y0 y1 y2 y3 y4 z0 z1 z2 z3 z4
      have HW4 := Lib.hid hw4
      have hne : f.data = [] ∨ ∃ ad, D = some ad ∧ w.heap.size < ad.block := hnew.imp id fun ⟨ad, e1, e2⟩ => ⟨ad, e1, by omega⟩
      clear hw4 hzd hz hX4 hl4 hl3 hF3 hBB3 hB3 hB4 hrd3 hnew Hg
      rcases hz01 with rfl | rfl
      · rw [if_pos rfl] at hres
        have HRR := Lib.hid hres
        clear hres
        go_wp2_with fail
        rw [HW4.out]
        first | (refine bodyPost_ret (results_c2 (u := .int .i64 0) (v := .int .i64 (-1)) rfl _ rfl rfl rfl (set5_obj hF4 (.bool f.ext) (.int .i64 f.id) (.bool f.rem) (.int .i64 f.len) (.slice D md cd))) rfl (fin_frame2 hBB4 hmd hcd hrd4 hne HRR.out)) | (rw [Exit.noGoto_ret]; refine bodyPost_ret (results_c2 (u := .int .i64 0) (v := .int .i64 (-1)) rfl _ rfl rfl rfl (set5_obj hF4 (.bool f.ext) (.int .i64 f.id) (.bool f.rem) (.int .i64 f.len) (.slice D md cd))) rfl (fin_frame2 hBB4 hmd hcd hrd4 hne HRR.out))
      · rw [if_neg (by decide)] at hres
        have HRR := Lib.hid (hres.trans (show (f, (5 : Int), ((k + 1 : Nat) : Int)) = (f, 5, (k : Int) + 1) by simp))
        clear hres
        go_wp2_with fail
        rw [HW4.out]
        first | (refine bodyPost_ret (results_c2 (u := .int .i64 5) (v := .int .i64 ((k : Int) + 1)) rfl _ rfl rfl rfl (set5_obj hF4 (.bool f.ext) (.int .i64 f.id) (.bool f.rem) (.int .i64 f.len) (.slice D md cd))) rfl (fin_frame2 hBB4 hmd hcd hrd4 hne HRR.out)) | (rw [Exit.noGoto_ret]; refine bodyPost_ret (results_c2 (u := .int .i64 5) (v := .int .i64 ((k : Int) + 1)) rfl _ rfl rfl rfl (set5_obj hF4 (.bool f.ext) (.int .i64 f.id) (.bool f.rem) (.int .i64 f.len) (.slice D md cd))) rfl (fin_frame2 hBB4 hmd hcd hrd4 hne HRR.out))

end Go.Proofs.Ytmapkjjglhpamaa
