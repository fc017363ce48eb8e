/-
  WBusRight.
-/
import Derived.Test.YtcifjccojmfpaaaGreatJ0
import Derived.Test.YtcifjccojmfpaaaGreatJ1
import Derived.Test.YtcifjccojmfpaaaGreatJ2
import Derived.Test.YtcifjccojmfpaaaGreatJ3
import Derived.Test.YtcifjccojmfpaaaGreatJ4
import Derived.Test.YtcifjccojmfpaaaGreatJ5
import Derived.Test.YtcifjccojmfpaaaGreatJ8
import Derived.Test.YtcifjccojmfpaaaGreatJ9
set_option maxRecDepth 100000
set_option maxHeartbeats 4000000
namespace Go.Proofs.YtcifjccojmfpaaaGreat
open Go.RowKit
set_option linter.unusedVariables false
set_option linter.unusedSimpArgs false
theorem w64_3r (L : Nat) (h : L ≤ 1000) : wrap64 ((L : Int) + 3) = (L : Int) + 3 := by unfold wrap64; omega
theorem w64_23r (L : Nat) (h : L ≤ 1000) : wrap64 ((L : Int) + 23) = (L : Int) + 23 := by unfold wrap64; omega
theorem busRight_any (hHd : Head10) (A : Option Addr) (n c : Nat) (Ns : List NC) (x : HV) (H0 : List Int) (w : World) (h : NSl w (fun _ => True) A n c Ns) (hh : HIs w (fun _ => True) x H0) :
    Calls Tryz.prog 10 #[.slice A n c, .agg #[.slice x.a x.m x.c]] w fun e w' => e = .returned (.bool true) ∧ Below w.heap.size w w' := by
  have h0 : NSl w (Out [w.heap.size]) A n c Ns := h.mono out_low10
  have hh0 : HIs w (Out [w.heap.size]) x H0 := hh.mono out_low10
  clear h hh
  obtain ⟨w0, hw0⟩ : ∃ w0, (w.alloc (.cells #[.slice x.a x.m x.c] 41)) = w0 := ⟨_, rfl⟩
  have hT0 : Below w.heap.size w w0 := by rw [← hw0]; exact below_alloc1 _ _
  have hx0 : w0.heap[w.heap.size]? = some (.cells #[.slice x.a x.m x.c] 41) := by rw [← hw0]; exact World.alloc_heap_new _ _
  have hs0 : w0.heap.size = w.heap.size + 1 := by rw [← hw0]; simp
  have Hs0 := Lib.hid hs0
  clear hs0
  have hlx := (Array.getElem?_eq_some_iff.1 hx0).1
  have xc0 := cells1' hx0
  go_enter Tryz.func10, Tryz.ntmps10
  go_wp2_with fail
  clear hlx xc0
  clear hw0
  have hZ0 := Below.refl w0.heap.size w0
  clear hZ0
  clear Hs0
  refine (hHd.run w0).mono ?_
  rintro e w1 ⟨rfl, hB1⟩
  have hT1 := below_then hT0 hB1
  have hx1 := block_below hB1 hx0
  clear hT0 hx0  hB1
  go_wp2_with fail
  refine (nodes10_c (Q := Out [w.heap.size]) (h0.to hT1) 64 (by decide) (out_up (lt_cons (Array.getElem?_eq_some_iff.1 hx1).1 (fun _ h => by cases h)))).mono ?_
  rintro e w2 ⟨A1, m1, c1, Ms, rfl, hM_, hok, hm1, hm8, hql, hB2⟩
  have hT2 := below_then hT1 hB2
  have hx2 := block_below hB2 hx1
  clear hT1 hx1  hB2
  have hM2 := hM_
  clear hM_
  have Hok := Lib.hid hok
  have Hql := Lib.hid hql
  have Hml := Lib.hid hM2.len
  clear hok hql
  have hlx := (Array.getElem?_eq_some_iff.1 hx2).1
  have xc0 := cells1' hx2
  go_wp2_with fail
  clear hlx xc0
  have hlit : HSl (w2.alloc (.cells #[.slice x.a x.m x.c] 41)) (Out [w.heap.size]) (some ⟨w2.heap.size, 0, none⟩) 1 1 [H0] := hsl_lit10 (hh0.to hT2)
  obtain ⟨w3, hw3⟩ : ∃ w_, w2.alloc (.cells #[.slice x.a x.m x.c] 41) = w_ := ⟨_, rfl⟩
  have hB3 : Below w2.heap.size w2 w3 := by rw [← hw3]; exact below_alloc1 _ _
  rw [hw3] at hlit
  rw [hw3]
  clear hw3
  have hT3 := below_then hT2 hB3
  have hx3 := block_below hB3 hx2
  have hM3 := NSl.to hM2 hB3
  clear hT2 hx2 hM2 hB3
  refine (cut_c (Q := Out [w.heap.size]) hlit 1 (by decide) (out_up (lt_cons (Array.getElem?_eq_some_iff.1 hx3).1 (fun _ h => by cases h)))).mono ?_
  rintro e w4 ⟨B1, k1, d1, Ks, rfl, hK_, hk1, hk2, hks, hB4⟩
  have hT4 := below_then hT3 hB4
  have hx4 := block_below hB4 hx3
  have hM4 := NSl.to hM3 hB4
  clear hT3 hx3 hM3 hB4
  obtain rfl : k1 = 1 := by omega
  obtain ⟨adk, y, ea_, hce_, hY_⟩ := HSl.at_ hK_ (k := 0) (by decide)
  subst ea_
  obtain ⟨K, hKe⟩ : ∃ K, Ks.getD 0 [] = K := ⟨_, rfl⟩
  rw [hKe] at hY_
  have hK10 : K.length ≤ 10 := by rw [← hKe]; exact hks _ (List.mem_of_getElem? (show Ks[0]? = some (Ks.getD 0 []) by simp [List.getD, List.getElem?_eq_getElem (show 0 < Ks.length by rw [hK_.len]; decide)]))
  clear hk1 hk2 hks hKe hK_ hlit
  rw [Nat.zero_mul, add_zero] at hce_
  have hlx := (Array.getElem?_eq_some_iff.1 hx4).1
  obtain ⟨xc0, xf0⟩ := cells1 hx4
  go_upto_region 4 with fail
  clear hlx xc0 xf0 hce_
  obtain ⟨w5, hw5⟩ : ∃ w_, w4.setCell ⟨w.heap.size, 0, none⟩ (.slice y.a y.m y.c) = w_ := ⟨_, rfl⟩
  have hG : w4.grownBy w5 (some w.heap.size) := by rw [← hw5]; exact grown_setAt _ _ _ _
  have hT5 := below_g hT4 hG (Nat.le_refl _)
  have hx5 : w5.heap[w.heap.size]? = some (.cells #[.slice y.a y.m y.c] 41) := by rw [← hw5]; exact set0_obj1 hx4 _
  have hM5 := NSl.grow hM4 hG (out_not (by simp))
  have hY5 := HIs.grow hY_ hG (out_not (by simp))
  rw [hw5]
  clear hw5 hG hT4 hx4 hM4 hY_
  have hlx := (Array.getElem?_eq_some_iff.1 hx5).1
  have xc0 := cells1' hx5
  go_wp2_with fail
  clear hlx xc0
  obtain ⟨Ns2, hNs2⟩ : ∃ q, slotN Ms K = q := ⟨_, rfl⟩
  have HNs2 := Lib.hid hNs2
  clear hNs2
  obtain ⟨T1, hT1⟩ : ∃ q, toldN lenZ Ms K = q := ⟨_, rfl⟩
  have HT1 := Lib.hid hT1
  clear hT1
  refine (slot_c hM5 Hok.out hm1 hm8 hY5.row hY5.len (by rw [← hY5.len]; omega) (out_up (lt_cons (Array.getElem?_eq_some_iff.1 hx5).1 (fun _ h => by cases h))) Ns2 HNs2.out T1 HT1.out).mono ?_
  rintro e w6 ⟨A2, c2, t, rfl, hu_, ht_, hB6⟩
  have hT6 := below_then hT5 hB6
  have hx6 := block_below hB6 hx5
  have hM6 := NSl.to hM5 hB6
  have hY6 := HIs.to hY5 hB6
  clear hT5 hx5 hM5 hY5 hB6
  have hu6 := hu_
  clear hu_
  have ht6 := ht_
  clear ht_
  go_upto_region 5 with fail
  obtain ⟨w7, hw7⟩ : ∃ w_, w6.alloc (.cells #[.int .i64 t.w, .bool t.f.x, .int .i64 t.f.i, .bool t.f.r, .int .i64 t.f.n, .slice t.f.a t.f.m t.f.c, .bool t.ok, .int .i64 t.b] 36) = w_ := ⟨_, rfl⟩
  have hB7 : Below w6.heap.size w6 w7 := by rw [← hw7]; exact below_alloc1 _ _
  obtain ⟨Z, hZ_⟩ : ∃ Z, w6.heap.size = Z := ⟨_, rfl⟩
  have hz7 : w7.heap[Z]? = some (.cells #[.int .i64 t.w, .bool t.f.x, .int .i64 t.f.i, .bool t.f.r, .int .i64 t.f.n, .slice t.f.a t.f.m t.f.c, .bool t.ok, .int .i64 t.b] 36) := by rw [← hw7, ← hZ_]; exact World.alloc_heap_new _ _
  rw [hw7]
  rw [hZ_]
  clear hw7
  have hT7 := below_then hT6 hB7
  have hx7 := block_below hB7 hx6
  have hM7 := NSl.to hM6 hB7
  have hY7 := HIs.to hY6 hB7
  have hu7 := NSl.to hu6 hB7
  have ht7 := TIs.to ht6 hB7
  clear hT6 hx6 hM6 hY6 hu6 ht6 hB7
  obtain ⟨tw, tf, tok, tb⟩ := t
  replace hM7 := NSl.mono (Q := fun _ => True) hM7 (fun _ _ _ => trivial)
  replace hu7 := NSl.mono (Q := fun _ => True) hu7 (fun _ _ _ => trivial)
  replace hY7 := HIs.mono (Q := fun _ => True) hY7 (fun _ _ _ => trivial)
  replace ht7 := TIs.mono (Q := fun _ => True) ht7 (fun _ _ _ => trivial)
  go_wp2_with fail
  go_loopw [8] (fun i wr => ∃ (j : Nat), j ≤ m1 ∧ i = .int .i64 j ∧ wr.heap[w.heap.size]? = some (.cells #[.slice y.a y.m y.c] 41) ∧ wr.heap[Z]? = some (.cells #[.int .i64 tw, .bool tf.x, .int .i64 tf.i, .bool tf.r, .int .i64 tf.n, .slice tf.a tf.m tf.c, .bool tok, .int .i64 tb] 36) ∧ NSl wr (fun _ => True) A1 m1 c1 Ms ∧ NSl wr (fun _ => True) A2 m1 c2 Ns2 ∧ HIs wr (fun _ => True) y K ∧ TIs wr (fun _ => True) ⟨tw, tf, tok, tb⟩ T1 ∧ Below w.heap.size w wr) (fun i _ => m1 - (intOf i).toNat)
  case atStart => exact ⟨0, Nat.zero_le _, rfl, hx7, hz7, hM7, hu7, hY7, ht7, hT7⟩
  case round =>
    clear hx7 hz7 hM7 hu7 hY7 ht7 hT7
    obtain ⟨j, hj, rfl, hx50, hz50, hM50, hu50, hY50, ht50, hT50⟩ := hrel
    by_cases hlt : j < m1
    · skip
      have j1 : (j : Int) < (m1 : Int) := by omega
      obtain ⟨ad, m, ea1, hAt50, hV50⟩ := NSl.at_ hM50 hlt
      obtain ⟨ad2, m2, ea2, hAx50, hVx50⟩ := NSl.at_ hu50 hlt
      subst ea1 ea2
      obtain ⟨N, hN_⟩ : ∃ N_, nd Ms j = N_ := ⟨_, rfl⟩
      replace hV50 : NIs wr (fun _ => True) m N := by rw [← hN_]; exact hV50
      have HN := Lib.hid hN_
      clear hN_
      have Hlt := Lib.hid (show j < Ms.length by rw [Hml.out]; exact hlt)
      have HokS := Lib.hid (show OkN (nd Ns2 j) by rw [← HNs2.out]; exact (ok_slot Hok.out K).at_ (by rw [slotN_len]; exact Hlt.out))
      have hlm : m2.lm = m.lm := by rw [← hVx50.l.len, ← hV50.l.len, ← HN.out]; show (nd Ns2 j).l.length = _; rw [← HNs2.out, slot_l K Hlt.out]
      have d1 : ((m2.lm : Int) != (m.lm : Int)) = false := by rw [hlm]; simp
      have d2 : (m2.lm != m.lm) = false := by rw [hlm]; simp
      have Hlm := Lib.hid hlm
      clear hlm
      go_wp2_with fail
      refine wp_region_held_drew (S := fun W => (W.cell? (ad.add (j * 7)) = some (.slice m.qa m.qm m.qc) ∧ W.cell? ⟨(ad.add (j * 7)).block, (ad.add (j * 7)).off + 1, none⟩ = some (.slice m.la m.lm m.lc) ∧ W.cell? ⟨(ad.add (j * 7)).block, (ad.add (j * 7)).off + 2, none⟩ = some (.int .i64 m.k.t) ∧ W.cell? ⟨(ad.add (j * 7)).block, (ad.add (j * 7)).off + 3, none⟩ = some (.int .i64 m.k.r) ∧ W.cell? ⟨(ad.add (j * 7)).block, (ad.add (j * 7)).off + 4, none⟩ = some (.int .i64 m.k.s) ∧ W.cell? ⟨(ad.add (j * 7)).block, (ad.add (j * 7)).off + 5, none⟩ = some (.int .i64 m.k.q) ∧ W.cell? ⟨(ad.add (j * 7)).block, (ad.add (j * 7)).off + 6, none⟩ = some (.slice m.ga m.gm m.gc)) ∧ (W.cell? (ad2.add (j * 7)) = some (.slice m2.qa m2.qm m2.qc) ∧ W.cell? ⟨(ad2.add (j * 7)).block, (ad2.add (j * 7)).off + 1, none⟩ = some (.slice m2.la m2.lm m2.lc) ∧ W.cell? ⟨(ad2.add (j * 7)).block, (ad2.add (j * 7)).off + 2, none⟩ = some (.int .i64 m2.k.t) ∧ W.cell? ⟨(ad2.add (j * 7)).block, (ad2.add (j * 7)).off + 3, none⟩ = some (.int .i64 m2.k.r) ∧ W.cell? ⟨(ad2.add (j * 7)).block, (ad2.add (j * 7)).off + 4, none⟩ = some (.int .i64 m2.k.s) ∧ W.cell? ⟨(ad2.add (j * 7)).block, (ad2.add (j * 7)).off + 5, none⟩ = some (.int .i64 m2.k.q) ∧ W.cell? ⟨(ad2.add (j * 7)).block, (ad2.add (j * 7)).off + 6, none⟩ = some (.slice m2.ga m2.gm m2.gc))) (by kernel_rfl) (by exact ⟨(nat_to hAt50 (below_drew1 _)), (nat_to hAx50 (below_drew1 _))⟩) (fun hHeld_ => ?_)
      refine wpAnyH_take' (i := 0) (v := ?v0_t1) 35 rfl rfl (by kernel_rfl) (by kernel_rfl) (by kernel_rfl) (fun _ _ _ h => h) (Or.inl ⟨by kernel_rfl, ?hy0_t1⟩) (by assumption) ?rest0_t1
      case hy0_t1 => (intro W_ hS_; (try dsimp only at hS_); go_simp; (try (with_reducible rfl)))
      try simp only [Act.put, siA, scZ, scS]
      refine wpAnyH_take' (i := 1) (v := ?v1_t1) 36 rfl rfl (by kernel_rfl) (by kernel_rfl) (by kernel_rfl) (fun _ _ _ h => h) (Or.inl ⟨by kernel_rfl, ?hy1_t1⟩) (by assumption) ?rest1_t1
      case hy1_t1 => (intro W_ hS_; (try dsimp only at hS_); go_simp; (try (with_reducible rfl)))
      try simp only [Act.put, siA, scZ, scS]
      refine wpAnyH_take' (i := 2) (v := ?v2_t1) 37 rfl rfl (by kernel_rfl) (by kernel_rfl) (by kernel_rfl) (fun _ _ _ h => h) (Or.inl ⟨by kernel_rfl, ?hy2_t1⟩) (by assumption) ?rest2_t1
      case hy2_t1 => (intro W_ hS_; (try dsimp only at hS_); go_simp; (try (with_reducible rfl)))
      try simp only [Act.put, siA, scZ, scS]
      refine wpAnyH_take' (i := 3) (v := ?v3_t1) 38 rfl rfl (by kernel_rfl) (by kernel_rfl) (by kernel_rfl) (fun _ _ _ h => h) (Or.inl ⟨by kernel_rfl, ?hy3_t1⟩) (by assumption) ?rest3_t1
      case hy3_t1 => (intro W_ hS_; (try dsimp only at hS_); go_simp; (try (with_reducible rfl)))
      try simp only [Act.put, siA, scZ, scS]
      refine wpAnyH_ready (rs := [4]) (by kernel_rfl) (by simp) ?_
      refine AllReadyH.cons rfl (fun K_ hK_ => ?_) AllReadyH.nil
      go_simp
      refine (refRight_c (NIs.to hVx50 (below_drew1 _)) true (rightN_iff.2 HokS.out)).mono ?_; rintro e wr4 ⟨rfl, hBr4⟩
      go_wp2_with fail
      refine hK_.out _ _ (by exact ⟨(nat_to (nat_to hAt50 (below_drew1 _)) hBr4), (nat_to (nat_to hAx50 (below_drew1 _)) hBr4)⟩) (fun hHeld_4 => ?_)
      clear hK_
      try simp only [Act.put, siA, scZ, scS]
      refine wpAnyH_take' (i := 5) (v := ?v5_t1) 40 rfl rfl (by kernel_rfl) (by kernel_rfl) (by kernel_rfl) (fun _ _ _ h => h) (Or.inl ⟨by kernel_rfl, ?hy5_t1⟩) (by assumption) ?rest5_t1
      case hy5_t1 => (intro W_ hS_; (try dsimp only at hS_); go_simp; (try (with_reducible rfl)))
      try simp only [Act.put, siA, scZ, scS]
      refine wpAnyH_take' (i := 6) (v := ?v6_t1) 41 rfl rfl (by kernel_rfl) (by kernel_rfl) (by kernel_rfl) (fun _ _ _ h => h) (Or.inl ⟨by kernel_rfl, ?hy6_t1⟩) (by assumption) ?rest6_t1
      case hy6_t1 => (intro W_ hS_; (try dsimp only at hS_); go_simp; (try (with_reducible rfl)))
      try simp only [Act.put, siA, scZ, scS]
      refine wpAnyH_take' (i := 7) (v := ?v7_t1) 42 rfl rfl (by kernel_rfl) (by kernel_rfl) (by kernel_rfl) (fun _ _ _ h => h) (Or.inl ⟨by kernel_rfl, ?hy7_t1⟩) (by assumption) ?rest7_t1
      case hy7_t1 => (intro W_ hS_; (try dsimp only at hS_); go_simp; (try (with_reducible rfl)))
      try simp only [Act.put, siA, scZ, scS]
      refine wpAnyH_take' (i := 8) (v := ?v8_t1) 43 rfl rfl (by kernel_rfl) (by kernel_rfl) (by kernel_rfl) (fun _ _ _ h => h) (Or.inl ⟨by kernel_rfl, ?hy8_t1⟩) (by assumption) ?rest8_t1
      case hy8_t1 => (intro W_ hS_; (try dsimp only at hS_); go_simp; (try (with_reducible rfl)))
      try simp only [Act.put, siA, scZ, scS]
      refine wpAnyH_take' (i := 9) (v := ?v9_t1) 44 rfl rfl (by kernel_rfl) (by kernel_rfl) (by kernel_rfl) (fun _ _ _ h => h) (Or.inl ⟨by kernel_rfl, ?hy9_t1⟩) (by assumption) ?rest9_t1
      case hy9_t1 => (intro W_ hS_; (try dsimp only at hS_); go_simp; (try (with_reducible rfl)))
      try simp only [Act.put, siA, scZ, scS]
      refine wpAnyH_take' (i := 10) (v := ?v10_t1) 45 rfl rfl (by kernel_rfl) (by kernel_rfl) (by kernel_rfl) (fun _ _ _ h => h) (Or.inl ⟨by kernel_rfl, ?hy10_t1⟩) (by assumption) ?rest10_t1
      case hy10_t1 => (intro W_ hS_; (try dsimp only at hS_); go_simp; (try (with_reducible rfl)))
      try simp only [Act.put, siA, scZ, scS]
      refine wpAnyH_take' (i := 11) (v := ?v11_t1) 46 rfl rfl (by kernel_rfl) (by kernel_rfl) (by kernel_rfl) (fun _ _ _ h => h) (Or.inl ⟨by kernel_rfl, ?hy11_t1⟩) (by assumption) ?rest11_t1
      case hy11_t1 => (intro W_ hS_; (try dsimp only at hS_); go_simp; (try (with_reducible rfl)))
      try simp only [Act.put, siA, scZ, scS]
      refine wpAnyH_take' (i := 12) (v := ?v12_t1) 47 rfl rfl (by kernel_rfl) (by kernel_rfl) (by kernel_rfl) (fun _ _ _ h => h) (Or.inl ⟨by kernel_rfl, ?hy12_t1⟩) (by assumption) ?rest12_t1
      case hy12_t1 => (intro W_ hS_; (try dsimp only at hS_); go_simp; (try (with_reducible rfl)))
      try simp only [Act.put, siA, scZ, scS]
      refine wpAnyH_take' (i := 13) (v := ?v13_t1) 48 rfl rfl (by kernel_rfl) (by kernel_rfl) (by kernel_rfl) (fun _ _ _ h => h) (Or.inl ⟨by kernel_rfl, ?hy13_t1⟩) (by assumption) ?rest13_t1
      case hy13_t1 => (intro W_ hS_; (try dsimp only at hS_); go_simp; (try (with_reducible rfl)))
      try simp only [Act.put, siA, scZ, scS]
      refine wpAnyH_take' (i := 14) (v := ?v14_t1) 49 rfl rfl (by kernel_rfl) (by kernel_rfl) (by kernel_rfl) (fun _ _ _ h => h) (Or.inl ⟨by kernel_rfl, ?hy14_t1⟩) (by assumption) ?rest14_t1
      case hy14_t1 => (intro W_ hS_; (try dsimp only at hS_); go_simp; (try (with_reducible rfl)))
      try simp only [Act.put, siA, scZ, scS]
      refine wpAnyH_take' (i := 15) (v := ?v15_t1) 50 rfl rfl (by kernel_rfl) (by kernel_rfl) (by kernel_rfl) (fun _ _ _ h => h) (Or.inl ⟨by kernel_rfl, ?hy15_t1⟩) (by assumption) ?rest15_t1
      case hy15_t1 => (intro W_ hS_; (try dsimp only at hS_); go_simp; (try (with_reducible rfl)))
      try simp only [Act.put, siA, scZ, scS]
      refine wpAnyH_take' (i := 16) (v := ?v16_t1) 51 rfl rfl (by kernel_rfl) (by kernel_rfl) (by kernel_rfl) (fun _ _ _ h => h) (Or.inl ⟨by kernel_rfl, ?hy16_t1⟩) (by assumption) ?rest16_t1
      case hy16_t1 => (intro W_ hS_; (try dsimp only at hS_); go_simp; (try (with_reducible rfl)))
      try simp only [Act.put, siA, scZ, scS]
      refine wpAnyH_take' (i := 17) (v := ?v17_t1) 52 rfl rfl (by kernel_rfl) (by kernel_rfl) (by kernel_rfl) (fun _ _ _ h => h) (Or.inl ⟨by kernel_rfl, ?hy17_t1⟩) (by assumption) ?rest17_t1
      case hy17_t1 => (intro W_ hS_; (try dsimp only at hS_); go_simp; (try (with_reducible rfl)))
      try simp only [Act.put, siA, scZ, scS]
      refine wpAnyH_take' (i := 18) (v := ?v18_t1) 53 rfl rfl (by kernel_rfl) (by kernel_rfl) (by kernel_rfl) (fun _ _ _ h => h) (Or.inl ⟨by kernel_rfl, ?hy18_t1⟩) (by assumption) ?rest18_t1
      case hy18_t1 => (intro W_ hS_; (try dsimp only at hS_); go_simp; (try (with_reducible rfl)))
      try simp only [Act.put, siA, scZ, scS]
      refine wpAnyH_take' (i := 19) (v := ?v19_t1) 54 rfl rfl (by kernel_rfl) (by kernel_rfl) (by kernel_rfl) (fun _ _ _ h => h) (Or.inl ⟨by kernel_rfl, ?hy19_t1⟩) (by assumption) ?rest19_t1
      case hy19_t1 => (intro W_ hS_; (try dsimp only at hS_); go_simp; (try (with_reducible rfl)))
      try simp only [Act.put, siA, scZ, scS]
      refine wpAnyH_take' (i := 20) (v := ?v20_t1) 55 rfl rfl (by kernel_rfl) (by kernel_rfl) (by kernel_rfl) (fun _ _ _ h => h) (Or.inl ⟨by kernel_rfl, ?hy20_t1⟩) (by assumption) ?rest20_t1
      case hy20_t1 => (intro W_ hS_; (try dsimp only at hS_); go_simp; (try (with_reducible rfl)))
      try simp only [Act.put, siA, scZ, scS]
      refine wpAnyH_done (by kernel_rfl) ?_ _
      obtain ⟨w51, hw51⟩ : ∃ w51, wr4 = w51 := ⟨_, rfl⟩
      have hB51 : Below wr.heap.size wr w51 := by rw [← hw51]; exact (below_then (below_drew1 _) hBr4)
      rw [hw51]
      clear hw51  hBr4
      have hT51 := below_then hT50 hB51
      have hx51 := block_below hB51 hx50
      have hz51 := block_below hB51 hz50
      have hM51 := NSl.to hM50 hB51
      have hu51 := NSl.to hu50 hB51
      have hY51 := HIs.to hY50 hB51
      have ht51 := TIs.to ht50 hB51
      have hAt51 := nat_to hAt50 hB51
      have hV51 := NIs.to hV50 hB51
      have hAx51 := nat_to hAx50 hB51
      have hVx51 := NIs.to hVx50 hB51
      clear hT50 hx50 hz50 hM50 hu50 hY50 ht50 hAt50 hV50 hAx50 hVx50 hB51
      go_wp2_with fail
      go_round
      case measure => simp [intOf]; omega
      exact ⟨j + 1, by omega, by go_num, hx51, hz51, hM51, hu51, hY51, ht51, hT51⟩
    obtain rfl : j = m1 := by omega
    have j1 : ¬ (j : Int) < (j : Int) := by omega
    have hwin := ht50.win
    have hokk := ht50.ok
    have hbb := ht50.b
    have hff := ht50.f
    dsimp only at hwin hokk hbb hff
    by_cases hneg : winN Ms < 0
    · skip
      have e_ := HT1.out
      rw [told_none K hneg] at e_
      subst e_
      obtain rfl : tw = -1 := hwin
      obtain rfl : tok = false := hokk
      obtain rfl : tb = 11 := hbb
      clear hneg hff
      have hlz := (Array.getElem?_eq_some_iff.1 hz50).1
      obtain ⟨zc0, zc1, zc2, zc3, zc4, zc5, zc6, zc7⟩ := cells8' hz50
      go_wp2_with fail
      clear hlz zc0 zc1 zc2 zc3 zc4 zc5 zc6 zc7
      go_ret
      exact ⟨rfl, hT50⟩
    have hFr := winF_right Hok.out (show 0 ≤ winN Ms by omega)
    have e_ := HT1.out
    rw [told_some K (by omega)] at e_
    subst e_
    obtain ⟨F, hF_⟩ : ∃ F, winF Ms = F := ⟨_, rfl⟩
    dsimp only at hwin hokk hbb hff
    rw [hF_] at hFr hff hbb
    have HFr := Lib.hid hFr
    obtain ⟨L, hL_⟩ : ∃ L, lenC F = L := ⟨_, rfl⟩
    have hLe : L ≤ 1000 := by rw [← hL_]; exact lenC_le hFr
    have HL := Lib.hid hL_
    have j2 : (0 : Int) ≤ tw := by omega
    have hbb2 : tb = (L : Int) + (if okS Ms K then 3 else 23) := by rw [hbb]; show (lenC F : Int) + _ = _; rw [hL_]
    obtain ⟨q, hq_⟩ : ∃ q, okS Ms K = q := ⟨_, rfl⟩
    rw [hq_] at hbb2 hokk
    obtain rfl : tok = q := hokk
    have Hff := Lib.hid hff
    clear hFr hL_ hF_ hq_ hbb hwin hneg hff
    have hw23 := w64_23r L hLe
    have hw20 : wrap64 ((L : Int) + 23 - 20) = (L : Int) + 3 := by rw [show (L : Int) + 23 - 20 = (L : Int) + 3 by omega]; exact w64_3r L hLe
    cases tok
    · skip
      obtain rfl : tb = (L : Int) + 23 := hbb2
      have hlz := (Array.getElem?_eq_some_iff.1 hz50).1
      obtain ⟨zc0, zc1, zc2, zc3, zc4, zc5, zc6, zc7⟩ := cells8' hz50
      go_wp2_with fail
      clear hlz zc0 zc1 zc2 zc3 zc4 zc5 zc6 zc7
      refine (made6_c (Q := fun _ => True) (Hff.out) (fun _ _ => trivial) F (madeC_id HFr.out)).mono ?_
      rintro e w51 ⟨f2, rfl, hf2_, hB51⟩
      have hT51 := below_then hT50 hB51
      have hx51 := block_below hB51 hx50
      have hz51 := block_below hB51 hz50
      have hM51 := NSl.to hM50 hB51
      have hu51 := NSl.to hu50 hB51
      have hY51 := HIs.to hY50 hB51
      have ht51 := TIs.to ht50 hB51
      clear hT50 hx50 hz50 hM50 hu50 hY50 ht50 hB51
      have hf251 := hf2_
      clear hf2_
      go_wp2_with fail
      refine (refLen_c hf251 HFr.out L HL.out).mono ?_
      rintro e w52 ⟨rfl, hB52⟩
      have hT52 := below_then hT51 hB52
      have hx52 := block_below hB52 hx51
      have hz52 := block_below hB52 hz51
      have hM52 := NSl.to hM51 hB52
      have hu52 := NSl.to hu51 hB52
      have hY52 := HIs.to hY51 hB52
      have ht52 := TIs.to ht51 hB52
      have hf252 := FIs.to hf251 hB52
      clear hT51 hx51 hz51 hM51 hu51 hY51 ht51 hf251 hB52
      have hlz := (Array.getElem?_eq_some_iff.1 hz52).1
      obtain ⟨zc0, zc1, zc2, zc3, zc4, zc5, zc6, zc7⟩ := cells8' hz52
      go_wp2_with fail
      clear hlz zc0 zc1 zc2 zc3 zc4 zc5 zc6 zc7
      go_ret
      exact ⟨rfl, hT52⟩
    obtain rfl : tb = (L : Int) + 3 := hbb2
    have hlz := (Array.getElem?_eq_some_iff.1 hz50).1
    obtain ⟨zc0, zc1, zc2, zc3, zc4, zc5, zc6, zc7⟩ := cells8' hz50
    go_wp2_with fail
    clear hlz zc0 zc1 zc2 zc3 zc4 zc5 zc6 zc7
    refine (made6_c (Q := fun _ => True) (Hff.out) (fun _ _ => trivial) F (madeC_id HFr.out)).mono ?_
    rintro e w51 ⟨f2, rfl, hf2_, hB51⟩
    have hT51 := below_then hT50 hB51
    have hx51 := block_below hB51 hx50
    have hz51 := block_below hB51 hz50
    have hM51 := NSl.to hM50 hB51
    have hu51 := NSl.to hu50 hB51
    have hY51 := HIs.to hY50 hB51
    have ht51 := TIs.to ht50 hB51
    clear hT50 hx50 hz50 hM50 hu50 hY50 ht50 hB51
    have hf251 := hf2_
    clear hf2_
    go_wp2_with fail
    refine (refLen_c hf251 HFr.out L HL.out).mono ?_
    rintro e w52 ⟨rfl, hB52⟩
    have hT52 := below_then hT51 hB52
    have hx52 := block_below hB52 hx51
    have hz52 := block_below hB52 hz51
    have hM52 := NSl.to hM51 hB52
    have hu52 := NSl.to hu51 hB52
    have hY52 := HIs.to hY51 hB52
    have ht52 := TIs.to ht51 hB52
    have hf252 := FIs.to hf251 hB52
    clear hT51 hx51 hz51 hM51 hu51 hY51 ht51 hf251 hB52
    have hlz := (Array.getElem?_eq_some_iff.1 hz52).1
    obtain ⟨zc0, zc1, zc2, zc3, zc4, zc5, zc6, zc7⟩ := cells8' hz52
    go_wp2_with fail
    clear hlz zc0 zc1 zc2 zc3 zc4 zc5 zc6 zc7
    go_ret
    exact ⟨rfl, hT52⟩
end Go.Proofs.YtcifjccojmfpaaaGreat

