/-
  WBusAll.
-/
import Derived.Test.YtcifjccojmfpaaaGreatJ0
import Derived.Test.YtcifjccojmfpaaaGreatJ1
import Derived.Test.YtcifjccojmfpaaaGreatJ2
import Derived.Test.YtcifjccojmfpaaaGreatJ3
import Derived.Test.YtcifjccojmfpaaaGreatJ4
import Derived.Test.YtcifjccojmfpaaaGreatJ5
import Derived.Test.YtcifjccojmfpaaaGreatJ8
import Derived.Test.YtcifjccojmfpaaaGreatJ9
set_option maxRecDepth 100000
set_option maxHeartbeats 4000000
namespace Go.Proofs.YtcifjccojmfpaaaGreat
open Go.RowKit
set_option linter.unusedVariables false
set_option linter.unusedSimpArgs false
theorem busAll_any (hHd : Head10) (A : Option Addr) (n c : Nat) (Ns : List NC) (x : HV) (H0 : List Int) (w : World) (h : NSl w (fun _ => True) A n c Ns) (hh : HIs w (fun _ => True) x H0) :
    Calls Tryz.prog 4 #[.slice A n c, .agg #[.slice x.a x.m x.c]] w fun e w' => e = .returned (.bool true) ∧ Below w.heap.size w w' := by
  have h0 : NSl w (Out [w.heap.size]) A n c Ns := h.mono out_low10
  have hh0 : HIs w (Out [w.heap.size]) x H0 := hh.mono out_low10
  clear h hh
  obtain ⟨w0, hw0⟩ : ∃ w0, (w.alloc (.cells #[.slice x.a x.m x.c] 41)) = w0 := ⟨_, rfl⟩
  have hT0 : Below w.heap.size w w0 := by rw [← hw0]; exact below_alloc1 _ _
  have hx0 : w0.heap[w.heap.size]? = some (.cells #[.slice x.a x.m x.c] 41) := by rw [← hw0]; exact World.alloc_heap_new _ _
  have hs0 : w0.heap.size = w.heap.size + 1 := by rw [← hw0]; simp
  have Hs0 := Lib.hid hs0
  clear hs0
  have hlx := (Array.getElem?_eq_some_iff.1 hx0).1
  have xc0 := cells1' hx0
  go_enter Tryz.func4, Tryz.ntmps4
  go_wp2_with fail
  clear hlx xc0
  clear hw0
  have hZ0 := Below.refl w0.heap.size w0
  clear hZ0
  clear Hs0
  refine (hHd.run w0).mono ?_
  rintro e w1 ⟨rfl, hB1⟩
  have hT1 := below_then hT0 hB1
  have hx1 := block_below hB1 hx0
  clear hT0 hx0  hB1
  go_wp2_with fail
  refine (nodes10_c (Q := Out [w.heap.size]) (h0.to hT1) 5 (by decide) (out_up (lt_cons (Array.getElem?_eq_some_iff.1 hx1).1 (fun _ h => by cases h)))).mono ?_
  rintro e w2 ⟨A1, m1, c1, Ms, rfl, hM_, hok, hm1, hm8, hql, hB2⟩
  have hT2 := below_then hT1 hB2
  have hx2 := block_below hB2 hx1
  clear hT1 hx1  hB2
  have hM2 := hM_
  clear hM_
  have Hok := Lib.hid hok
  have Hql := Lib.hid hql
  have Hml := Lib.hid hM2.len
  clear hok hql
  have hlx := (Array.getElem?_eq_some_iff.1 hx2).1
  have xc0 := cells1' hx2
  go_wp2_with fail
  clear hlx xc0
  have hlit : HSl (w2.alloc (.cells #[.slice x.a x.m x.c] 41)) (Out [w.heap.size]) (some ⟨w2.heap.size, 0, none⟩) 1 1 [H0] := hsl_lit10 (hh0.to hT2)
  obtain ⟨w3, hw3⟩ : ∃ w_, w2.alloc (.cells #[.slice x.a x.m x.c] 41) = w_ := ⟨_, rfl⟩
  have hB3 : Below w2.heap.size w2 w3 := by rw [← hw3]; exact below_alloc1 _ _
  rw [hw3] at hlit
  rw [hw3]
  clear hw3
  have hT3 := below_then hT2 hB3
  have hx3 := block_below hB3 hx2
  have hM3 := NSl.to hM2 hB3
  clear hT2 hx2 hM2 hB3
  refine (cut_c (Q := Out [w.heap.size]) hlit 1 (by decide) (out_up (lt_cons (Array.getElem?_eq_some_iff.1 hx3).1 (fun _ h => by cases h)))).mono ?_
  rintro e w4 ⟨B1, k1, d1, Ks, rfl, hK_, hk1, hk2, hks, hB4⟩
  have hT4 := below_then hT3 hB4
  have hx4 := block_below hB4 hx3
  have hM4 := NSl.to hM3 hB4
  clear hT3 hx3 hM3 hB4
  obtain rfl : k1 = 1 := by omega
  obtain ⟨adk, y, ea_, hce_, hY_⟩ := HSl.at_ hK_ (k := 0) (by decide)
  subst ea_
  obtain ⟨K, hKe⟩ : ∃ K, Ks.getD 0 [] = K := ⟨_, rfl⟩
  rw [hKe] at hY_
  have hK10 : K.length ≤ 10 := by rw [← hKe]; exact hks _ (List.mem_of_getElem? (show Ks[0]? = some (Ks.getD 0 []) by simp [List.getD, List.getElem?_eq_getElem (show 0 < Ks.length by rw [hK_.len]; decide)]))
  clear hk1 hk2 hks hKe hK_ hlit
  rw [Nat.zero_mul, add_zero] at hce_
  have hlx := (Array.getElem?_eq_some_iff.1 hx4).1
  obtain ⟨xc0, xf0⟩ := cells1 hx4
  go_upto_region 4 with fail
  clear hlx xc0 xf0 hce_
  obtain ⟨w5, hw5⟩ : ∃ w_, w4.setCell ⟨w.heap.size, 0, none⟩ (.slice y.a y.m y.c) = w_ := ⟨_, rfl⟩
  have hG : w4.grownBy w5 (some w.heap.size) := by rw [← hw5]; exact grown_setAt _ _ _ _
  have hT5 := below_g hT4 hG (Nat.le_refl _)
  have hx5 : w5.heap[w.heap.size]? = some (.cells #[.slice y.a y.m y.c] 41) := by rw [← hw5]; exact set0_obj1 hx4 _
  have hM5 := NSl.grow hM4 hG (out_not (by simp))
  have hY5 := HIs.grow hY_ hG (out_not (by simp))
  rw [hw5]
  clear hw5 hG hT4 hx4 hM4 hY_
  have hlx := (Array.getElem?_eq_some_iff.1 hx5).1
  have xc0 := cells1' hx5
  go_wp2_with fail
  clear hlx xc0
  obtain ⟨Ns2, hNs2⟩ : ∃ q, slotN Ms K = q := ⟨_, rfl⟩
  have HNs2 := Lib.hid hNs2
  clear hNs2
  obtain ⟨T1, hT1⟩ : ∃ q, toldN lenZ Ms K = q := ⟨_, rfl⟩
  have HT1 := Lib.hid hT1
  clear hT1
  refine (slot_c hM5 Hok.out hm1 hm8 hY5.row hY5.len (by rw [← hY5.len]; omega) (out_up (lt_cons (Array.getElem?_eq_some_iff.1 hx5).1 (fun _ h => by cases h))) Ns2 HNs2.out T1 HT1.out).mono ?_
  rintro e w6 ⟨A2, c2, t, rfl, hu_, ht_, hB6⟩
  have hT6 := below_then hT5 hB6
  have hx6 := block_below hB6 hx5
  have hM6 := NSl.to hM5 hB6
  have hY6 := HIs.to hY5 hB6
  clear hT5 hx5 hM5 hY5 hB6
  have hu6 := hu_
  clear hu_
  have ht6 := ht_
  clear ht_
  go_upto_region 5 with fail
  obtain ⟨w7, hw7⟩ : ∃ w_, w6.alloc (.cells #[.int .i64 t.w, .bool t.f.x, .int .i64 t.f.i, .bool t.f.r, .int .i64 t.f.n, .slice t.f.a t.f.m t.f.c, .bool t.ok, .int .i64 t.b] 36) = w_ := ⟨_, rfl⟩
  have hB7 : Below w6.heap.size w6 w7 := by rw [← hw7]; exact below_alloc1 _ _
  obtain ⟨Z, hZ_⟩ : ∃ Z, w6.heap.size = Z := ⟨_, rfl⟩
  have hz7 : w7.heap[Z]? = some (.cells #[.int .i64 t.w, .bool t.f.x, .int .i64 t.f.i, .bool t.f.r, .int .i64 t.f.n, .slice t.f.a t.f.m t.f.c, .bool t.ok, .int .i64 t.b] 36) := by rw [← hw7, ← hZ_]; exact World.alloc_heap_new _ _
  rw [hw7]
  rw [hZ_]
  clear hw7
  have hT7 := below_then hT6 hB7
  have hx7 := block_below hB7 hx6
  have hM7 := NSl.to hM6 hB7
  have hY7 := HIs.to hY6 hB7
  have hu7 := NSl.to hu6 hB7
  have ht7 := TIs.to ht6 hB7
  clear hT6 hx6 hM6 hY6 hu6 ht6 hB7
  obtain ⟨tw, tf, tok, tb⟩ := t
  replace hM7 := NSl.mono (Q := fun _ => True) hM7 (fun _ _ _ => trivial)
  replace hu7 := NSl.mono (Q := fun _ => True) hu7 (fun _ _ _ => trivial)
  replace hY7 := HIs.mono (Q := fun _ => True) hY7 (fun _ _ _ => trivial)
  replace ht7 := TIs.mono (Q := fun _ => True) ht7 (fun _ _ _ => trivial)
  go_wp2_with fail
  go_loopw [8] (fun i wr => ∃ (j : Nat), j ≤ m1 ∧ i = .int .i64 j ∧ wr.heap[w.heap.size]? = some (.cells #[.slice y.a y.m y.c] 41) ∧ wr.heap[Z]? = some (.cells #[.int .i64 tw, .bool tf.x, .int .i64 tf.i, .bool tf.r, .int .i64 tf.n, .slice tf.a tf.m tf.c, .bool tok, .int .i64 tb] 36) ∧ NSl wr (fun _ => True) A1 m1 c1 Ms ∧ NSl wr (fun _ => True) A2 m1 c2 Ns2 ∧ HIs wr (fun _ => True) y K ∧ TIs wr (fun _ => True) ⟨tw, tf, tok, tb⟩ T1 ∧ Below w.heap.size w wr) (fun i _ => m1 - (intOf i).toNat)
  case atStart => exact ⟨0, Nat.zero_le _, rfl, hx7, hz7, hM7, hu7, hY7, ht7, hT7⟩
  case round =>
    clear hx7 hz7 hM7 hu7 hY7 ht7 hT7
    obtain ⟨j, hj, rfl, hx50, hz50, hM50, hu50, hY50, ht50, hT50⟩ := hrel
    by_cases hlt : j < m1
    · skip
      have j1 : (j : Int) < (m1 : Int) := by omega
      obtain ⟨ad, m, ea1, hAt50, hV50⟩ := NSl.at_ hM50 hlt
      obtain ⟨ad2, m2, ea2, hAx50, hVx50⟩ := NSl.at_ hu50 hlt
      subst ea1 ea2
      obtain ⟨N, hN_⟩ : ∃ N_, nd Ms j = N_ := ⟨_, rfl⟩
      replace hV50 : NIs wr (fun _ => True) m N := by rw [← hN_]; exact hV50
      have HN := Lib.hid hN_
      clear hN_
      have Hlt := Lib.hid (show j < Ms.length by rw [Hml.out]; exact hlt)
      have t_ := nat_to hAt50 (below_alloc1 wr (.cells #[] 34))
      obtain ⟨t0, t1, t2, t3, t4, t5, t6⟩ := t_
      obtain ⟨gs, hgr, hgi⟩ := hV50.g.row
      have hgl : gs.length = m.gm := hgi.1.trans hV50.g.len
      have hg5 : N.g.length ≤ 5 := by rw [← HN.out]; exact (Hql.out _ (nd_mem (by rw [Hml.out]; exact hlt))).2
      have hgm5 : m.gm ≤ 5 := by rw [← hV50.g.len]; exact hg5
      have Hgl := Lib.hid hgl
      clear hgl
      go_wp2_with (at_builtin; refine wpList_append_fr _ rfl _ _ rfl wr.heap.size _ 0 [] rfl (fown_empty wr _ _ rfl (Nat.le_refl _)) m.ga m.gm m.gc _ gs rfl Hgl.out (hgr.to (below_alloc1 _ _)) (by omega) (by simp) ?_; intro A3 c3 w51 hO_ hc3 hB_)
      clear t0 t1 t2 t3 t4 t5 t6
      simp only [Nat.zero_add, List.nil_append] at hO_ hc3 ⊢
      have hB51 : Below wr.heap.size wr w51 := ((Below.refl _ wr).alloc (Nat.le_refl _) _).trans hB_
      clear hB_
      have hS50 := hgi
      have hZ50 := Below.refl wr.heap.size wr
      have H50 := Lib.hid (And.intro hT50 (And.intro hx50 (And.intro hz50 (And.intro hM50 (And.intro hu50 (And.intro hY50 (And.intro ht50 (And.intro hVx50 (And.intro hAx50 hS50)))))))))
      have hT51 := below_then hT50 hB51
      have hZ51 := below_then hZ50 hB51
      clear hZ50
      have hx51 := block_below hB51 hx50
      have hz51 := block_below hB51 hz50
      have hM51 := NSl.to hM50 hB51
      have hu51 := NSl.to hu50 hB51
      have hY51 := HIs.to hY50 hB51
      have ht51 := TIs.to ht50 hB51
      have hAt51 := nat_to hAt50 hB51
      have hV51 := NIs.to hV50 hB51
      have hAx51 := nat_to hAx50 hB51
      have hVx51 := NIs.to hVx50 hB51
      have hS51 := FsIs.to hS50 hB51
      clear hT50 hx50 hz50 hM50 hu50 hY50 ht50 hAt50 hV50 hAx50 hVx50 hS50 hB51
      have hO51 := hO_
      clear hO_
      have hok_ := ht51.ok
      dsimp only at hok_
      have hgv := Lib.hid (show gotV Ms K j = (tok && (!alongN Ms j && (decide (N.k.s ≠ 3) && (!inH K j && anyV N.l T1.f.x T1.f.i)))) by unfold gotV; rw [HT1.out, show nd Ms j = N from HN.out, ← hok_])
      have hgot := Lib.hid (slot_got K (show j < Ms.length by rw [Hml.out]; exact hlt) (by rw [show nd Ms j = N from HN.out]; omega))
      rw [HNs2.out, HT1.out, show nd Ms j = N from HN.out] at hgot
      have Hokx := Lib.hid hok_
      clear hok_
      cases tok
      · skip
        refine wp_region_held_drew (S := fun W => (W.cell? ⟨w.heap.size, 0, none⟩ = some (.slice y.a y.m y.c)) ∧ (W.cell? ⟨Z, 0, none⟩ = some (.int .i64 tw) ∧ W.cell? ⟨Z, 1, none⟩ = some (.bool tf.x) ∧ W.cell? ⟨Z, 2, none⟩ = some (.int .i64 tf.i) ∧ W.cell? ⟨Z, 3, none⟩ = some (.bool tf.r) ∧ W.cell? ⟨Z, 4, none⟩ = some (.int .i64 tf.n) ∧ W.cell? ⟨Z, 5, none⟩ = some (.slice tf.a tf.m tf.c) ∧ W.cell? ⟨Z, 6, none⟩ = some (.bool false) ∧ W.cell? ⟨Z, 7, none⟩ = some (.int .i64 tb)) ∧ (W.cell? (ad.add (j * 7)) = some (.slice m.qa m.qm m.qc) ∧ W.cell? ⟨(ad.add (j * 7)).block, (ad.add (j * 7)).off + 1, none⟩ = some (.slice m.la m.lm m.lc) ∧ W.cell? ⟨(ad.add (j * 7)).block, (ad.add (j * 7)).off + 2, none⟩ = some (.int .i64 m.k.t) ∧ W.cell? ⟨(ad.add (j * 7)).block, (ad.add (j * 7)).off + 3, none⟩ = some (.int .i64 m.k.r) ∧ W.cell? ⟨(ad.add (j * 7)).block, (ad.add (j * 7)).off + 4, none⟩ = some (.int .i64 m.k.s) ∧ W.cell? ⟨(ad.add (j * 7)).block, (ad.add (j * 7)).off + 5, none⟩ = some (.int .i64 m.k.q) ∧ W.cell? ⟨(ad.add (j * 7)).block, (ad.add (j * 7)).off + 6, none⟩ = some (.slice m.ga m.gm m.gc))) (by kernel_rfl) (by exact ⟨cells1' (block_below (below_drew1 _) hx51), cells8' (block_below (below_drew1 _) hz51), (nat_to hAt51 (below_drew1 _))⟩) (fun hHeld_ => ?_)
        refine wpAnyH_take' (i := 0) (v := ?v0_t2) 42 rfl rfl (by kernel_rfl) (by kernel_rfl) (by kernel_rfl) (fun _ _ _ h => h) (Or.inl ⟨by kernel_rfl, ?hy0_t2⟩) (by assumption) ?rest0_t2
        case hy0_t2 => (intro W_ hS_; (try dsimp only at hS_); go_simp; (try (with_reducible rfl)))
        try simp only [Act.put, siA, scZ, scS]
        refine wpAnyH_take' (i := 1) (v := ?v1_t2) 43 rfl rfl (by kernel_rfl) (by kernel_rfl) (by kernel_rfl) (fun _ _ _ h => h) (Or.inl ⟨by kernel_rfl, ?hy1_t2⟩) (by assumption) ?rest1_t2
        case hy1_t2 => (intro W_ hS_; (try dsimp only at hS_); go_simp; (try (with_reducible rfl)))
        try simp only [Act.put, siA, scZ, scS]
        refine wpAnyH_take' (i := 2) (v := ?v2_t2) 44 rfl rfl (by kernel_rfl) (by kernel_rfl) (by kernel_rfl) (fun _ _ _ h => h) (Or.inl ⟨by kernel_rfl, ?hy2_t2⟩) (by assumption) ?rest2_t2
        case hy2_t2 => (intro W_ hS_; (try dsimp only at hS_); go_simp; (try (with_reducible rfl)))
        try simp only [Act.put, siA, scZ, scS]
        refine wpAnyH_take' (i := 3) (v := undef) 45 rfl rfl (by kernel_rfl) (by kernel_rfl) (by kernel_rfl) (fun _ _ _ h => h) (Or.inr ⟨by kernel_rfl, rfl⟩) (by assumption) ?_
        try simp only [Act.put, siA, scZ, scS]
        refine wpAnyH_take' (i := 4) (v := undef) 46 rfl rfl (by kernel_rfl) (by kernel_rfl) (by kernel_rfl) (fun _ _ _ h => h) (Or.inr ⟨by kernel_rfl, rfl⟩) (by assumption) ?_
        try simp only [Act.put, siA, scZ, scS]
        refine wpAnyH_skip (i := 5) 47 rfl rfl (by kernel_rfl) (by kernel_rfl) (by assumption) ?_
        try simp only [Act.put, siA, scZ, scS]
        refine wpAnyH_take' (i := 6) (v := undef) 48 rfl rfl (by kernel_rfl) (by kernel_rfl) (by kernel_rfl) (fun _ _ _ h => h) (Or.inr ⟨by kernel_rfl, rfl⟩) (by assumption) ?_
        try simp only [Act.put, siA, scZ, scS]
        refine wpAnyH_take' (i := 7) (v := ?v7_t2) 49 rfl rfl (by kernel_rfl) (by kernel_rfl) (by kernel_rfl) (fun _ _ _ h => h) (Or.inl ⟨by kernel_rfl, ?hy7_t2⟩) (by assumption) ?rest7_t2
        case hy7_t2 => (intro W_ hS_; (try dsimp only at hS_); go_simp; (try (with_reducible rfl)))
        try simp only [Act.put, siA, scZ, scS]
        refine wpAnyH_take' (i := 8) (v := ?v8_t2) 50 rfl rfl (by kernel_rfl) (by kernel_rfl) (by kernel_rfl) (fun _ _ _ h => h) (Or.inl ⟨by kernel_rfl, ?hy8_t2⟩) (by assumption) ?rest8_t2
        case hy8_t2 => (intro W_ hS_; (try dsimp only at hS_); go_simp; (try (with_reducible rfl)))
        try simp only [Act.put, siA, scZ, scS]
        refine wpAnyH_take' (i := 9) (v := undef) 51 rfl rfl (by kernel_rfl) (by kernel_rfl) (by kernel_rfl) (fun _ _ _ h => h) (Or.inr ⟨by kernel_rfl, rfl⟩) (by assumption) ?_
        try simp only [Act.put, siA, scZ, scS]
        refine wpAnyH_take' (i := 10) (v := undef) 52 rfl rfl (by kernel_rfl) (by kernel_rfl) (by kernel_rfl) (fun _ _ _ h => h) (Or.inr ⟨by kernel_rfl, rfl⟩) (by assumption) ?_
        try simp only [Act.put, siA, scZ, scS]
        refine wpAnyH_take' (i := 11) (v := undef) 53 rfl rfl (by kernel_rfl) (by kernel_rfl) (by kernel_rfl) (fun _ _ _ h => h) (Or.inr ⟨by kernel_rfl, rfl⟩) (by assumption) ?_
        try simp only [Act.put, siA, scZ, scS]
        refine wpAnyH_take' (i := 12) (v := undef) 54 rfl rfl (by kernel_rfl) (by kernel_rfl) (by kernel_rfl) (fun _ _ _ h => h) (Or.inr ⟨by kernel_rfl, rfl⟩) (by assumption) ?_
        try simp only [Act.put, siA, scZ, scS]
        refine wpAnyH_take' (i := 13) (v := undef) 55 rfl rfl (by kernel_rfl) (by kernel_rfl) (by kernel_rfl) (fun _ _ _ h => h) (Or.inr ⟨by kernel_rfl, rfl⟩) (by assumption) ?_
        try simp only [Act.put, siA, scZ, scS]
        refine wpAnyH_take' (i := 14) (v := undef) 56 rfl rfl (by kernel_rfl) (by kernel_rfl) (by kernel_rfl) (fun _ _ _ h => h) (Or.inr ⟨by kernel_rfl, rfl⟩) (by assumption) ?_
        try simp only [Act.put, siA, scZ, scS]
        refine wpAnyH_take' (i := 15) (v := undef) 57 rfl rfl (by kernel_rfl) (by kernel_rfl) (by kernel_rfl) (fun _ _ _ h => h) (Or.inr ⟨by kernel_rfl, rfl⟩) (by assumption) ?_
        try simp only [Act.put, siA, scZ, scS]
        refine wpAnyH_take' (i := 16) (v := ?v16_t2) 58 rfl rfl (by kernel_rfl) (by kernel_rfl) (by kernel_rfl) (fun _ _ _ h => h) (Or.inl ⟨by kernel_rfl, ?hy16_t2⟩) (by assumption) ?rest16_t2
        case hy16_t2 => (intro W_ hS_; (try dsimp only at hS_); go_simp; (try (with_reducible rfl)))
        try simp only [Act.put, siA, scZ, scS]
        refine wpAnyH_take' (i := 17) (v := ?v17_t2) 59 rfl rfl (by kernel_rfl) (by kernel_rfl) (by kernel_rfl) (fun _ _ _ h => h) (Or.inl ⟨by kernel_rfl, ?hy17_t2⟩) (by assumption) ?rest17_t2
        case hy17_t2 => (intro W_ hS_; (try dsimp only at hS_); go_simp; (try (with_reducible rfl)))
        try simp only [Act.put, siA, scZ, scS]
        refine wpAnyH_take' (i := 18) (v := undef) 60 rfl rfl (by kernel_rfl) (by kernel_rfl) (by kernel_rfl) (fun _ _ _ h => h) (Or.inr ⟨by kernel_rfl, rfl⟩) (by assumption) ?_
        try simp only [Act.put, siA, scZ, scS]
        refine wpAnyH_take' (i := 19) (v := undef) 61 rfl rfl (by kernel_rfl) (by kernel_rfl) (by kernel_rfl) (fun _ _ _ h => h) (Or.inr ⟨by kernel_rfl, rfl⟩) (by assumption) ?_
        try simp only [Act.put, siA, scZ, scS]
        refine wpAnyH_take' (i := 20) (v := undef) 62 rfl rfl (by kernel_rfl) (by kernel_rfl) (by kernel_rfl) (fun _ _ _ h => h) (Or.inr ⟨by kernel_rfl, rfl⟩) (by assumption) ?_
        try simp only [Act.put, siA, scZ, scS]
        refine wpAnyH_skip (i := 21) 63 rfl rfl (by kernel_rfl) (by kernel_rfl) (by assumption) ?_
        try simp only [Act.put, siA, scZ, scS]
        refine wpAnyH_take' (i := 22) (v := undef) 64 rfl rfl (by kernel_rfl) (by kernel_rfl) (by kernel_rfl) (fun _ _ _ h => h) (Or.inr ⟨by kernel_rfl, rfl⟩) (by assumption) ?_
        try simp only [Act.put, siA, scZ, scS]
        refine wpAnyH_take' (i := 23) (v := ?v23_t2) 65 rfl rfl (by kernel_rfl) (by kernel_rfl) (by kernel_rfl) (fun _ _ _ h => h) (Or.inl ⟨by kernel_rfl, ?hy23_t2⟩) (by assumption) ?rest23_t2
        case hy23_t2 => (intro W_ hS_; (try dsimp only at hS_); go_simp; (try (with_reducible rfl)))
        try simp only [Act.put, siA, scZ, scS]
        refine wpAnyH_take' (i := 24) (v := ?v24_t2) 66 rfl rfl (by kernel_rfl) (by kernel_rfl) (by kernel_rfl) (fun _ _ _ h => h) (Or.inl ⟨by kernel_rfl, ?hy24_t2⟩) (by assumption) ?rest24_t2
        case hy24_t2 => (intro W_ hS_; (try dsimp only at hS_); go_simp; (try (with_reducible rfl)))
        try simp only [Act.put, siA, scZ, scS]
        refine wpAnyH_take' (i := 25) (v := undef) 67 rfl rfl (by kernel_rfl) (by kernel_rfl) (by kernel_rfl) (fun _ _ _ h => h) (Or.inr ⟨by kernel_rfl, rfl⟩) (by assumption) ?_
        try simp only [Act.put, siA, scZ, scS]
        refine wpAnyH_take' (i := 26) (v := undef) 68 rfl rfl (by kernel_rfl) (by kernel_rfl) (by kernel_rfl) (fun _ _ _ h => h) (Or.inr ⟨by kernel_rfl, rfl⟩) (by assumption) ?_
        try simp only [Act.put, siA, scZ, scS]
        refine wpAnyH_take' (i := 27) (v := undef) 69 rfl rfl (by kernel_rfl) (by kernel_rfl) (by kernel_rfl) (fun _ _ _ h => h) (Or.inr ⟨by kernel_rfl, rfl⟩) (by assumption) ?_
        try simp only [Act.put, siA, scZ, scS]
        refine wpAnyH_take' (i := 28) (v := undef) 70 rfl rfl (by kernel_rfl) (by kernel_rfl) (by kernel_rfl) (fun _ _ _ h => h) (Or.inr ⟨by kernel_rfl, rfl⟩) (by assumption) ?_
        try simp only [Act.put, siA, scZ, scS]
        refine wpAnyH_take' (i := 29) (v := undef) 71 rfl rfl (by kernel_rfl) (by kernel_rfl) (by kernel_rfl) (fun _ _ _ h => h) (Or.inr ⟨by kernel_rfl, rfl⟩) (by assumption) ?_
        try simp only [Act.put, siA, scZ, scS]
        refine wpAnyH_take' (i := 30) (v := undef) 72 rfl rfl (by kernel_rfl) (by kernel_rfl) (by kernel_rfl) (fun _ _ _ h => h) (Or.inr ⟨by kernel_rfl, rfl⟩) (by assumption) ?_
        try simp only [Act.put, siA, scZ, scS]
        refine wpAnyH_take' (i := 31) (v := undef) 73 rfl rfl (by kernel_rfl) (by kernel_rfl) (by kernel_rfl) (fun _ _ _ h => h) (Or.inr ⟨by kernel_rfl, rfl⟩) (by assumption) ?_
        try simp only [Act.put, siA, scZ, scS]
        refine wpAnyH_skip (i := 32) 74 rfl rfl (by kernel_rfl) (by kernel_rfl) (by assumption) ?_
        try simp only [Act.put, siA, scZ, scS]
        refine wpAnyH_take' (i := 33) (v := ?v33_t2) 75 rfl rfl (by kernel_rfl) (by kernel_rfl) (by kernel_rfl) (fun _ _ _ h => h) (Or.inl ⟨by kernel_rfl, ?hy33_t2⟩) (by assumption) ?rest33_t2
        case hy33_t2 => (intro W_ hS_; (try dsimp only at hS_); go_simp; (try (with_reducible rfl)))
        try simp only [Act.put, siA, scZ, scS]
        refine wpAnyH_done (by kernel_rfl) ?_ _
        obtain ⟨w52, hw52⟩ : ∃ w52, w51.drew = w52 := ⟨_, rfl⟩
        have hB52 : Below w51.heap.size w51 w52 := by rw [← hw52]; exact (below_drew1 _)
        rw [hw52]
        clear hw52
        have hT52 := below_then hT51 hB52
        have hZ52 := below_then hZ51 hB52
        clear hZ51
        have hx52 := block_below hB52 hx51
        have hz52 := block_below hB52 hz51
        have hM52 := NSl.to hM51 hB52
        have hu52 := NSl.to hu51 hB52
        have hY52 := HIs.to hY51 hB52
        have ht52 := TIs.to ht51 hB52
        have hAt52 := nat_to hAt51 hB52
        have hV52 := NIs.to hV51 hB52
        have hAx52 := nat_to hAx51 hB52
        have hVx52 := NIs.to hVx51 hB52
        have hS52 := FsIs.to hS51 hB52
        have hO52 := FOwn9.to hO51 hB52
        clear hT51 hx51 hz51 hM51 hu51 hY51 ht51 hAt51 hV51 hAx51 hVx51 hS51 hO51 hB52
        have hgv2 : gotV Ms K j = false := by rw [hgv.out]; rfl
        have Hge := Lib.hid (show (nd Ns2 j).g = N.g by rw [hgot.out, hgv2]; rfl)
        clear hgv2
        have t_ := hAx52
        obtain ⟨t0, t1, t2, t3, t4, t5, t6⟩ := t_
        go_wp2_with fail
        clear t0 t1 t2 t3 t4 t5 t6
        refine (sameAll_c hVx52.g (FSl.own (P := fun _ => True) hO52 hS52 (by omega) (fun _ _ => trivial)) true (by rw [Hge.out]; unfold sameFs; simp)).mono ?_
        rintro e w53 ⟨rfl, hB53⟩
        have hT53 := below_then hT52 hB53
        have hZ53 := below_then hZ52 hB53
        clear hZ52
        have hx53 := block_below hB53 hx52
        have hz53 := block_below hB53 hz52
        have hM53 := NSl.to hM52 hB53
        have hu53 := NSl.to hu52 hB53
        have hY53 := HIs.to hY52 hB53
        have ht53 := TIs.to ht52 hB53
        have hAt53 := nat_to hAt52 hB53
        have hV53 := NIs.to hV52 hB53
        have hAx53 := nat_to hAx52 hB53
        have hVx53 := NIs.to hVx52 hB53
        have hS53 := FsIs.to hS52 hB53
        have hO53 := FOwn9.to hO52 hB53
        clear hT52 hx52 hz52 hM52 hu52 hY52 ht52 hAt52 hV52 hAx52 hVx52 hS52 hO52 hB53
        go_wp2_with fail
        go_round
        case measure => simp [intOf]; omega
        exact ⟨j + 1, by omega, by go_num, hx53, hz53, hM53, hu53, hY53, ht53, hT53⟩
      obtain ⟨al, hal⟩ : ∃ q, alongN Ms j = q := ⟨_, rfl⟩
      have Hal := Lib.hid hal
      clear hal
      cases al
      rotate_left
      · skip
        refine wp_region_held_drew (S := fun W => (W.cell? ⟨w.heap.size, 0, none⟩ = some (.slice y.a y.m y.c)) ∧ (W.cell? ⟨Z, 0, none⟩ = some (.int .i64 tw) ∧ W.cell? ⟨Z, 1, none⟩ = some (.bool tf.x) ∧ W.cell? ⟨Z, 2, none⟩ = some (.int .i64 tf.i) ∧ W.cell? ⟨Z, 3, none⟩ = some (.bool tf.r) ∧ W.cell? ⟨Z, 4, none⟩ = some (.int .i64 tf.n) ∧ W.cell? ⟨Z, 5, none⟩ = some (.slice tf.a tf.m tf.c) ∧ W.cell? ⟨Z, 6, none⟩ = some (.bool true) ∧ W.cell? ⟨Z, 7, none⟩ = some (.int .i64 tb)) ∧ (W.cell? (ad.add (j * 7)) = some (.slice m.qa m.qm m.qc) ∧ W.cell? ⟨(ad.add (j * 7)).block, (ad.add (j * 7)).off + 1, none⟩ = some (.slice m.la m.lm m.lc) ∧ W.cell? ⟨(ad.add (j * 7)).block, (ad.add (j * 7)).off + 2, none⟩ = some (.int .i64 m.k.t) ∧ W.cell? ⟨(ad.add (j * 7)).block, (ad.add (j * 7)).off + 3, none⟩ = some (.int .i64 m.k.r) ∧ W.cell? ⟨(ad.add (j * 7)).block, (ad.add (j * 7)).off + 4, none⟩ = some (.int .i64 m.k.s) ∧ W.cell? ⟨(ad.add (j * 7)).block, (ad.add (j * 7)).off + 5, none⟩ = some (.int .i64 m.k.q) ∧ W.cell? ⟨(ad.add (j * 7)).block, (ad.add (j * 7)).off + 6, none⟩ = some (.slice m.ga m.gm m.gc))) (by kernel_rfl) (by exact ⟨cells1' (block_below (below_drew1 _) hx51), cells8' (block_below (below_drew1 _) hz51), (nat_to hAt51 (below_drew1 _))⟩) (fun hHeld_ => ?_)
        refine wpAnyH_take' (i := 0) (v := ?v0_t3) 42 rfl rfl (by kernel_rfl) (by kernel_rfl) (by kernel_rfl) (fun _ _ _ h => h) (Or.inl ⟨by kernel_rfl, ?hy0_t3⟩) (by assumption) ?rest0_t3
        case hy0_t3 => (intro W_ hS_; (try dsimp only at hS_); go_simp; (try (with_reducible rfl)))
        try simp only [Act.put, siA, scZ, scS]
        refine wpAnyH_take' (i := 1) (v := ?v1_t3) 43 rfl rfl (by kernel_rfl) (by kernel_rfl) (by kernel_rfl) (fun _ _ _ h => h) (Or.inl ⟨by kernel_rfl, ?hy1_t3⟩) (by assumption) ?rest1_t3
        case hy1_t3 => (intro W_ hS_; (try dsimp only at hS_); go_simp; (try (with_reducible rfl)))
        try simp only [Act.put, siA, scZ, scS]
        refine wpAnyH_take' (i := 2) (v := ?v2_t3) 44 rfl rfl (by kernel_rfl) (by kernel_rfl) (by kernel_rfl) (fun _ _ _ h => h) (Or.inl ⟨by kernel_rfl, ?hy2_t3⟩) (by assumption) ?rest2_t3
        case hy2_t3 => (intro W_ hS_; (try dsimp only at hS_); go_simp; (try (with_reducible rfl)))
        try simp only [Act.put, siA, scZ, scS]
        refine wpAnyH_take' (i := 3) (v := ?v3_t3) 45 rfl rfl (by kernel_rfl) (by kernel_rfl) (by kernel_rfl) (fun _ _ _ h => h) (Or.inl ⟨by kernel_rfl, ?hy3_t3⟩) (by assumption) ?rest3_t3
        case hy3_t3 => (intro W_ hS_; (try dsimp only at hS_); go_simp; (try (with_reducible rfl)))
        try simp only [Act.put, siA, scZ, scS]
        refine wpAnyH_take' (i := 4) (v := ?v4_t3) 46 rfl rfl (by kernel_rfl) (by kernel_rfl) (by kernel_rfl) (fun _ _ _ h => h) (Or.inl ⟨by kernel_rfl, ?hy4_t3⟩) (by assumption) ?rest4_t3
        case hy4_t3 => (intro W_ hS_; (try dsimp only at hS_); go_simp; (try (with_reducible rfl)))
        try simp only [Act.put, siA, scZ, scS]
        refine wpAnyH_ready (rs := [5]) (by kernel_rfl) (by simp) ?_
        refine AllReadyH.cons rfl (fun K_ hK_ => ?_) AllReadyH.nil
        go_simp
        refine (along_c (NSl.to hM51 (below_drew1 _)) Hok.out (by omega) j hlt true Hal.out).mono ?_; rintro e wr5 ⟨rfl, hBr5⟩
        go_wp2_with fail
        refine hK_.out _ _ (by exact ⟨cells1' (block_below hBr5 (block_below (below_drew1 _) hx51)), cells8' (block_below hBr5 (block_below (below_drew1 _) hz51)), (nat_to (nat_to hAt51 (below_drew1 _)) hBr5)⟩) (fun hHeld_5 => ?_)
        clear hK_
        try simp only [Act.put, siA, scZ, scS]
        refine wpAnyH_take' (i := 6) (v := ?v6_t3) 48 rfl rfl (by kernel_rfl) (by kernel_rfl) (by kernel_rfl) (fun _ _ _ h => h) (Or.inl ⟨by kernel_rfl, ?hy6_t3⟩) (by assumption) ?rest6_t3
        case hy6_t3 => (intro W_ hS_; (try dsimp only at hS_); go_simp; (try (with_reducible rfl)))
        try simp only [Act.put, siA, scZ, scS]
        refine wpAnyH_take' (i := 7) (v := ?v7_t3) 49 rfl rfl (by kernel_rfl) (by kernel_rfl) (by kernel_rfl) (fun _ _ _ h => h) (Or.inl ⟨by kernel_rfl, ?hy7_t3⟩) (by assumption) ?rest7_t3
        case hy7_t3 => (intro W_ hS_; (try dsimp only at hS_); go_simp; (try (with_reducible rfl)))
        try simp only [Act.put, siA, scZ, scS]
        refine wpAnyH_take' (i := 8) (v := ?v8_t3) 50 rfl rfl (by kernel_rfl) (by kernel_rfl) (by kernel_rfl) (fun _ _ _ h => h) (Or.inl ⟨by kernel_rfl, ?hy8_t3⟩) (by assumption) ?rest8_t3
        case hy8_t3 => (intro W_ hS_; (try dsimp only at hS_); go_simp; (try (with_reducible rfl)))
        try simp only [Act.put, siA, scZ, scS]
        refine wpAnyH_take' (i := 9) (v := undef) 51 rfl rfl (by kernel_rfl) (by kernel_rfl) (by kernel_rfl) (fun _ _ _ h => h) (Or.inr ⟨by kernel_rfl, rfl⟩) (by assumption) ?_
        try simp only [Act.put, siA, scZ, scS]
        refine wpAnyH_take' (i := 10) (v := undef) 52 rfl rfl (by kernel_rfl) (by kernel_rfl) (by kernel_rfl) (fun _ _ _ h => h) (Or.inr ⟨by kernel_rfl, rfl⟩) (by assumption) ?_
        try simp only [Act.put, siA, scZ, scS]
        refine wpAnyH_take' (i := 11) (v := undef) 53 rfl rfl (by kernel_rfl) (by kernel_rfl) (by kernel_rfl) (fun _ _ _ h => h) (Or.inr ⟨by kernel_rfl, rfl⟩) (by assumption) ?_
        try simp only [Act.put, siA, scZ, scS]
        refine wpAnyH_take' (i := 12) (v := undef) 54 rfl rfl (by kernel_rfl) (by kernel_rfl) (by kernel_rfl) (fun _ _ _ h => h) (Or.inr ⟨by kernel_rfl, rfl⟩) (by assumption) ?_
        try simp only [Act.put, siA, scZ, scS]
        refine wpAnyH_take' (i := 13) (v := undef) 55 rfl rfl (by kernel_rfl) (by kernel_rfl) (by kernel_rfl) (fun _ _ _ h => h) (Or.inr ⟨by kernel_rfl, rfl⟩) (by assumption) ?_
        try simp only [Act.put, siA, scZ, scS]
        refine wpAnyH_take' (i := 14) (v := undef) 56 rfl rfl (by kernel_rfl) (by kernel_rfl) (by kernel_rfl) (fun _ _ _ h => h) (Or.inr ⟨by kernel_rfl, rfl⟩) (by assumption) ?_
        try simp only [Act.put, siA, scZ, scS]
        refine wpAnyH_take' (i := 15) (v := undef) 57 rfl rfl (by kernel_rfl) (by kernel_rfl) (by kernel_rfl) (fun _ _ _ h => h) (Or.inr ⟨by kernel_rfl, rfl⟩) (by assumption) ?_
        try simp only [Act.put, siA, scZ, scS]
        refine wpAnyH_take' (i := 16) (v := ?v16_t3) 58 rfl rfl (by kernel_rfl) (by kernel_rfl) (by kernel_rfl) (fun _ _ _ h => h) (Or.inl ⟨by kernel_rfl, ?hy16_t3⟩) (by assumption) ?rest16_t3
        case hy16_t3 => (intro W_ hS_; (try dsimp only at hS_); go_simp; (try (with_reducible rfl)))
        try simp only [Act.put, siA, scZ, scS]
        refine wpAnyH_take' (i := 17) (v := ?v17_t3) 59 rfl rfl (by kernel_rfl) (by kernel_rfl) (by kernel_rfl) (fun _ _ _ h => h) (Or.inl ⟨by kernel_rfl, ?hy17_t3⟩) (by assumption) ?rest17_t3
        case hy17_t3 => (intro W_ hS_; (try dsimp only at hS_); go_simp; (try (with_reducible rfl)))
        try simp only [Act.put, siA, scZ, scS]
        refine wpAnyH_take' (i := 18) (v := undef) 60 rfl rfl (by kernel_rfl) (by kernel_rfl) (by kernel_rfl) (fun _ _ _ h => h) (Or.inr ⟨by kernel_rfl, rfl⟩) (by assumption) ?_
        try simp only [Act.put, siA, scZ, scS]
        refine wpAnyH_take' (i := 19) (v := undef) 61 rfl rfl (by kernel_rfl) (by kernel_rfl) (by kernel_rfl) (fun _ _ _ h => h) (Or.inr ⟨by kernel_rfl, rfl⟩) (by assumption) ?_
        try simp only [Act.put, siA, scZ, scS]
        refine wpAnyH_take' (i := 20) (v := undef) 62 rfl rfl (by kernel_rfl) (by kernel_rfl) (by kernel_rfl) (fun _ _ _ h => h) (Or.inr ⟨by kernel_rfl, rfl⟩) (by assumption) ?_
        try simp only [Act.put, siA, scZ, scS]
        refine wpAnyH_skip (i := 21) 63 rfl rfl (by kernel_rfl) (by kernel_rfl) (by assumption) ?_
        try simp only [Act.put, siA, scZ, scS]
        refine wpAnyH_take' (i := 22) (v := undef) 64 rfl rfl (by kernel_rfl) (by kernel_rfl) (by kernel_rfl) (fun _ _ _ h => h) (Or.inr ⟨by kernel_rfl, rfl⟩) (by assumption) ?_
        try simp only [Act.put, siA, scZ, scS]
        refine wpAnyH_take' (i := 23) (v := ?v23_t3) 65 rfl rfl (by kernel_rfl) (by kernel_rfl) (by kernel_rfl) (fun _ _ _ h => h) (Or.inl ⟨by kernel_rfl, ?hy23_t3⟩) (by assumption) ?rest23_t3
        case hy23_t3 => (intro W_ hS_; (try dsimp only at hS_); go_simp; (try (with_reducible rfl)))
        try simp only [Act.put, siA, scZ, scS]
        refine wpAnyH_take' (i := 24) (v := ?v24_t3) 66 rfl rfl (by kernel_rfl) (by kernel_rfl) (by kernel_rfl) (fun _ _ _ h => h) (Or.inl ⟨by kernel_rfl, ?hy24_t3⟩) (by assumption) ?rest24_t3
        case hy24_t3 => (intro W_ hS_; (try dsimp only at hS_); go_simp; (try (with_reducible rfl)))
        try simp only [Act.put, siA, scZ, scS]
        refine wpAnyH_take' (i := 25) (v := undef) 67 rfl rfl (by kernel_rfl) (by kernel_rfl) (by kernel_rfl) (fun _ _ _ h => h) (Or.inr ⟨by kernel_rfl, rfl⟩) (by assumption) ?_
        try simp only [Act.put, siA, scZ, scS]
        refine wpAnyH_take' (i := 26) (v := undef) 68 rfl rfl (by kernel_rfl) (by kernel_rfl) (by kernel_rfl) (fun _ _ _ h => h) (Or.inr ⟨by kernel_rfl, rfl⟩) (by assumption) ?_
        try simp only [Act.put, siA, scZ, scS]
        refine wpAnyH_take' (i := 27) (v := undef) 69 rfl rfl (by kernel_rfl) (by kernel_rfl) (by kernel_rfl) (fun _ _ _ h => h) (Or.inr ⟨by kernel_rfl, rfl⟩) (by assumption) ?_
        try simp only [Act.put, siA, scZ, scS]
        refine wpAnyH_take' (i := 28) (v := undef) 70 rfl rfl (by kernel_rfl) (by kernel_rfl) (by kernel_rfl) (fun _ _ _ h => h) (Or.inr ⟨by kernel_rfl, rfl⟩) (by assumption) ?_
        try simp only [Act.put, siA, scZ, scS]
        refine wpAnyH_take' (i := 29) (v := undef) 71 rfl rfl (by kernel_rfl) (by kernel_rfl) (by kernel_rfl) (fun _ _ _ h => h) (Or.inr ⟨by kernel_rfl, rfl⟩) (by assumption) ?_
        try simp only [Act.put, siA, scZ, scS]
        refine wpAnyH_take' (i := 30) (v := undef) 72 rfl rfl (by kernel_rfl) (by kernel_rfl) (by kernel_rfl) (fun _ _ _ h => h) (Or.inr ⟨by kernel_rfl, rfl⟩) (by assumption) ?_
        try simp only [Act.put, siA, scZ, scS]
        refine wpAnyH_take' (i := 31) (v := undef) 73 rfl rfl (by kernel_rfl) (by kernel_rfl) (by kernel_rfl) (fun _ _ _ h => h) (Or.inr ⟨by kernel_rfl, rfl⟩) (by assumption) ?_
        try simp only [Act.put, siA, scZ, scS]
        refine wpAnyH_skip (i := 32) 74 rfl rfl (by kernel_rfl) (by kernel_rfl) (by assumption) ?_
        try simp only [Act.put, siA, scZ, scS]
        refine wpAnyH_take' (i := 33) (v := ?v33_t3) 75 rfl rfl (by kernel_rfl) (by kernel_rfl) (by kernel_rfl) (fun _ _ _ h => h) (Or.inl ⟨by kernel_rfl, ?hy33_t3⟩) (by assumption) ?rest33_t3
        case hy33_t3 => (intro W_ hS_; (try dsimp only at hS_); go_simp; (try (with_reducible rfl)))
        try simp only [Act.put, siA, scZ, scS]
        refine wpAnyH_done (by kernel_rfl) ?_ _
        obtain ⟨w52, hw52⟩ : ∃ w52, wr5 = w52 := ⟨_, rfl⟩
        have hB52 : Below w51.heap.size w51 w52 := by rw [← hw52]; exact (below_then (below_drew1 _) hBr5)
        rw [hw52]
        clear hw52  hBr5
        have hT52 := below_then hT51 hB52
        have hZ52 := below_then hZ51 hB52
        clear hZ51
        have hx52 := block_below hB52 hx51
        have hz52 := block_below hB52 hz51
        have hM52 := NSl.to hM51 hB52
        have hu52 := NSl.to hu51 hB52
        have hY52 := HIs.to hY51 hB52
        have ht52 := TIs.to ht51 hB52
        have hAt52 := nat_to hAt51 hB52
        have hV52 := NIs.to hV51 hB52
        have hAx52 := nat_to hAx51 hB52
        have hVx52 := NIs.to hVx51 hB52
        have hS52 := FsIs.to hS51 hB52
        have hO52 := FOwn9.to hO51 hB52
        clear hT51 hx51 hz51 hM51 hu51 hY51 ht51 hAt51 hV51 hAx51 hVx51 hS51 hO51 hB52
        have hgv2 : gotV Ms K j = false := by rw [hgv.out]; rw [Hal.out]; rfl
        have Hge := Lib.hid (show (nd Ns2 j).g = N.g by rw [hgot.out, hgv2]; rfl)
        clear hgv2
        have t_ := hAx52
        obtain ⟨t0, t1, t2, t3, t4, t5, t6⟩ := t_
        go_wp2_with fail
        clear t0 t1 t2 t3 t4 t5 t6
        refine (sameAll_c hVx52.g (FSl.own (P := fun _ => True) hO52 hS52 (by omega) (fun _ _ => trivial)) true (by rw [Hge.out]; unfold sameFs; simp)).mono ?_
        rintro e w53 ⟨rfl, hB53⟩
        have hT53 := below_then hT52 hB53
        have hZ53 := below_then hZ52 hB53
        clear hZ52
        have hx53 := block_below hB53 hx52
        have hz53 := block_below hB53 hz52
        have hM53 := NSl.to hM52 hB53
        have hu53 := NSl.to hu52 hB53
        have hY53 := HIs.to hY52 hB53
        have ht53 := TIs.to ht52 hB53
        have hAt53 := nat_to hAt52 hB53
        have hV53 := NIs.to hV52 hB53
        have hAx53 := nat_to hAx52 hB53
        have hVx53 := NIs.to hVx52 hB53
        have hS53 := FsIs.to hS52 hB53
        have hO53 := FOwn9.to hO52 hB53
        clear hT52 hx52 hz52 hM52 hu52 hY52 ht52 hAt52 hV52 hAx52 hVx52 hS52 hO52 hB53
        go_wp2_with fail
        go_round
        case measure => simp [intOf]; omega
        exact ⟨j + 1, by omega, by go_num, hx53, hz53, hM53, hu53, hY53, ht53, hT53⟩
      have hks : m.k.s = N.k.s := by rw [hV51.k]
      by_cases hs : m.k.s = 3
      · skip
        have d1 : (m.k.s != 3) = false := by simp [hs]
        have Hs := Lib.hid (show N.k.s = 3 by rw [← hks]; exact hs)
        clear hs hks
        refine wp_region_held_drew (S := fun W => (W.cell? ⟨w.heap.size, 0, none⟩ = some (.slice y.a y.m y.c)) ∧ (W.cell? ⟨Z, 0, none⟩ = some (.int .i64 tw) ∧ W.cell? ⟨Z, 1, none⟩ = some (.bool tf.x) ∧ W.cell? ⟨Z, 2, none⟩ = some (.int .i64 tf.i) ∧ W.cell? ⟨Z, 3, none⟩ = some (.bool tf.r) ∧ W.cell? ⟨Z, 4, none⟩ = some (.int .i64 tf.n) ∧ W.cell? ⟨Z, 5, none⟩ = some (.slice tf.a tf.m tf.c) ∧ W.cell? ⟨Z, 6, none⟩ = some (.bool true) ∧ W.cell? ⟨Z, 7, none⟩ = some (.int .i64 tb)) ∧ (W.cell? (ad.add (j * 7)) = some (.slice m.qa m.qm m.qc) ∧ W.cell? ⟨(ad.add (j * 7)).block, (ad.add (j * 7)).off + 1, none⟩ = some (.slice m.la m.lm m.lc) ∧ W.cell? ⟨(ad.add (j * 7)).block, (ad.add (j * 7)).off + 2, none⟩ = some (.int .i64 m.k.t) ∧ W.cell? ⟨(ad.add (j * 7)).block, (ad.add (j * 7)).off + 3, none⟩ = some (.int .i64 m.k.r) ∧ W.cell? ⟨(ad.add (j * 7)).block, (ad.add (j * 7)).off + 4, none⟩ = some (.int .i64 m.k.s) ∧ W.cell? ⟨(ad.add (j * 7)).block, (ad.add (j * 7)).off + 5, none⟩ = some (.int .i64 m.k.q) ∧ W.cell? ⟨(ad.add (j * 7)).block, (ad.add (j * 7)).off + 6, none⟩ = some (.slice m.ga m.gm m.gc))) (by kernel_rfl) (by exact ⟨cells1' (block_below (below_drew1 _) hx51), cells8' (block_below (below_drew1 _) hz51), (nat_to hAt51 (below_drew1 _))⟩) (fun hHeld_ => ?_)
        refine wpAnyH_take' (i := 0) (v := ?v0_t4) 42 rfl rfl (by kernel_rfl) (by kernel_rfl) (by kernel_rfl) (fun _ _ _ h => h) (Or.inl ⟨by kernel_rfl, ?hy0_t4⟩) (by assumption) ?rest0_t4
        case hy0_t4 => (intro W_ hS_; (try dsimp only at hS_); go_simp; (try (with_reducible rfl)))
        try simp only [Act.put, siA, scZ, scS]
        refine wpAnyH_take' (i := 1) (v := ?v1_t4) 43 rfl rfl (by kernel_rfl) (by kernel_rfl) (by kernel_rfl) (fun _ _ _ h => h) (Or.inl ⟨by kernel_rfl, ?hy1_t4⟩) (by assumption) ?rest1_t4
        case hy1_t4 => (intro W_ hS_; (try dsimp only at hS_); go_simp; (try (with_reducible rfl)))
        try simp only [Act.put, siA, scZ, scS]
        refine wpAnyH_take' (i := 2) (v := ?v2_t4) 44 rfl rfl (by kernel_rfl) (by kernel_rfl) (by kernel_rfl) (fun _ _ _ h => h) (Or.inl ⟨by kernel_rfl, ?hy2_t4⟩) (by assumption) ?rest2_t4
        case hy2_t4 => (intro W_ hS_; (try dsimp only at hS_); go_simp; (try (with_reducible rfl)))
        try simp only [Act.put, siA, scZ, scS]
        refine wpAnyH_take' (i := 3) (v := ?v3_t4) 45 rfl rfl (by kernel_rfl) (by kernel_rfl) (by kernel_rfl) (fun _ _ _ h => h) (Or.inl ⟨by kernel_rfl, ?hy3_t4⟩) (by assumption) ?rest3_t4
        case hy3_t4 => (intro W_ hS_; (try dsimp only at hS_); go_simp; (try (with_reducible rfl)))
        try simp only [Act.put, siA, scZ, scS]
        refine wpAnyH_take' (i := 4) (v := ?v4_t4) 46 rfl rfl (by kernel_rfl) (by kernel_rfl) (by kernel_rfl) (fun _ _ _ h => h) (Or.inl ⟨by kernel_rfl, ?hy4_t4⟩) (by assumption) ?rest4_t4
        case hy4_t4 => (intro W_ hS_; (try dsimp only at hS_); go_simp; (try (with_reducible rfl)))
        try simp only [Act.put, siA, scZ, scS]
        refine wpAnyH_ready (rs := [5]) (by kernel_rfl) (by simp) ?_
        refine AllReadyH.cons rfl (fun K_ hK_ => ?_) AllReadyH.nil
        go_simp
        refine (along_c (NSl.to hM51 (below_drew1 _)) Hok.out (by omega) j hlt false Hal.out).mono ?_; rintro e wr5 ⟨rfl, hBr5⟩
        go_wp2_with fail
        refine hK_.out _ _ (by exact ⟨cells1' (block_below hBr5 (block_below (below_drew1 _) hx51)), cells8' (block_below hBr5 (block_below (below_drew1 _) hz51)), (nat_to (nat_to hAt51 (below_drew1 _)) hBr5)⟩) (fun hHeld_5 => ?_)
        clear hK_
        try simp only [Act.put, siA, scZ, scS]
        refine wpAnyH_take' (i := 6) (v := ?v6_t4) 48 rfl rfl (by kernel_rfl) (by kernel_rfl) (by kernel_rfl) (fun _ _ _ h => h) (Or.inl ⟨by kernel_rfl, ?hy6_t4⟩) (by assumption) ?rest6_t4
        case hy6_t4 => (intro W_ hS_; (try dsimp only at hS_); go_simp; (try (with_reducible rfl)))
        try simp only [Act.put, siA, scZ, scS]
        refine wpAnyH_take' (i := 7) (v := ?v7_t4) 49 rfl rfl (by kernel_rfl) (by kernel_rfl) (by kernel_rfl) (fun _ _ _ h => h) (Or.inl ⟨by kernel_rfl, ?hy7_t4⟩) (by assumption) ?rest7_t4
        case hy7_t4 => (intro W_ hS_; (try dsimp only at hS_); go_simp; (try (with_reducible rfl)))
        try simp only [Act.put, siA, scZ, scS]
        refine wpAnyH_take' (i := 8) (v := ?v8_t4) 50 rfl rfl (by kernel_rfl) (by kernel_rfl) (by kernel_rfl) (fun _ _ _ h => h) (Or.inl ⟨by kernel_rfl, ?hy8_t4⟩) (by assumption) ?rest8_t4
        case hy8_t4 => (intro W_ hS_; (try dsimp only at hS_); go_simp; (try (with_reducible rfl)))
        try simp only [Act.put, siA, scZ, scS]
        refine wpAnyH_take' (i := 9) (v := ?v9_t4) 51 rfl rfl (by kernel_rfl) (by kernel_rfl) (by kernel_rfl) (fun _ _ _ h => h) (Or.inl ⟨by kernel_rfl, ?hy9_t4⟩) (by assumption) ?rest9_t4
        case hy9_t4 => (intro W_ hS_; (try dsimp only at hS_); go_simp; (try (with_reducible rfl)))
        try simp only [Act.put, siA, scZ, scS]
        refine wpAnyH_take' (i := 10) (v := ?v10_t4) 52 rfl rfl (by kernel_rfl) (by kernel_rfl) (by kernel_rfl) (fun _ _ _ h => h) (Or.inl ⟨by kernel_rfl, ?hy10_t4⟩) (by assumption) ?rest10_t4
        case hy10_t4 => (intro W_ hS_; (try dsimp only at hS_); go_simp; (try (with_reducible rfl)))
        try simp only [Act.put, siA, scZ, scS]
        refine wpAnyH_take' (i := 11) (v := ?v11_t4) 53 rfl rfl (by kernel_rfl) (by kernel_rfl) (by kernel_rfl) (fun _ _ _ h => h) (Or.inl ⟨by kernel_rfl, ?hy11_t4⟩) (by assumption) ?rest11_t4
        case hy11_t4 => (intro W_ hS_; (try dsimp only at hS_); go_simp; (try (with_reducible rfl)))
        try simp only [Act.put, siA, scZ, scS]
        refine wpAnyH_take' (i := 12) (v := ?v12_t4) 54 rfl rfl (by kernel_rfl) (by kernel_rfl) (by kernel_rfl) (fun _ _ _ h => h) (Or.inl ⟨by kernel_rfl, ?hy12_t4⟩) (by assumption) ?rest12_t4
        case hy12_t4 => (intro W_ hS_; (try dsimp only at hS_); go_simp; (try (with_reducible rfl)))
        try simp only [Act.put, siA, scZ, scS]
        refine wpAnyH_take' (i := 13) (v := ?v13_t4) 55 rfl rfl (by kernel_rfl) (by kernel_rfl) (by kernel_rfl) (fun _ _ _ h => h) (Or.inl ⟨by kernel_rfl, ?hy13_t4⟩) (by assumption) ?rest13_t4
        case hy13_t4 => (intro W_ hS_; (try dsimp only at hS_); go_simp; (try (with_reducible rfl)))
        try simp only [Act.put, siA, scZ, scS]
        refine wpAnyH_take' (i := 14) (v := ?v14_t4) 56 rfl rfl (by kernel_rfl) (by kernel_rfl) (by kernel_rfl) (fun _ _ _ h => h) (Or.inl ⟨by kernel_rfl, ?hy14_t4⟩) (by assumption) ?rest14_t4
        case hy14_t4 => (intro W_ hS_; (try dsimp only at hS_); go_simp; (try (with_reducible rfl)))
        try simp only [Act.put, siA, scZ, scS]
        refine wpAnyH_take' (i := 15) (v := ?v15_t4) 57 rfl rfl (by kernel_rfl) (by kernel_rfl) (by kernel_rfl) (fun _ _ _ h => h) (Or.inl ⟨by kernel_rfl, ?hy15_t4⟩) (by assumption) ?rest15_t4
        case hy15_t4 => (intro W_ hS_; (try dsimp only at hS_); go_simp; (try (with_reducible rfl)))
        try simp only [Act.put, siA, scZ, scS]
        refine wpAnyH_take' (i := 16) (v := ?v16_t4) 58 rfl rfl (by kernel_rfl) (by kernel_rfl) (by kernel_rfl) (fun _ _ _ h => h) (Or.inl ⟨by kernel_rfl, ?hy16_t4⟩) (by assumption) ?rest16_t4
        case hy16_t4 => (intro W_ hS_; (try dsimp only at hS_); go_simp; (try (with_reducible rfl)))
        try simp only [Act.put, siA, scZ, scS]
        refine wpAnyH_take' (i := 17) (v := ?v17_t4) 59 rfl rfl (by kernel_rfl) (by kernel_rfl) (by kernel_rfl) (fun _ _ _ h => h) (Or.inl ⟨by kernel_rfl, ?hy17_t4⟩) (by assumption) ?rest17_t4
        case hy17_t4 => (intro W_ hS_; (try dsimp only at hS_); go_simp; (try (with_reducible rfl)))
        try simp only [Act.put, siA, scZ, scS]
        refine wpAnyH_take' (i := 18) (v := undef) 60 rfl rfl (by kernel_rfl) (by kernel_rfl) (by kernel_rfl) (fun _ _ _ h => h) (Or.inr ⟨by kernel_rfl, rfl⟩) (by assumption) ?_
        try simp only [Act.put, siA, scZ, scS]
        refine wpAnyH_take' (i := 19) (v := undef) 61 rfl rfl (by kernel_rfl) (by kernel_rfl) (by kernel_rfl) (fun _ _ _ h => h) (Or.inr ⟨by kernel_rfl, rfl⟩) (by assumption) ?_
        try simp only [Act.put, siA, scZ, scS]
        refine wpAnyH_take' (i := 20) (v := undef) 62 rfl rfl (by kernel_rfl) (by kernel_rfl) (by kernel_rfl) (fun _ _ _ h => h) (Or.inr ⟨by kernel_rfl, rfl⟩) (by assumption) ?_
        try simp only [Act.put, siA, scZ, scS]
        refine wpAnyH_skip (i := 21) 63 rfl rfl (by kernel_rfl) (by kernel_rfl) (by assumption) ?_
        try simp only [Act.put, siA, scZ, scS]
        refine wpAnyH_take' (i := 22) (v := undef) 64 rfl rfl (by kernel_rfl) (by kernel_rfl) (by kernel_rfl) (fun _ _ _ h => h) (Or.inr ⟨by kernel_rfl, rfl⟩) (by assumption) ?_
        try simp only [Act.put, siA, scZ, scS]
        refine wpAnyH_take' (i := 23) (v := ?v23_t4) 65 rfl rfl (by kernel_rfl) (by kernel_rfl) (by kernel_rfl) (fun _ _ _ h => h) (Or.inl ⟨by kernel_rfl, ?hy23_t4⟩) (by assumption) ?rest23_t4
        case hy23_t4 => (intro W_ hS_; (try dsimp only at hS_); go_simp; (try (with_reducible rfl)))
        try simp only [Act.put, siA, scZ, scS]
        refine wpAnyH_take' (i := 24) (v := ?v24_t4) 66 rfl rfl (by kernel_rfl) (by kernel_rfl) (by kernel_rfl) (fun _ _ _ h => h) (Or.inl ⟨by kernel_rfl, ?hy24_t4⟩) (by assumption) ?rest24_t4
        case hy24_t4 => (intro W_ hS_; (try dsimp only at hS_); go_simp; (try (with_reducible rfl)))
        try simp only [Act.put, siA, scZ, scS]
        refine wpAnyH_take' (i := 25) (v := undef) 67 rfl rfl (by kernel_rfl) (by kernel_rfl) (by kernel_rfl) (fun _ _ _ h => h) (Or.inr ⟨by kernel_rfl, rfl⟩) (by assumption) ?_
        try simp only [Act.put, siA, scZ, scS]
        refine wpAnyH_take' (i := 26) (v := undef) 68 rfl rfl (by kernel_rfl) (by kernel_rfl) (by kernel_rfl) (fun _ _ _ h => h) (Or.inr ⟨by kernel_rfl, rfl⟩) (by assumption) ?_
        try simp only [Act.put, siA, scZ, scS]
        refine wpAnyH_take' (i := 27) (v := undef) 69 rfl rfl (by kernel_rfl) (by kernel_rfl) (by kernel_rfl) (fun _ _ _ h => h) (Or.inr ⟨by kernel_rfl, rfl⟩) (by assumption) ?_
        try simp only [Act.put, siA, scZ, scS]
        refine wpAnyH_take' (i := 28) (v := undef) 70 rfl rfl (by kernel_rfl) (by kernel_rfl) (by kernel_rfl) (fun _ _ _ h => h) (Or.inr ⟨by kernel_rfl, rfl⟩) (by assumption) ?_
        try simp only [Act.put, siA, scZ, scS]
        refine wpAnyH_take' (i := 29) (v := undef) 71 rfl rfl (by kernel_rfl) (by kernel_rfl) (by kernel_rfl) (fun _ _ _ h => h) (Or.inr ⟨by kernel_rfl, rfl⟩) (by assumption) ?_
        try simp only [Act.put, siA, scZ, scS]
        refine wpAnyH_take' (i := 30) (v := undef) 72 rfl rfl (by kernel_rfl) (by kernel_rfl) (by kernel_rfl) (fun _ _ _ h => h) (Or.inr ⟨by kernel_rfl, rfl⟩) (by assumption) ?_
        try simp only [Act.put, siA, scZ, scS]
        refine wpAnyH_take' (i := 31) (v := undef) 73 rfl rfl (by kernel_rfl) (by kernel_rfl) (by kernel_rfl) (fun _ _ _ h => h) (Or.inr ⟨by kernel_rfl, rfl⟩) (by assumption) ?_
        try simp only [Act.put, siA, scZ, scS]
        refine wpAnyH_skip (i := 32) 74 rfl rfl (by kernel_rfl) (by kernel_rfl) (by assumption) ?_
        try simp only [Act.put, siA, scZ, scS]
        refine wpAnyH_take' (i := 33) (v := ?v33_t4) 75 rfl rfl (by kernel_rfl) (by kernel_rfl) (by kernel_rfl) (fun _ _ _ h => h) (Or.inl ⟨by kernel_rfl, ?hy33_t4⟩) (by assumption) ?rest33_t4
        case hy33_t4 => (intro W_ hS_; (try dsimp only at hS_); go_simp; (try (with_reducible rfl)))
        try simp only [Act.put, siA, scZ, scS]
        refine wpAnyH_done (by kernel_rfl) ?_ _
        obtain ⟨w52, hw52⟩ : ∃ w52, wr5 = w52 := ⟨_, rfl⟩
        have hB52 : Below w51.heap.size w51 w52 := by rw [← hw52]; exact (below_then (below_drew1 _) hBr5)
        rw [hw52]
        clear hw52  hBr5
        have hT52 := below_then hT51 hB52
        have hZ52 := below_then hZ51 hB52
        clear hZ51
        have hx52 := block_below hB52 hx51
        have hz52 := block_below hB52 hz51
        have hM52 := NSl.to hM51 hB52
        have hu52 := NSl.to hu51 hB52
        have hY52 := HIs.to hY51 hB52
        have ht52 := TIs.to ht51 hB52
        have hAt52 := nat_to hAt51 hB52
        have hV52 := NIs.to hV51 hB52
        have hAx52 := nat_to hAx51 hB52
        have hVx52 := NIs.to hVx51 hB52
        have hS52 := FsIs.to hS51 hB52
        have hO52 := FOwn9.to hO51 hB52
        clear hT51 hx51 hz51 hM51 hu51 hY51 ht51 hAt51 hV51 hAx51 hVx51 hS51 hO51 hB52
        have hgv2 : gotV Ms K j = false := by rw [hgv.out]; rw [Hs.out]; simp
        have Hge := Lib.hid (show (nd Ns2 j).g = N.g by rw [hgot.out, hgv2]; rfl)
        clear hgv2
        have t_ := hAx52
        obtain ⟨t0, t1, t2, t3, t4, t5, t6⟩ := t_
        go_wp2_with fail
        clear t0 t1 t2 t3 t4 t5 t6
        refine (sameAll_c hVx52.g (FSl.own (P := fun _ => True) hO52 hS52 (by omega) (fun _ _ => trivial)) true (by rw [Hge.out]; unfold sameFs; simp)).mono ?_
        rintro e w53 ⟨rfl, hB53⟩
        have hT53 := below_then hT52 hB53
        have hZ53 := below_then hZ52 hB53
        clear hZ52
        have hx53 := block_below hB53 hx52
        have hz53 := block_below hB53 hz52
        have hM53 := NSl.to hM52 hB53
        have hu53 := NSl.to hu52 hB53
        have hY53 := HIs.to hY52 hB53
        have ht53 := TIs.to ht52 hB53
        have hAt53 := nat_to hAt52 hB53
        have hV53 := NIs.to hV52 hB53
        have hAx53 := nat_to hAx52 hB53
        have hVx53 := NIs.to hVx52 hB53
        have hS53 := FsIs.to hS52 hB53
        have hO53 := FOwn9.to hO52 hB53
        clear hT52 hx52 hz52 hM52 hu52 hY52 ht52 hAt52 hV52 hAx52 hVx52 hS52 hO52 hB53
        go_wp2_with fail
        go_round
        case measure => simp [intOf]; omega
        exact ⟨j + 1, by omega, by go_num, hx53, hz53, hM53, hu53, hY53, ht53, hT53⟩
      have d1 : (m.k.s != 3) = true := by simpa [bne] using hs
      have Hs := Lib.hid (show ¬ N.k.s = 3 by rw [← hks]; exact hs)
      clear hs hks
      obtain ⟨qi, hqi⟩ : ∃ q, inH K j = q := ⟨_, rfl⟩
      have Hqi := Lib.hid hqi
      clear hqi
      cases qi
      rotate_left
      · skip
        refine wp_region_held_drew (S := fun W => (W.cell? ⟨w.heap.size, 0, none⟩ = some (.slice y.a y.m y.c)) ∧ (W.cell? ⟨Z, 0, none⟩ = some (.int .i64 tw) ∧ W.cell? ⟨Z, 1, none⟩ = some (.bool tf.x) ∧ W.cell? ⟨Z, 2, none⟩ = some (.int .i64 tf.i) ∧ W.cell? ⟨Z, 3, none⟩ = some (.bool tf.r) ∧ W.cell? ⟨Z, 4, none⟩ = some (.int .i64 tf.n) ∧ W.cell? ⟨Z, 5, none⟩ = some (.slice tf.a tf.m tf.c) ∧ W.cell? ⟨Z, 6, none⟩ = some (.bool true) ∧ W.cell? ⟨Z, 7, none⟩ = some (.int .i64 tb)) ∧ (W.cell? (ad.add (j * 7)) = some (.slice m.qa m.qm m.qc) ∧ W.cell? ⟨(ad.add (j * 7)).block, (ad.add (j * 7)).off + 1, none⟩ = some (.slice m.la m.lm m.lc) ∧ W.cell? ⟨(ad.add (j * 7)).block, (ad.add (j * 7)).off + 2, none⟩ = some (.int .i64 m.k.t) ∧ W.cell? ⟨(ad.add (j * 7)).block, (ad.add (j * 7)).off + 3, none⟩ = some (.int .i64 m.k.r) ∧ W.cell? ⟨(ad.add (j * 7)).block, (ad.add (j * 7)).off + 4, none⟩ = some (.int .i64 m.k.s) ∧ W.cell? ⟨(ad.add (j * 7)).block, (ad.add (j * 7)).off + 5, none⟩ = some (.int .i64 m.k.q) ∧ W.cell? ⟨(ad.add (j * 7)).block, (ad.add (j * 7)).off + 6, none⟩ = some (.slice m.ga m.gm m.gc))) (by kernel_rfl) (by exact ⟨cells1' (block_below (below_drew1 _) hx51), cells8' (block_below (below_drew1 _) hz51), (nat_to hAt51 (below_drew1 _))⟩) (fun hHeld_ => ?_)
        refine wpAnyH_take' (i := 0) (v := ?v0_t5) 42 rfl rfl (by kernel_rfl) (by kernel_rfl) (by kernel_rfl) (fun _ _ _ h => h) (Or.inl ⟨by kernel_rfl, ?hy0_t5⟩) (by assumption) ?rest0_t5
        case hy0_t5 => (intro W_ hS_; (try dsimp only at hS_); go_simp; (try (with_reducible rfl)))
        try simp only [Act.put, siA, scZ, scS]
        refine wpAnyH_take' (i := 1) (v := ?v1_t5) 43 rfl rfl (by kernel_rfl) (by kernel_rfl) (by kernel_rfl) (fun _ _ _ h => h) (Or.inl ⟨by kernel_rfl, ?hy1_t5⟩) (by assumption) ?rest1_t5
        case hy1_t5 => (intro W_ hS_; (try dsimp only at hS_); go_simp; (try (with_reducible rfl)))
        try simp only [Act.put, siA, scZ, scS]
        refine wpAnyH_take' (i := 2) (v := ?v2_t5) 44 rfl rfl (by kernel_rfl) (by kernel_rfl) (by kernel_rfl) (fun _ _ _ h => h) (Or.inl ⟨by kernel_rfl, ?hy2_t5⟩) (by assumption) ?rest2_t5
        case hy2_t5 => (intro W_ hS_; (try dsimp only at hS_); go_simp; (try (with_reducible rfl)))
        try simp only [Act.put, siA, scZ, scS]
        refine wpAnyH_take' (i := 3) (v := ?v3_t5) 45 rfl rfl (by kernel_rfl) (by kernel_rfl) (by kernel_rfl) (fun _ _ _ h => h) (Or.inl ⟨by kernel_rfl, ?hy3_t5⟩) (by assumption) ?rest3_t5
        case hy3_t5 => (intro W_ hS_; (try dsimp only at hS_); go_simp; (try (with_reducible rfl)))
        try simp only [Act.put, siA, scZ, scS]
        refine wpAnyH_take' (i := 4) (v := ?v4_t5) 46 rfl rfl (by kernel_rfl) (by kernel_rfl) (by kernel_rfl) (fun _ _ _ h => h) (Or.inl ⟨by kernel_rfl, ?hy4_t5⟩) (by assumption) ?rest4_t5
        case hy4_t5 => (intro W_ hS_; (try dsimp only at hS_); go_simp; (try (with_reducible rfl)))
        try simp only [Act.put, siA, scZ, scS]
        refine wpAnyH_ready (rs := [5]) (by kernel_rfl) (by simp) ?_
        refine AllReadyH.cons rfl (fun K_ hK_ => ?_) AllReadyH.nil
        go_simp
        refine (along_c (NSl.to hM51 (below_drew1 _)) Hok.out (by omega) j hlt false Hal.out).mono ?_; rintro e wr5 ⟨rfl, hBr5⟩
        go_wp2_with fail
        refine hK_.out _ _ (by exact ⟨cells1' (block_below hBr5 (block_below (below_drew1 _) hx51)), cells8' (block_below hBr5 (block_below (below_drew1 _) hz51)), (nat_to (nat_to hAt51 (below_drew1 _)) hBr5)⟩) (fun hHeld_5 => ?_)
        clear hK_
        try simp only [Act.put, siA, scZ, scS]
        refine wpAnyH_take' (i := 6) (v := ?v6_t5) 48 rfl rfl (by kernel_rfl) (by kernel_rfl) (by kernel_rfl) (fun _ _ _ h => h) (Or.inl ⟨by kernel_rfl, ?hy6_t5⟩) (by assumption) ?rest6_t5
        case hy6_t5 => (intro W_ hS_; (try dsimp only at hS_); go_simp; (try (with_reducible rfl)))
        try simp only [Act.put, siA, scZ, scS]
        refine wpAnyH_take' (i := 7) (v := ?v7_t5) 49 rfl rfl (by kernel_rfl) (by kernel_rfl) (by kernel_rfl) (fun _ _ _ h => h) (Or.inl ⟨by kernel_rfl, ?hy7_t5⟩) (by assumption) ?rest7_t5
        case hy7_t5 => (intro W_ hS_; (try dsimp only at hS_); go_simp; (try (with_reducible rfl)))
        try simp only [Act.put, siA, scZ, scS]
        refine wpAnyH_take' (i := 8) (v := ?v8_t5) 50 rfl rfl (by kernel_rfl) (by kernel_rfl) (by kernel_rfl) (fun _ _ _ h => h) (Or.inl ⟨by kernel_rfl, ?hy8_t5⟩) (by assumption) ?rest8_t5
        case hy8_t5 => (intro W_ hS_; (try dsimp only at hS_); go_simp; (try (with_reducible rfl)))
        try simp only [Act.put, siA, scZ, scS]
        refine wpAnyH_take' (i := 9) (v := ?v9_t5) 51 rfl rfl (by kernel_rfl) (by kernel_rfl) (by kernel_rfl) (fun _ _ _ h => h) (Or.inl ⟨by kernel_rfl, ?hy9_t5⟩) (by assumption) ?rest9_t5
        case hy9_t5 => (intro W_ hS_; (try dsimp only at hS_); go_simp; (try (with_reducible rfl)))
        try simp only [Act.put, siA, scZ, scS]
        refine wpAnyH_take' (i := 10) (v := ?v10_t5) 52 rfl rfl (by kernel_rfl) (by kernel_rfl) (by kernel_rfl) (fun _ _ _ h => h) (Or.inl ⟨by kernel_rfl, ?hy10_t5⟩) (by assumption) ?rest10_t5
        case hy10_t5 => (intro W_ hS_; (try dsimp only at hS_); go_simp; (try (with_reducible rfl)))
        try simp only [Act.put, siA, scZ, scS]
        refine wpAnyH_take' (i := 11) (v := ?v11_t5) 53 rfl rfl (by kernel_rfl) (by kernel_rfl) (by kernel_rfl) (fun _ _ _ h => h) (Or.inl ⟨by kernel_rfl, ?hy11_t5⟩) (by assumption) ?rest11_t5
        case hy11_t5 => (intro W_ hS_; (try dsimp only at hS_); go_simp; (try (with_reducible rfl)))
        try simp only [Act.put, siA, scZ, scS]
        refine wpAnyH_take' (i := 12) (v := ?v12_t5) 54 rfl rfl (by kernel_rfl) (by kernel_rfl) (by kernel_rfl) (fun _ _ _ h => h) (Or.inl ⟨by kernel_rfl, ?hy12_t5⟩) (by assumption) ?rest12_t5
        case hy12_t5 => (intro W_ hS_; (try dsimp only at hS_); go_simp; (try (with_reducible rfl)))
        try simp only [Act.put, siA, scZ, scS]
        refine wpAnyH_take' (i := 13) (v := ?v13_t5) 55 rfl rfl (by kernel_rfl) (by kernel_rfl) (by kernel_rfl) (fun _ _ _ h => h) (Or.inl ⟨by kernel_rfl, ?hy13_t5⟩) (by assumption) ?rest13_t5
        case hy13_t5 => (intro W_ hS_; (try dsimp only at hS_); go_simp; (try (with_reducible rfl)))
        try simp only [Act.put, siA, scZ, scS]
        refine wpAnyH_take' (i := 14) (v := ?v14_t5) 56 rfl rfl (by kernel_rfl) (by kernel_rfl) (by kernel_rfl) (fun _ _ _ h => h) (Or.inl ⟨by kernel_rfl, ?hy14_t5⟩) (by assumption) ?rest14_t5
        case hy14_t5 => (intro W_ hS_; (try dsimp only at hS_); go_simp; (try (with_reducible rfl)))
        try simp only [Act.put, siA, scZ, scS]
        refine wpAnyH_take' (i := 15) (v := ?v15_t5) 57 rfl rfl (by kernel_rfl) (by kernel_rfl) (by kernel_rfl) (fun _ _ _ h => h) (Or.inl ⟨by kernel_rfl, ?hy15_t5⟩) (by assumption) ?rest15_t5
        case hy15_t5 => (intro W_ hS_; (try dsimp only at hS_); go_simp; (try (with_reducible rfl)))
        try simp only [Act.put, siA, scZ, scS]
        refine wpAnyH_take' (i := 16) (v := ?v16_t5) 58 rfl rfl (by kernel_rfl) (by kernel_rfl) (by kernel_rfl) (fun _ _ _ h => h) (Or.inl ⟨by kernel_rfl, ?hy16_t5⟩) (by assumption) ?rest16_t5
        case hy16_t5 => (intro W_ hS_; (try dsimp only at hS_); go_simp; (try (with_reducible rfl)))
        try simp only [Act.put, siA, scZ, scS]
        refine wpAnyH_take' (i := 17) (v := ?v17_t5) 59 rfl rfl (by kernel_rfl) (by kernel_rfl) (by kernel_rfl) (fun _ _ _ h => h) (Or.inl ⟨by kernel_rfl, ?hy17_t5⟩) (by assumption) ?rest17_t5
        case hy17_t5 => (intro W_ hS_; (try dsimp only at hS_); go_simp; (try (with_reducible rfl)))
        try simp only [Act.put, siA, scZ, scS]
        refine wpAnyH_take' (i := 18) (v := ?v18_t5) 60 rfl rfl (by kernel_rfl) (by kernel_rfl) (by kernel_rfl) (fun _ _ _ h => h) (Or.inl ⟨by kernel_rfl, ?hy18_t5⟩) (by assumption) ?rest18_t5
        case hy18_t5 => (intro W_ hS_; (try dsimp only at hS_); go_simp; (try (with_reducible rfl)))
        try simp only [Act.put, siA, scZ, scS]
        refine wpAnyH_take' (i := 19) (v := ?v19_t5) 61 rfl rfl (by kernel_rfl) (by kernel_rfl) (by kernel_rfl) (fun _ _ _ h => h) (Or.inl ⟨by kernel_rfl, ?hy19_t5⟩) (by assumption) ?rest19_t5
        case hy19_t5 => (intro W_ hS_; (try dsimp only at hS_); go_simp; (try (with_reducible rfl)))
        try simp only [Act.put, siA, scZ, scS]
        refine wpAnyH_take' (i := 20) (v := ?v20_t5) 62 rfl rfl (by kernel_rfl) (by kernel_rfl) (by kernel_rfl) (fun _ _ _ h => h) (Or.inl ⟨by kernel_rfl, ?hy20_t5⟩) (by assumption) ?rest20_t5
        case hy20_t5 => (intro W_ hS_; (try dsimp only at hS_); go_simp; (try (with_reducible rfl)))
        try simp only [Act.put, siA, scZ, scS]
        refine wpAnyH_ready (rs := [21]) (by kernel_rfl) (by simp) ?_
        refine AllReadyH.cons rfl (fun K_ hK_ => ?_) AllReadyH.nil
        go_simp
        refine (in10_c (HIs.to (HIs.to hY51 (below_drew1 _)) hBr5).row (HIs.len (HIs.to (HIs.to hY51 (below_drew1 _)) hBr5)) (by rw [← HIs.len (HIs.to (HIs.to hY51 (below_drew1 _)) hBr5)]; omega) (j : Int) true Hqi.out).mono ?_; rintro e wr21 ⟨rfl, hBr21⟩
        go_wp2_with fail
        refine hK_.out _ _ (by exact ⟨cells1' (block_below hBr21 (block_below hBr5 (block_below (below_drew1 _) hx51))), cells8' (block_below hBr21 (block_below hBr5 (block_below (below_drew1 _) hz51))), (nat_to (nat_to (nat_to hAt51 (below_drew1 _)) hBr5) hBr21)⟩) (fun hHeld_21 => ?_)
        clear hK_
        try simp only [Act.put, siA, scZ, scS]
        refine wpAnyH_take' (i := 22) (v := ?v22_t5) 64 rfl rfl (by kernel_rfl) (by kernel_rfl) (by kernel_rfl) (fun _ _ _ h => h) (Or.inl ⟨by kernel_rfl, ?hy22_t5⟩) (by assumption) ?rest22_t5
        case hy22_t5 => (intro W_ hS_; (try dsimp only at hS_); go_simp; (try (with_reducible rfl)))
        try simp only [Act.put, siA, scZ, scS]
        refine wpAnyH_take' (i := 23) (v := ?v23_t5) 65 rfl rfl (by kernel_rfl) (by kernel_rfl) (by kernel_rfl) (fun _ _ _ h => h) (Or.inl ⟨by kernel_rfl, ?hy23_t5⟩) (by assumption) ?rest23_t5
        case hy23_t5 => (intro W_ hS_; (try dsimp only at hS_); go_simp; (try (with_reducible rfl)))
        try simp only [Act.put, siA, scZ, scS]
        refine wpAnyH_take' (i := 24) (v := ?v24_t5) 66 rfl rfl (by kernel_rfl) (by kernel_rfl) (by kernel_rfl) (fun _ _ _ h => h) (Or.inl ⟨by kernel_rfl, ?hy24_t5⟩) (by assumption) ?rest24_t5
        case hy24_t5 => (intro W_ hS_; (try dsimp only at hS_); go_simp; (try (with_reducible rfl)))
        try simp only [Act.put, siA, scZ, scS]
        refine wpAnyH_take' (i := 25) (v := undef) 67 rfl rfl (by kernel_rfl) (by kernel_rfl) (by kernel_rfl) (fun _ _ _ h => h) (Or.inr ⟨by kernel_rfl, rfl⟩) (by assumption) ?_
        try simp only [Act.put, siA, scZ, scS]
        refine wpAnyH_take' (i := 26) (v := undef) 68 rfl rfl (by kernel_rfl) (by kernel_rfl) (by kernel_rfl) (fun _ _ _ h => h) (Or.inr ⟨by kernel_rfl, rfl⟩) (by assumption) ?_
        try simp only [Act.put, siA, scZ, scS]
        refine wpAnyH_take' (i := 27) (v := undef) 69 rfl rfl (by kernel_rfl) (by kernel_rfl) (by kernel_rfl) (fun _ _ _ h => h) (Or.inr ⟨by kernel_rfl, rfl⟩) (by assumption) ?_
        try simp only [Act.put, siA, scZ, scS]
        refine wpAnyH_take' (i := 28) (v := undef) 70 rfl rfl (by kernel_rfl) (by kernel_rfl) (by kernel_rfl) (fun _ _ _ h => h) (Or.inr ⟨by kernel_rfl, rfl⟩) (by assumption) ?_
        try simp only [Act.put, siA, scZ, scS]
        refine wpAnyH_take' (i := 29) (v := undef) 71 rfl rfl (by kernel_rfl) (by kernel_rfl) (by kernel_rfl) (fun _ _ _ h => h) (Or.inr ⟨by kernel_rfl, rfl⟩) (by assumption) ?_
        try simp only [Act.put, siA, scZ, scS]
        refine wpAnyH_take' (i := 30) (v := undef) 72 rfl rfl (by kernel_rfl) (by kernel_rfl) (by kernel_rfl) (fun _ _ _ h => h) (Or.inr ⟨by kernel_rfl, rfl⟩) (by assumption) ?_
        try simp only [Act.put, siA, scZ, scS]
        refine wpAnyH_take' (i := 31) (v := undef) 73 rfl rfl (by kernel_rfl) (by kernel_rfl) (by kernel_rfl) (fun _ _ _ h => h) (Or.inr ⟨by kernel_rfl, rfl⟩) (by assumption) ?_
        try simp only [Act.put, siA, scZ, scS]
        refine wpAnyH_skip (i := 32) 74 rfl rfl (by kernel_rfl) (by kernel_rfl) (by assumption) ?_
        try simp only [Act.put, siA, scZ, scS]
        refine wpAnyH_take' (i := 33) (v := ?v33_t5) 75 rfl rfl (by kernel_rfl) (by kernel_rfl) (by kernel_rfl) (fun _ _ _ h => h) (Or.inl ⟨by kernel_rfl, ?hy33_t5⟩) (by assumption) ?rest33_t5
        case hy33_t5 => (intro W_ hS_; (try dsimp only at hS_); go_simp; (try (with_reducible rfl)))
        try simp only [Act.put, siA, scZ, scS]
        refine wpAnyH_done (by kernel_rfl) ?_ _
        obtain ⟨w52, hw52⟩ : ∃ w52, wr21 = w52 := ⟨_, rfl⟩
        have hB52 : Below w51.heap.size w51 w52 := by rw [← hw52]; exact (below_then (below_then (below_drew1 _) hBr5) hBr21)
        rw [hw52]
        clear hw52  hBr5 hBr21
        have hT52 := below_then hT51 hB52
        have hZ52 := below_then hZ51 hB52
        clear hZ51
        have hx52 := block_below hB52 hx51
        have hz52 := block_below hB52 hz51
        have hM52 := NSl.to hM51 hB52
        have hu52 := NSl.to hu51 hB52
        have hY52 := HIs.to hY51 hB52
        have ht52 := TIs.to ht51 hB52
        have hAt52 := nat_to hAt51 hB52
        have hV52 := NIs.to hV51 hB52
        have hAx52 := nat_to hAx51 hB52
        have hVx52 := NIs.to hVx51 hB52
        have hS52 := FsIs.to hS51 hB52
        have hO52 := FOwn9.to hO51 hB52
        clear hT51 hx51 hz51 hM51 hu51 hY51 ht51 hAt51 hV51 hAx51 hVx51 hS51 hO51 hB52
        have hgv2 : gotV Ms K j = false := by rw [hgv.out]; rw [Hqi.out]; simp
        have Hge := Lib.hid (show (nd Ns2 j).g = N.g by rw [hgot.out, hgv2]; rfl)
        clear hgv2
        have t_ := hAx52
        obtain ⟨t0, t1, t2, t3, t4, t5, t6⟩ := t_
        go_wp2_with fail
        clear t0 t1 t2 t3 t4 t5 t6
        refine (sameAll_c hVx52.g (FSl.own (P := fun _ => True) hO52 hS52 (by omega) (fun _ _ => trivial)) true (by rw [Hge.out]; unfold sameFs; simp)).mono ?_
        rintro e w53 ⟨rfl, hB53⟩
        have hT53 := below_then hT52 hB53
        have hZ53 := below_then hZ52 hB53
        clear hZ52
        have hx53 := block_below hB53 hx52
        have hz53 := block_below hB53 hz52
        have hM53 := NSl.to hM52 hB53
        have hu53 := NSl.to hu52 hB53
        have hY53 := HIs.to hY52 hB53
        have ht53 := TIs.to ht52 hB53
        have hAt53 := nat_to hAt52 hB53
        have hV53 := NIs.to hV52 hB53
        have hAx53 := nat_to hAx52 hB53
        have hVx53 := NIs.to hVx52 hB53
        have hS53 := FsIs.to hS52 hB53
        have hO53 := FOwn9.to hO52 hB53
        clear hT52 hx52 hz52 hM52 hu52 hY52 ht52 hAt52 hV52 hAx52 hVx52 hS52 hO52 hB53
        go_wp2_with fail
        go_round
        case measure => simp [intOf]; omega
        exact ⟨j + 1, by omega, by go_num, hx53, hz53, hM53, hu53, hY53, ht53, hT53⟩
      obtain ⟨qa, hqa⟩ : ∃ q, anyV N.l T1.f.x T1.f.i = q := ⟨_, rfl⟩
      have Hqa := Lib.hid hqa
      clear hqa
      have HokN := Lib.hid (show OkN N by rw [← HN.out]; exact Hok.out.at_ (by rw [Hml.out]; exact hlt))
      cases qa
      · skip
        refine wp_region_held_drew (S := fun W => (W.cell? ⟨w.heap.size, 0, none⟩ = some (.slice y.a y.m y.c)) ∧ (W.cell? ⟨Z, 0, none⟩ = some (.int .i64 tw) ∧ W.cell? ⟨Z, 1, none⟩ = some (.bool tf.x) ∧ W.cell? ⟨Z, 2, none⟩ = some (.int .i64 tf.i) ∧ W.cell? ⟨Z, 3, none⟩ = some (.bool tf.r) ∧ W.cell? ⟨Z, 4, none⟩ = some (.int .i64 tf.n) ∧ W.cell? ⟨Z, 5, none⟩ = some (.slice tf.a tf.m tf.c) ∧ W.cell? ⟨Z, 6, none⟩ = some (.bool true) ∧ W.cell? ⟨Z, 7, none⟩ = some (.int .i64 tb)) ∧ (W.cell? (ad.add (j * 7)) = some (.slice m.qa m.qm m.qc) ∧ W.cell? ⟨(ad.add (j * 7)).block, (ad.add (j * 7)).off + 1, none⟩ = some (.slice m.la m.lm m.lc) ∧ W.cell? ⟨(ad.add (j * 7)).block, (ad.add (j * 7)).off + 2, none⟩ = some (.int .i64 m.k.t) ∧ W.cell? ⟨(ad.add (j * 7)).block, (ad.add (j * 7)).off + 3, none⟩ = some (.int .i64 m.k.r) ∧ W.cell? ⟨(ad.add (j * 7)).block, (ad.add (j * 7)).off + 4, none⟩ = some (.int .i64 m.k.s) ∧ W.cell? ⟨(ad.add (j * 7)).block, (ad.add (j * 7)).off + 5, none⟩ = some (.int .i64 m.k.q) ∧ W.cell? ⟨(ad.add (j * 7)).block, (ad.add (j * 7)).off + 6, none⟩ = some (.slice m.ga m.gm m.gc))) (by kernel_rfl) (by exact ⟨cells1' (block_below (below_drew1 _) hx51), cells8' (block_below (below_drew1 _) hz51), (nat_to hAt51 (below_drew1 _))⟩) (fun hHeld_ => ?_)
        refine wpAnyH_take' (i := 0) (v := ?v0_t6) 42 rfl rfl (by kernel_rfl) (by kernel_rfl) (by kernel_rfl) (fun _ _ _ h => h) (Or.inl ⟨by kernel_rfl, ?hy0_t6⟩) (by assumption) ?rest0_t6
        case hy0_t6 => (intro W_ hS_; (try dsimp only at hS_); go_simp; (try (with_reducible rfl)))
        try simp only [Act.put, siA, scZ, scS]
        refine wpAnyH_take' (i := 1) (v := ?v1_t6) 43 rfl rfl (by kernel_rfl) (by kernel_rfl) (by kernel_rfl) (fun _ _ _ h => h) (Or.inl ⟨by kernel_rfl, ?hy1_t6⟩) (by assumption) ?rest1_t6
        case hy1_t6 => (intro W_ hS_; (try dsimp only at hS_); go_simp; (try (with_reducible rfl)))
        try simp only [Act.put, siA, scZ, scS]
        refine wpAnyH_take' (i := 2) (v := ?v2_t6) 44 rfl rfl (by kernel_rfl) (by kernel_rfl) (by kernel_rfl) (fun _ _ _ h => h) (Or.inl ⟨by kernel_rfl, ?hy2_t6⟩) (by assumption) ?rest2_t6
        case hy2_t6 => (intro W_ hS_; (try dsimp only at hS_); go_simp; (try (with_reducible rfl)))
        try simp only [Act.put, siA, scZ, scS]
        refine wpAnyH_take' (i := 3) (v := ?v3_t6) 45 rfl rfl (by kernel_rfl) (by kernel_rfl) (by kernel_rfl) (fun _ _ _ h => h) (Or.inl ⟨by kernel_rfl, ?hy3_t6⟩) (by assumption) ?rest3_t6
        case hy3_t6 => (intro W_ hS_; (try dsimp only at hS_); go_simp; (try (with_reducible rfl)))
        try simp only [Act.put, siA, scZ, scS]
        refine wpAnyH_take' (i := 4) (v := ?v4_t6) 46 rfl rfl (by kernel_rfl) (by kernel_rfl) (by kernel_rfl) (fun _ _ _ h => h) (Or.inl ⟨by kernel_rfl, ?hy4_t6⟩) (by assumption) ?rest4_t6
        case hy4_t6 => (intro W_ hS_; (try dsimp only at hS_); go_simp; (try (with_reducible rfl)))
        try simp only [Act.put, siA, scZ, scS]
        refine wpAnyH_ready (rs := [5]) (by kernel_rfl) (by simp) ?_
        refine AllReadyH.cons rfl (fun K_ hK_ => ?_) AllReadyH.nil
        go_simp
        refine (along_c (NSl.to hM51 (below_drew1 _)) Hok.out (by omega) j hlt false Hal.out).mono ?_; rintro e wr5 ⟨rfl, hBr5⟩
        go_wp2_with fail
        refine hK_.out _ _ (by exact ⟨cells1' (block_below hBr5 (block_below (below_drew1 _) hx51)), cells8' (block_below hBr5 (block_below (below_drew1 _) hz51)), (nat_to (nat_to hAt51 (below_drew1 _)) hBr5)⟩) (fun hHeld_5 => ?_)
        clear hK_
        try simp only [Act.put, siA, scZ, scS]
        refine wpAnyH_take' (i := 6) (v := ?v6_t6) 48 rfl rfl (by kernel_rfl) (by kernel_rfl) (by kernel_rfl) (fun _ _ _ h => h) (Or.inl ⟨by kernel_rfl, ?hy6_t6⟩) (by assumption) ?rest6_t6
        case hy6_t6 => (intro W_ hS_; (try dsimp only at hS_); go_simp; (try (with_reducible rfl)))
        try simp only [Act.put, siA, scZ, scS]
        refine wpAnyH_take' (i := 7) (v := ?v7_t6) 49 rfl rfl (by kernel_rfl) (by kernel_rfl) (by kernel_rfl) (fun _ _ _ h => h) (Or.inl ⟨by kernel_rfl, ?hy7_t6⟩) (by assumption) ?rest7_t6
        case hy7_t6 => (intro W_ hS_; (try dsimp only at hS_); go_simp; (try (with_reducible rfl)))
        try simp only [Act.put, siA, scZ, scS]
        refine wpAnyH_take' (i := 8) (v := ?v8_t6) 50 rfl rfl (by kernel_rfl) (by kernel_rfl) (by kernel_rfl) (fun _ _ _ h => h) (Or.inl ⟨by kernel_rfl, ?hy8_t6⟩) (by assumption) ?rest8_t6
        case hy8_t6 => (intro W_ hS_; (try dsimp only at hS_); go_simp; (try (with_reducible rfl)))
        try simp only [Act.put, siA, scZ, scS]
        refine wpAnyH_take' (i := 9) (v := ?v9_t6) 51 rfl rfl (by kernel_rfl) (by kernel_rfl) (by kernel_rfl) (fun _ _ _ h => h) (Or.inl ⟨by kernel_rfl, ?hy9_t6⟩) (by assumption) ?rest9_t6
        case hy9_t6 => (intro W_ hS_; (try dsimp only at hS_); go_simp; (try (with_reducible rfl)))
        try simp only [Act.put, siA, scZ, scS]
        refine wpAnyH_take' (i := 10) (v := ?v10_t6) 52 rfl rfl (by kernel_rfl) (by kernel_rfl) (by kernel_rfl) (fun _ _ _ h => h) (Or.inl ⟨by kernel_rfl, ?hy10_t6⟩) (by assumption) ?rest10_t6
        case hy10_t6 => (intro W_ hS_; (try dsimp only at hS_); go_simp; (try (with_reducible rfl)))
        try simp only [Act.put, siA, scZ, scS]
        refine wpAnyH_take' (i := 11) (v := ?v11_t6) 53 rfl rfl (by kernel_rfl) (by kernel_rfl) (by kernel_rfl) (fun _ _ _ h => h) (Or.inl ⟨by kernel_rfl, ?hy11_t6⟩) (by assumption) ?rest11_t6
        case hy11_t6 => (intro W_ hS_; (try dsimp only at hS_); go_simp; (try (with_reducible rfl)))
        try simp only [Act.put, siA, scZ, scS]
        refine wpAnyH_take' (i := 12) (v := ?v12_t6) 54 rfl rfl (by kernel_rfl) (by kernel_rfl) (by kernel_rfl) (fun _ _ _ h => h) (Or.inl ⟨by kernel_rfl, ?hy12_t6⟩) (by assumption) ?rest12_t6
        case hy12_t6 => (intro W_ hS_; (try dsimp only at hS_); go_simp; (try (with_reducible rfl)))
        try simp only [Act.put, siA, scZ, scS]
        refine wpAnyH_take' (i := 13) (v := ?v13_t6) 55 rfl rfl (by kernel_rfl) (by kernel_rfl) (by kernel_rfl) (fun _ _ _ h => h) (Or.inl ⟨by kernel_rfl, ?hy13_t6⟩) (by assumption) ?rest13_t6
        case hy13_t6 => (intro W_ hS_; (try dsimp only at hS_); go_simp; (try (with_reducible rfl)))
        try simp only [Act.put, siA, scZ, scS]
        refine wpAnyH_take' (i := 14) (v := ?v14_t6) 56 rfl rfl (by kernel_rfl) (by kernel_rfl) (by kernel_rfl) (fun _ _ _ h => h) (Or.inl ⟨by kernel_rfl, ?hy14_t6⟩) (by assumption) ?rest14_t6
        case hy14_t6 => (intro W_ hS_; (try dsimp only at hS_); go_simp; (try (with_reducible rfl)))
        try simp only [Act.put, siA, scZ, scS]
        refine wpAnyH_take' (i := 15) (v := ?v15_t6) 57 rfl rfl (by kernel_rfl) (by kernel_rfl) (by kernel_rfl) (fun _ _ _ h => h) (Or.inl ⟨by kernel_rfl, ?hy15_t6⟩) (by assumption) ?rest15_t6
        case hy15_t6 => (intro W_ hS_; (try dsimp only at hS_); go_simp; (try (with_reducible rfl)))
        try simp only [Act.put, siA, scZ, scS]
        refine wpAnyH_take' (i := 16) (v := ?v16_t6) 58 rfl rfl (by kernel_rfl) (by kernel_rfl) (by kernel_rfl) (fun _ _ _ h => h) (Or.inl ⟨by kernel_rfl, ?hy16_t6⟩) (by assumption) ?rest16_t6
        case hy16_t6 => (intro W_ hS_; (try dsimp only at hS_); go_simp; (try (with_reducible rfl)))
        try simp only [Act.put, siA, scZ, scS]
        refine wpAnyH_take' (i := 17) (v := ?v17_t6) 59 rfl rfl (by kernel_rfl) (by kernel_rfl) (by kernel_rfl) (fun _ _ _ h => h) (Or.inl ⟨by kernel_rfl, ?hy17_t6⟩) (by assumption) ?rest17_t6
        case hy17_t6 => (intro W_ hS_; (try dsimp only at hS_); go_simp; (try (with_reducible rfl)))
        try simp only [Act.put, siA, scZ, scS]
        refine wpAnyH_take' (i := 18) (v := ?v18_t6) 60 rfl rfl (by kernel_rfl) (by kernel_rfl) (by kernel_rfl) (fun _ _ _ h => h) (Or.inl ⟨by kernel_rfl, ?hy18_t6⟩) (by assumption) ?rest18_t6
        case hy18_t6 => (intro W_ hS_; (try dsimp only at hS_); go_simp; (try (with_reducible rfl)))
        try simp only [Act.put, siA, scZ, scS]
        refine wpAnyH_take' (i := 19) (v := ?v19_t6) 61 rfl rfl (by kernel_rfl) (by kernel_rfl) (by kernel_rfl) (fun _ _ _ h => h) (Or.inl ⟨by kernel_rfl, ?hy19_t6⟩) (by assumption) ?rest19_t6
        case hy19_t6 => (intro W_ hS_; (try dsimp only at hS_); go_simp; (try (with_reducible rfl)))
        try simp only [Act.put, siA, scZ, scS]
        refine wpAnyH_take' (i := 20) (v := ?v20_t6) 62 rfl rfl (by kernel_rfl) (by kernel_rfl) (by kernel_rfl) (fun _ _ _ h => h) (Or.inl ⟨by kernel_rfl, ?hy20_t6⟩) (by assumption) ?rest20_t6
        case hy20_t6 => (intro W_ hS_; (try dsimp only at hS_); go_simp; (try (with_reducible rfl)))
        try simp only [Act.put, siA, scZ, scS]
        refine wpAnyH_ready (rs := [21]) (by kernel_rfl) (by simp) ?_
        refine AllReadyH.cons rfl (fun K_ hK_ => ?_) AllReadyH.nil
        go_simp
        refine (in10_c (HIs.to (HIs.to hY51 (below_drew1 _)) hBr5).row (HIs.len (HIs.to (HIs.to hY51 (below_drew1 _)) hBr5)) (by rw [← HIs.len (HIs.to (HIs.to hY51 (below_drew1 _)) hBr5)]; omega) (j : Int) false Hqi.out).mono ?_; rintro e wr21 ⟨rfl, hBr21⟩
        go_wp2_with fail
        refine hK_.out _ _ (by exact ⟨cells1' (block_below hBr21 (block_below hBr5 (block_below (below_drew1 _) hx51))), cells8' (block_below hBr21 (block_below hBr5 (block_below (below_drew1 _) hz51))), (nat_to (nat_to (nat_to hAt51 (below_drew1 _)) hBr5) hBr21)⟩) (fun hHeld_21 => ?_)
        clear hK_
        try simp only [Act.put, siA, scZ, scS]
        refine wpAnyH_take' (i := 22) (v := ?v22_t6) 64 rfl rfl (by kernel_rfl) (by kernel_rfl) (by kernel_rfl) (fun _ _ _ h => h) (Or.inl ⟨by kernel_rfl, ?hy22_t6⟩) (by assumption) ?rest22_t6
        case hy22_t6 => (intro W_ hS_; (try dsimp only at hS_); go_simp; (try (with_reducible rfl)))
        try simp only [Act.put, siA, scZ, scS]
        refine wpAnyH_take' (i := 23) (v := ?v23_t6) 65 rfl rfl (by kernel_rfl) (by kernel_rfl) (by kernel_rfl) (fun _ _ _ h => h) (Or.inl ⟨by kernel_rfl, ?hy23_t6⟩) (by assumption) ?rest23_t6
        case hy23_t6 => (intro W_ hS_; (try dsimp only at hS_); go_simp; (try (with_reducible rfl)))
        try simp only [Act.put, siA, scZ, scS]
        refine wpAnyH_take' (i := 24) (v := ?v24_t6) 66 rfl rfl (by kernel_rfl) (by kernel_rfl) (by kernel_rfl) (fun _ _ _ h => h) (Or.inl ⟨by kernel_rfl, ?hy24_t6⟩) (by assumption) ?rest24_t6
        case hy24_t6 => (intro W_ hS_; (try dsimp only at hS_); go_simp; (try (with_reducible rfl)))
        try simp only [Act.put, siA, scZ, scS]
        refine wpAnyH_take' (i := 25) (v := ?v25_t6) 67 rfl rfl (by kernel_rfl) (by kernel_rfl) (by kernel_rfl) (fun _ _ _ h => h) (Or.inl ⟨by kernel_rfl, ?hy25_t6⟩) (by assumption) ?rest25_t6
        case hy25_t6 => (intro W_ hS_; (try dsimp only at hS_); go_simp; (try (with_reducible rfl)))
        try simp only [Act.put, siA, scZ, scS]
        refine wpAnyH_take' (i := 26) (v := ?v26_t6) 68 rfl rfl (by kernel_rfl) (by kernel_rfl) (by kernel_rfl) (fun _ _ _ h => h) (Or.inl ⟨by kernel_rfl, ?hy26_t6⟩) (by assumption) ?rest26_t6
        case hy26_t6 => (intro W_ hS_; (try dsimp only at hS_); go_simp; (try (with_reducible rfl)))
        try simp only [Act.put, siA, scZ, scS]
        refine wpAnyH_take' (i := 27) (v := ?v27_t6) 69 rfl rfl (by kernel_rfl) (by kernel_rfl) (by kernel_rfl) (fun _ _ _ h => h) (Or.inl ⟨by kernel_rfl, ?hy27_t6⟩) (by assumption) ?rest27_t6
        case hy27_t6 => (intro W_ hS_; (try dsimp only at hS_); go_simp; (try (with_reducible rfl)))
        try simp only [Act.put, siA, scZ, scS]
        refine wpAnyH_take' (i := 28) (v := ?v28_t6) 70 rfl rfl (by kernel_rfl) (by kernel_rfl) (by kernel_rfl) (fun _ _ _ h => h) (Or.inl ⟨by kernel_rfl, ?hy28_t6⟩) (by assumption) ?rest28_t6
        case hy28_t6 => (intro W_ hS_; (try dsimp only at hS_); go_simp; (try (with_reducible rfl)))
        try simp only [Act.put, siA, scZ, scS]
        refine wpAnyH_take' (i := 29) (v := ?v29_t6) 71 rfl rfl (by kernel_rfl) (by kernel_rfl) (by kernel_rfl) (fun _ _ _ h => h) (Or.inl ⟨by kernel_rfl, ?hy29_t6⟩) (by assumption) ?rest29_t6
        case hy29_t6 => (intro W_ hS_; (try dsimp only at hS_); go_simp; (try (with_reducible rfl)))
        try simp only [Act.put, siA, scZ, scS]
        refine wpAnyH_take' (i := 30) (v := ?v30_t6) 72 rfl rfl (by kernel_rfl) (by kernel_rfl) (by kernel_rfl) (fun _ _ _ h => h) (Or.inl ⟨by kernel_rfl, ?hy30_t6⟩) (by assumption) ?rest30_t6
        case hy30_t6 => (intro W_ hS_; (try dsimp only at hS_); go_simp; (try (with_reducible rfl)))
        try simp only [Act.put, siA, scZ, scS]
        refine wpAnyH_take' (i := 31) (v := ?v31_t6) 73 rfl rfl (by kernel_rfl) (by kernel_rfl) (by kernel_rfl) (fun _ _ _ h => h) (Or.inl ⟨by kernel_rfl, ?hy31_t6⟩) (by assumption) ?rest31_t6
        case hy31_t6 => (intro W_ hS_; (try dsimp only at hS_); go_simp; (try (with_reducible rfl)))
        try simp only [Act.put, siA, scZ, scS]
        refine wpAnyH_ready (rs := [32]) (by kernel_rfl) (by simp) ?_
        refine AllReadyH.cons rfl (fun K_ hK_ => ?_) AllReadyH.nil
        go_simp
        refine (refAny_c (NIs.l (NIs.to (NIs.to (NIs.to hV51 (below_drew1 _)) hBr5) hBr21)) (TIs.f (TIs.to (TIs.to (TIs.to ht51 (below_drew1 _)) hBr5) hBr21)) (by have h_ := lm_le hV51 HokN.out; omega) false Hqa.out).mono ?_; rintro e wr32 ⟨rfl, hBr32⟩
        go_wp2_with fail
        refine hK_.out _ _ (by exact ⟨cells1' (block_below hBr32 (block_below hBr21 (block_below hBr5 (block_below (below_drew1 _) hx51)))), cells8' (block_below hBr32 (block_below hBr21 (block_below hBr5 (block_below (below_drew1 _) hz51)))), (nat_to (nat_to (nat_to (nat_to hAt51 (below_drew1 _)) hBr5) hBr21) hBr32)⟩) (fun hHeld_32 => ?_)
        clear hK_
        try simp only [Act.put, siA, scZ, scS]
        refine wpAnyH_take' (i := 33) (v := ?v33_t6) 75 rfl rfl (by kernel_rfl) (by kernel_rfl) (by kernel_rfl) (fun _ _ _ h => h) (Or.inl ⟨by kernel_rfl, ?hy33_t6⟩) (by assumption) ?rest33_t6
        case hy33_t6 => (intro W_ hS_; (try dsimp only at hS_); go_simp; (try (with_reducible rfl)))
        try simp only [Act.put, siA, scZ, scS]
        refine wpAnyH_done (by kernel_rfl) ?_ _
        obtain ⟨w52, hw52⟩ : ∃ w52, wr32 = w52 := ⟨_, rfl⟩
        have hB52 : Below w51.heap.size w51 w52 := by rw [← hw52]; exact (below_then (below_then (below_then (below_drew1 _) hBr5) hBr21) hBr32)
        rw [hw52]
        clear hw52  hBr5 hBr21 hBr32
        have hT52 := below_then hT51 hB52
        have hZ52 := below_then hZ51 hB52
        clear hZ51
        have hx52 := block_below hB52 hx51
        have hz52 := block_below hB52 hz51
        have hM52 := NSl.to hM51 hB52
        have hu52 := NSl.to hu51 hB52
        have hY52 := HIs.to hY51 hB52
        have ht52 := TIs.to ht51 hB52
        have hAt52 := nat_to hAt51 hB52
        have hV52 := NIs.to hV51 hB52
        have hAx52 := nat_to hAx51 hB52
        have hVx52 := NIs.to hVx51 hB52
        have hS52 := FsIs.to hS51 hB52
        have hO52 := FOwn9.to hO51 hB52
        clear hT51 hx51 hz51 hM51 hu51 hY51 ht51 hAt51 hV51 hAx51 hVx51 hS51 hO51 hB52
        have hgv2 : gotV Ms K j = false := by rw [hgv.out]; rw [Hqa.out]; simp
        have Hge := Lib.hid (show (nd Ns2 j).g = N.g by rw [hgot.out, hgv2]; rfl)
        clear hgv2
        have t_ := hAx52
        obtain ⟨t0, t1, t2, t3, t4, t5, t6⟩ := t_
        go_wp2_with fail
        clear t0 t1 t2 t3 t4 t5 t6
        refine (sameAll_c hVx52.g (FSl.own (P := fun _ => True) hO52 hS52 (by omega) (fun _ _ => trivial)) true (by rw [Hge.out]; unfold sameFs; simp)).mono ?_
        rintro e w53 ⟨rfl, hB53⟩
        have hT53 := below_then hT52 hB53
        have hZ53 := below_then hZ52 hB53
        clear hZ52
        have hx53 := block_below hB53 hx52
        have hz53 := block_below hB53 hz52
        have hM53 := NSl.to hM52 hB53
        have hu53 := NSl.to hu52 hB53
        have hY53 := HIs.to hY52 hB53
        have ht53 := TIs.to ht52 hB53
        have hAt53 := nat_to hAt52 hB53
        have hV53 := NIs.to hV52 hB53
        have hAx53 := nat_to hAx52 hB53
        have hVx53 := NIs.to hVx52 hB53
        have hS53 := FsIs.to hS52 hB53
        have hO53 := FOwn9.to hO52 hB53
        clear hT52 hx52 hz52 hM52 hu52 hY52 ht52 hAt52 hV52 hAx52 hVx52 hS52 hO52 hB53
        go_wp2_with fail
        go_round
        case measure => simp [intOf]; omega
        exact ⟨j + 1, by omega, by go_num, hx53, hz53, hM53, hu53, hY53, ht53, hT53⟩
      refine wp_region_held_drew (S := fun W => (W.cell? ⟨w.heap.size, 0, none⟩ = some (.slice y.a y.m y.c)) ∧ (W.cell? ⟨Z, 0, none⟩ = some (.int .i64 tw) ∧ W.cell? ⟨Z, 1, none⟩ = some (.bool tf.x) ∧ W.cell? ⟨Z, 2, none⟩ = some (.int .i64 tf.i) ∧ W.cell? ⟨Z, 3, none⟩ = some (.bool tf.r) ∧ W.cell? ⟨Z, 4, none⟩ = some (.int .i64 tf.n) ∧ W.cell? ⟨Z, 5, none⟩ = some (.slice tf.a tf.m tf.c) ∧ W.cell? ⟨Z, 6, none⟩ = some (.bool true) ∧ W.cell? ⟨Z, 7, none⟩ = some (.int .i64 tb)) ∧ (W.cell? (ad.add (j * 7)) = some (.slice m.qa m.qm m.qc) ∧ W.cell? ⟨(ad.add (j * 7)).block, (ad.add (j * 7)).off + 1, none⟩ = some (.slice m.la m.lm m.lc) ∧ W.cell? ⟨(ad.add (j * 7)).block, (ad.add (j * 7)).off + 2, none⟩ = some (.int .i64 m.k.t) ∧ W.cell? ⟨(ad.add (j * 7)).block, (ad.add (j * 7)).off + 3, none⟩ = some (.int .i64 m.k.r) ∧ W.cell? ⟨(ad.add (j * 7)).block, (ad.add (j * 7)).off + 4, none⟩ = some (.int .i64 m.k.s) ∧ W.cell? ⟨(ad.add (j * 7)).block, (ad.add (j * 7)).off + 5, none⟩ = some (.int .i64 m.k.q) ∧ W.cell? ⟨(ad.add (j * 7)).block, (ad.add (j * 7)).off + 6, none⟩ = some (.slice m.ga m.gm m.gc))) (by kernel_rfl) (by exact ⟨cells1' (block_below (below_drew1 _) hx51), cells8' (block_below (below_drew1 _) hz51), (nat_to hAt51 (below_drew1 _))⟩) (fun hHeld_ => ?_)
      refine wpAnyH_take' (i := 0) (v := ?v0_t7) 42 rfl rfl (by kernel_rfl) (by kernel_rfl) (by kernel_rfl) (fun _ _ _ h => h) (Or.inl ⟨by kernel_rfl, ?hy0_t7⟩) (by assumption) ?rest0_t7
      case hy0_t7 => (intro W_ hS_; (try dsimp only at hS_); go_simp; (try (with_reducible rfl)))
      try simp only [Act.put, siA, scZ, scS]
      refine wpAnyH_take' (i := 1) (v := ?v1_t7) 43 rfl rfl (by kernel_rfl) (by kernel_rfl) (by kernel_rfl) (fun _ _ _ h => h) (Or.inl ⟨by kernel_rfl, ?hy1_t7⟩) (by assumption) ?rest1_t7
      case hy1_t7 => (intro W_ hS_; (try dsimp only at hS_); go_simp; (try (with_reducible rfl)))
      try simp only [Act.put, siA, scZ, scS]
      refine wpAnyH_take' (i := 2) (v := ?v2_t7) 44 rfl rfl (by kernel_rfl) (by kernel_rfl) (by kernel_rfl) (fun _ _ _ h => h) (Or.inl ⟨by kernel_rfl, ?hy2_t7⟩) (by assumption) ?rest2_t7
      case hy2_t7 => (intro W_ hS_; (try dsimp only at hS_); go_simp; (try (with_reducible rfl)))
      try simp only [Act.put, siA, scZ, scS]
      refine wpAnyH_take' (i := 3) (v := ?v3_t7) 45 rfl rfl (by kernel_rfl) (by kernel_rfl) (by kernel_rfl) (fun _ _ _ h => h) (Or.inl ⟨by kernel_rfl, ?hy3_t7⟩) (by assumption) ?rest3_t7
      case hy3_t7 => (intro W_ hS_; (try dsimp only at hS_); go_simp; (try (with_reducible rfl)))
      try simp only [Act.put, siA, scZ, scS]
      refine wpAnyH_take' (i := 4) (v := ?v4_t7) 46 rfl rfl (by kernel_rfl) (by kernel_rfl) (by kernel_rfl) (fun _ _ _ h => h) (Or.inl ⟨by kernel_rfl, ?hy4_t7⟩) (by assumption) ?rest4_t7
      case hy4_t7 => (intro W_ hS_; (try dsimp only at hS_); go_simp; (try (with_reducible rfl)))
      try simp only [Act.put, siA, scZ, scS]
      refine wpAnyH_ready (rs := [5]) (by kernel_rfl) (by simp) ?_
      refine AllReadyH.cons rfl (fun K_ hK_ => ?_) AllReadyH.nil
      go_simp
      refine (along_c (NSl.to hM51 (below_drew1 _)) Hok.out (by omega) j hlt false Hal.out).mono ?_; rintro e wr5 ⟨rfl, hBr5⟩
      go_wp2_with fail
      refine hK_.out _ _ (by exact ⟨cells1' (block_below hBr5 (block_below (below_drew1 _) hx51)), cells8' (block_below hBr5 (block_below (below_drew1 _) hz51)), (nat_to (nat_to hAt51 (below_drew1 _)) hBr5)⟩) (fun hHeld_5 => ?_)
      clear hK_
      try simp only [Act.put, siA, scZ, scS]
      refine wpAnyH_take' (i := 6) (v := ?v6_t7) 48 rfl rfl (by kernel_rfl) (by kernel_rfl) (by kernel_rfl) (fun _ _ _ h => h) (Or.inl ⟨by kernel_rfl, ?hy6_t7⟩) (by assumption) ?rest6_t7
      case hy6_t7 => (intro W_ hS_; (try dsimp only at hS_); go_simp; (try (with_reducible rfl)))
      try simp only [Act.put, siA, scZ, scS]
      refine wpAnyH_take' (i := 7) (v := ?v7_t7) 49 rfl rfl (by kernel_rfl) (by kernel_rfl) (by kernel_rfl) (fun _ _ _ h => h) (Or.inl ⟨by kernel_rfl, ?hy7_t7⟩) (by assumption) ?rest7_t7
      case hy7_t7 => (intro W_ hS_; (try dsimp only at hS_); go_simp; (try (with_reducible rfl)))
      try simp only [Act.put, siA, scZ, scS]
      refine wpAnyH_take' (i := 8) (v := ?v8_t7) 50 rfl rfl (by kernel_rfl) (by kernel_rfl) (by kernel_rfl) (fun _ _ _ h => h) (Or.inl ⟨by kernel_rfl, ?hy8_t7⟩) (by assumption) ?rest8_t7
      case hy8_t7 => (intro W_ hS_; (try dsimp only at hS_); go_simp; (try (with_reducible rfl)))
      try simp only [Act.put, siA, scZ, scS]
      refine wpAnyH_take' (i := 9) (v := ?v9_t7) 51 rfl rfl (by kernel_rfl) (by kernel_rfl) (by kernel_rfl) (fun _ _ _ h => h) (Or.inl ⟨by kernel_rfl, ?hy9_t7⟩) (by assumption) ?rest9_t7
      case hy9_t7 => (intro W_ hS_; (try dsimp only at hS_); go_simp; (try (with_reducible rfl)))
      try simp only [Act.put, siA, scZ, scS]
      refine wpAnyH_take' (i := 10) (v := ?v10_t7) 52 rfl rfl (by kernel_rfl) (by kernel_rfl) (by kernel_rfl) (fun _ _ _ h => h) (Or.inl ⟨by kernel_rfl, ?hy10_t7⟩) (by assumption) ?rest10_t7
      case hy10_t7 => (intro W_ hS_; (try dsimp only at hS_); go_simp; (try (with_reducible rfl)))
      try simp only [Act.put, siA, scZ, scS]
      refine wpAnyH_take' (i := 11) (v := ?v11_t7) 53 rfl rfl (by kernel_rfl) (by kernel_rfl) (by kernel_rfl) (fun _ _ _ h => h) (Or.inl ⟨by kernel_rfl, ?hy11_t7⟩) (by assumption) ?rest11_t7
      case hy11_t7 => (intro W_ hS_; (try dsimp only at hS_); go_simp; (try (with_reducible rfl)))
      try simp only [Act.put, siA, scZ, scS]
      refine wpAnyH_take' (i := 12) (v := ?v12_t7) 54 rfl rfl (by kernel_rfl) (by kernel_rfl) (by kernel_rfl) (fun _ _ _ h => h) (Or.inl ⟨by kernel_rfl, ?hy12_t7⟩) (by assumption) ?rest12_t7
      case hy12_t7 => (intro W_ hS_; (try dsimp only at hS_); go_simp; (try (with_reducible rfl)))
      try simp only [Act.put, siA, scZ, scS]
      refine wpAnyH_take' (i := 13) (v := ?v13_t7) 55 rfl rfl (by kernel_rfl) (by kernel_rfl) (by kernel_rfl) (fun _ _ _ h => h) (Or.inl ⟨by kernel_rfl, ?hy13_t7⟩) (by assumption) ?rest13_t7
      case hy13_t7 => (intro W_ hS_; (try dsimp only at hS_); go_simp; (try (with_reducible rfl)))
      try simp only [Act.put, siA, scZ, scS]
      refine wpAnyH_take' (i := 14) (v := ?v14_t7) 56 rfl rfl (by kernel_rfl) (by kernel_rfl) (by kernel_rfl) (fun _ _ _ h => h) (Or.inl ⟨by kernel_rfl, ?hy14_t7⟩) (by assumption) ?rest14_t7
      case hy14_t7 => (intro W_ hS_; (try dsimp only at hS_); go_simp; (try (with_reducible rfl)))
      try simp only [Act.put, siA, scZ, scS]
      refine wpAnyH_take' (i := 15) (v := ?v15_t7) 57 rfl rfl (by kernel_rfl) (by kernel_rfl) (by kernel_rfl) (fun _ _ _ h => h) (Or.inl ⟨by kernel_rfl, ?hy15_t7⟩) (by assumption) ?rest15_t7
      case hy15_t7 => (intro W_ hS_; (try dsimp only at hS_); go_simp; (try (with_reducible rfl)))
      try simp only [Act.put, siA, scZ, scS]
      refine wpAnyH_take' (i := 16) (v := ?v16_t7) 58 rfl rfl (by kernel_rfl) (by kernel_rfl) (by kernel_rfl) (fun _ _ _ h => h) (Or.inl ⟨by kernel_rfl, ?hy16_t7⟩) (by assumption) ?rest16_t7
      case hy16_t7 => (intro W_ hS_; (try dsimp only at hS_); go_simp; (try (with_reducible rfl)))
      try simp only [Act.put, siA, scZ, scS]
      refine wpAnyH_take' (i := 17) (v := ?v17_t7) 59 rfl rfl (by kernel_rfl) (by kernel_rfl) (by kernel_rfl) (fun _ _ _ h => h) (Or.inl ⟨by kernel_rfl, ?hy17_t7⟩) (by assumption) ?rest17_t7
      case hy17_t7 => (intro W_ hS_; (try dsimp only at hS_); go_simp; (try (with_reducible rfl)))
      try simp only [Act.put, siA, scZ, scS]
      refine wpAnyH_take' (i := 18) (v := ?v18_t7) 60 rfl rfl (by kernel_rfl) (by kernel_rfl) (by kernel_rfl) (fun _ _ _ h => h) (Or.inl ⟨by kernel_rfl, ?hy18_t7⟩) (by assumption) ?rest18_t7
      case hy18_t7 => (intro W_ hS_; (try dsimp only at hS_); go_simp; (try (with_reducible rfl)))
      try simp only [Act.put, siA, scZ, scS]
      refine wpAnyH_take' (i := 19) (v := ?v19_t7) 61 rfl rfl (by kernel_rfl) (by kernel_rfl) (by kernel_rfl) (fun _ _ _ h => h) (Or.inl ⟨by kernel_rfl, ?hy19_t7⟩) (by assumption) ?rest19_t7
      case hy19_t7 => (intro W_ hS_; (try dsimp only at hS_); go_simp; (try (with_reducible rfl)))
      try simp only [Act.put, siA, scZ, scS]
      refine wpAnyH_take' (i := 20) (v := ?v20_t7) 62 rfl rfl (by kernel_rfl) (by kernel_rfl) (by kernel_rfl) (fun _ _ _ h => h) (Or.inl ⟨by kernel_rfl, ?hy20_t7⟩) (by assumption) ?rest20_t7
      case hy20_t7 => (intro W_ hS_; (try dsimp only at hS_); go_simp; (try (with_reducible rfl)))
      try simp only [Act.put, siA, scZ, scS]
      refine wpAnyH_ready (rs := [21]) (by kernel_rfl) (by simp) ?_
      refine AllReadyH.cons rfl (fun K_ hK_ => ?_) AllReadyH.nil
      go_simp
      refine (in10_c (HIs.to (HIs.to hY51 (below_drew1 _)) hBr5).row (HIs.len (HIs.to (HIs.to hY51 (below_drew1 _)) hBr5)) (by rw [← HIs.len (HIs.to (HIs.to hY51 (below_drew1 _)) hBr5)]; omega) (j : Int) false Hqi.out).mono ?_; rintro e wr21 ⟨rfl, hBr21⟩
      go_wp2_with fail
      refine hK_.out _ _ (by exact ⟨cells1' (block_below hBr21 (block_below hBr5 (block_below (below_drew1 _) hx51))), cells8' (block_below hBr21 (block_below hBr5 (block_below (below_drew1 _) hz51))), (nat_to (nat_to (nat_to hAt51 (below_drew1 _)) hBr5) hBr21)⟩) (fun hHeld_21 => ?_)
      clear hK_
      try simp only [Act.put, siA, scZ, scS]
      refine wpAnyH_take' (i := 22) (v := ?v22_t7) 64 rfl rfl (by kernel_rfl) (by kernel_rfl) (by kernel_rfl) (fun _ _ _ h => h) (Or.inl ⟨by kernel_rfl, ?hy22_t7⟩) (by assumption) ?rest22_t7
      case hy22_t7 => (intro W_ hS_; (try dsimp only at hS_); go_simp; (try (with_reducible rfl)))
      try simp only [Act.put, siA, scZ, scS]
      refine wpAnyH_take' (i := 23) (v := ?v23_t7) 65 rfl rfl (by kernel_rfl) (by kernel_rfl) (by kernel_rfl) (fun _ _ _ h => h) (Or.inl ⟨by kernel_rfl, ?hy23_t7⟩) (by assumption) ?rest23_t7
      case hy23_t7 => (intro W_ hS_; (try dsimp only at hS_); go_simp; (try (with_reducible rfl)))
      try simp only [Act.put, siA, scZ, scS]
      refine wpAnyH_take' (i := 24) (v := ?v24_t7) 66 rfl rfl (by kernel_rfl) (by kernel_rfl) (by kernel_rfl) (fun _ _ _ h => h) (Or.inl ⟨by kernel_rfl, ?hy24_t7⟩) (by assumption) ?rest24_t7
      case hy24_t7 => (intro W_ hS_; (try dsimp only at hS_); go_simp; (try (with_reducible rfl)))
      try simp only [Act.put, siA, scZ, scS]
      refine wpAnyH_take' (i := 25) (v := ?v25_t7) 67 rfl rfl (by kernel_rfl) (by kernel_rfl) (by kernel_rfl) (fun _ _ _ h => h) (Or.inl ⟨by kernel_rfl, ?hy25_t7⟩) (by assumption) ?rest25_t7
      case hy25_t7 => (intro W_ hS_; (try dsimp only at hS_); go_simp; (try (with_reducible rfl)))
      try simp only [Act.put, siA, scZ, scS]
      refine wpAnyH_take' (i := 26) (v := ?v26_t7) 68 rfl rfl (by kernel_rfl) (by kernel_rfl) (by kernel_rfl) (fun _ _ _ h => h) (Or.inl ⟨by kernel_rfl, ?hy26_t7⟩) (by assumption) ?rest26_t7
      case hy26_t7 => (intro W_ hS_; (try dsimp only at hS_); go_simp; (try (with_reducible rfl)))
      try simp only [Act.put, siA, scZ, scS]
      refine wpAnyH_take' (i := 27) (v := ?v27_t7) 69 rfl rfl (by kernel_rfl) (by kernel_rfl) (by kernel_rfl) (fun _ _ _ h => h) (Or.inl ⟨by kernel_rfl, ?hy27_t7⟩) (by assumption) ?rest27_t7
      case hy27_t7 => (intro W_ hS_; (try dsimp only at hS_); go_simp; (try (with_reducible rfl)))
      try simp only [Act.put, siA, scZ, scS]
      refine wpAnyH_take' (i := 28) (v := ?v28_t7) 70 rfl rfl (by kernel_rfl) (by kernel_rfl) (by kernel_rfl) (fun _ _ _ h => h) (Or.inl ⟨by kernel_rfl, ?hy28_t7⟩) (by assumption) ?rest28_t7
      case hy28_t7 => (intro W_ hS_; (try dsimp only at hS_); go_simp; (try (with_reducible rfl)))
      try simp only [Act.put, siA, scZ, scS]
      refine wpAnyH_take' (i := 29) (v := ?v29_t7) 71 rfl rfl (by kernel_rfl) (by kernel_rfl) (by kernel_rfl) (fun _ _ _ h => h) (Or.inl ⟨by kernel_rfl, ?hy29_t7⟩) (by assumption) ?rest29_t7
      case hy29_t7 => (intro W_ hS_; (try dsimp only at hS_); go_simp; (try (with_reducible rfl)))
      try simp only [Act.put, siA, scZ, scS]
      refine wpAnyH_take' (i := 30) (v := ?v30_t7) 72 rfl rfl (by kernel_rfl) (by kernel_rfl) (by kernel_rfl) (fun _ _ _ h => h) (Or.inl ⟨by kernel_rfl, ?hy30_t7⟩) (by assumption) ?rest30_t7
      case hy30_t7 => (intro W_ hS_; (try dsimp only at hS_); go_simp; (try (with_reducible rfl)))
      try simp only [Act.put, siA, scZ, scS]
      refine wpAnyH_take' (i := 31) (v := ?v31_t7) 73 rfl rfl (by kernel_rfl) (by kernel_rfl) (by kernel_rfl) (fun _ _ _ h => h) (Or.inl ⟨by kernel_rfl, ?hy31_t7⟩) (by assumption) ?rest31_t7
      case hy31_t7 => (intro W_ hS_; (try dsimp only at hS_); go_simp; (try (with_reducible rfl)))
      try simp only [Act.put, siA, scZ, scS]
      refine wpAnyH_ready (rs := [32]) (by kernel_rfl) (by simp) ?_
      refine AllReadyH.cons rfl (fun K_ hK_ => ?_) AllReadyH.nil
      go_simp
      refine (refAny_c (NIs.l (NIs.to (NIs.to (NIs.to hV51 (below_drew1 _)) hBr5) hBr21)) (TIs.f (TIs.to (TIs.to (TIs.to ht51 (below_drew1 _)) hBr5) hBr21)) (by have h_ := lm_le hV51 HokN.out; omega) true Hqa.out).mono ?_; rintro e wr32 ⟨rfl, hBr32⟩
      go_wp2_with fail
      refine hK_.out _ _ (by exact ⟨cells1' (block_below hBr32 (block_below hBr21 (block_below hBr5 (block_below (below_drew1 _) hx51)))), cells8' (block_below hBr32 (block_below hBr21 (block_below hBr5 (block_below (below_drew1 _) hz51)))), (nat_to (nat_to (nat_to (nat_to hAt51 (below_drew1 _)) hBr5) hBr21) hBr32)⟩) (fun hHeld_32 => ?_)
      clear hK_
      try simp only [Act.put, siA, scZ, scS]
      refine wpAnyH_take' (i := 33) (v := ?v33_t7) 75 rfl rfl (by kernel_rfl) (by kernel_rfl) (by kernel_rfl) (fun _ _ _ h => h) (Or.inl ⟨by kernel_rfl, ?hy33_t7⟩) (by assumption) ?rest33_t7
      case hy33_t7 => (intro W_ hS_; (try dsimp only at hS_); go_simp; (try (with_reducible rfl)))
      try simp only [Act.put, siA, scZ, scS]
      refine wpAnyH_done (by kernel_rfl) ?_ _
      obtain ⟨w52, hw52⟩ : ∃ w52, wr32 = w52 := ⟨_, rfl⟩
      have hB52 : Below w51.heap.size w51 w52 := by rw [← hw52]; exact (below_then (below_then (below_then (below_drew1 _) hBr5) hBr21) hBr32)
      rw [hw52]
      clear hw52  hBr5 hBr21 hBr32
      have hT52 := below_then hT51 hB52
      have hZ52 := below_then hZ51 hB52
      clear hZ51
      have hx52 := block_below hB52 hx51
      have hz52 := block_below hB52 hz51
      have hM52 := NSl.to hM51 hB52
      have hu52 := NSl.to hu51 hB52
      have hY52 := HIs.to hY51 hB52
      have ht52 := TIs.to ht51 hB52
      have hAt52 := nat_to hAt51 hB52
      have hV52 := NIs.to hV51 hB52
      have hAx52 := nat_to hAx51 hB52
      have hVx52 := NIs.to hVx51 hB52
      have hS52 := FsIs.to hS51 hB52
      have hO52 := FOwn9.to hO51 hB52
      clear hT51 hx51 hz51 hM51 hu51 hY51 ht51 hAt51 hV51 hAx51 hVx51 hS51 hO51 hB52
      have hgv2 : gotV Ms K j = true := by rw [hgv.out, Hal.out, Hqi.out, Hqa.out, decide_eq_true Hs.out]; rfl
      have Hge := Lib.hid (show (nd Ns2 j).g = N.g ++ [T1.f] by rw [hgot.out, hgv2]; rfl)
      clear hgv2
      have hOx := FOwn9.to hO52 (below_alloc1 w52 (.cells #[.bool tf.x, .int .i64 tf.i, .bool tf.r, .int .i64 tf.n, .slice tf.a tf.m tf.c] 34))
      have hZx : Below wr.heap.size wr (w52.alloc (.cells #[.bool tf.x, .int .i64 tf.i, .bool tf.r, .int .i64 tf.n, .slice tf.a tf.m tf.c] 34)) := below_then hZ52 (below_alloc1 _ _)
      have t_ := hAx52
      obtain ⟨t0, t1, t2, t3, t4, t5, t6⟩ := t_
      have hlz := (Array.getElem?_eq_some_iff.1 hz52).1
      obtain ⟨zc0, zc1, zc2, zc3, zc4, zc5, zc6, zc7⟩ := cells8' hz52
      go_upto_region 13 with (at_builtin; refine wpList_append_fr _ rfl _ _ rfl wr.heap.size _ m.gm gs rfl hOx _ 1 _ _ [tf] rfl rfl (FRow.lit1 w52 tf (by simp)) (by omega) hZx.size ?_; intro A4 c4 w90 hO9 hc9 hB9)
      clear t0 t1 t2 t3 t4 t5 t6
      clear hlz zc0 zc1 zc2 zc3 zc4 zc5 zc6 zc7
      have hZ90 : Below wr.heap.size wr w90 := hZx.trans hB9
      obtain ⟨hT50, hx50, hz50, hM50, hu50, hY50, ht50, hVx50, hAx50, hS50⟩ := H50.out
      have hT90 := below_then hT50 hZ90
      have hx90 := block_below hZ90 hx50
      have hz90 := block_below hZ90 hz50
      have hM90 := NSl.to hM50 hZ90
      have hu90 := NSl.to hu50 hZ90
      have hY90 := HIs.to hY50 hZ90
      have ht90 := TIs.to ht50 hZ90
      have hVx90 := NIs.to hVx50 hZ90
      have hAx90 := nat_to hAx50 hZ90
      have hS90 := FsIs.to hS50 hZ90
      have hO90 := hO9
      clear hOx hZx hB9 hO9
      clear hM52
      clear hu52
      clear hY52
      clear ht52
      clear hAx52
      clear hVx52
      clear hS52
      clear hO52
      clear hx52 hz52 hT52 hZ52
      have t_ := hAx90
      obtain ⟨t0, t1, t2, t3, t4, t5, t6⟩ := t_
      go_wp2_with fail
      clear t0 t1 t2 t3 t4 t5 t6
      refine (sameAll_c hVx90.g (FSl.own (P := fun _ => True) hO90 (FsIs.append hS90 (FsIs.one ht90.f)) (by omega) (fun _ _ => trivial)) true (by rw [Hge.out]; unfold sameFs; simp)).mono ?_
      rintro e w91 ⟨rfl, hB91⟩
      have hT91 := below_then hT90 hB91
      have hx91 := block_below hB91 hx90
      have hz91 := block_below hB91 hz90
      have hM91 := NSl.to hM90 hB91
      have hu91 := NSl.to hu90 hB91
      have hY91 := HIs.to hY90 hB91
      have ht91 := TIs.to ht90 hB91
      have hAx91 := nat_to hAx90 hB91
      have hVx91 := NIs.to hVx90 hB91
      have hS91 := FsIs.to hS90 hB91
      have hO91 := FOwn9.to hO90 hB91
      clear hT90 hx90 hz90 hM90 hu90 hY90 ht90 hAx90 hVx90 hS90 hO90 hB91
      go_wp2_with fail
      go_round
      case measure => simp [intOf]; omega
      exact ⟨j + 1, by omega, by go_num, hx91, hz91, hM91, hu91, hY91, ht91, hT91⟩
    obtain rfl : j = m1 := by omega
    have j1 : ¬ (j : Int) < (j : Int) := by omega
    go_wp2_with fail
    go_ret
    exact ⟨rfl, hT50⟩
end Go.Proofs.YtcifjccojmfpaaaGreat

