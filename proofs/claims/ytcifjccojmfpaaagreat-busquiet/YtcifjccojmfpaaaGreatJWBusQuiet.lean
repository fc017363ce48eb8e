/-
  WBusQuiet.
-/
import Derived.Test.YtcifjccojmfpaaaGreatJ0
import Derived.Test.YtcifjccojmfpaaaGreatJ1
import Derived.Test.YtcifjccojmfpaaaGreatJ2
import Derived.Test.YtcifjccojmfpaaaGreatJ3
import Derived.Test.YtcifjccojmfpaaaGreatJ4
import Derived.Test.YtcifjccojmfpaaaGreatJ5
import Derived.Test.YtcifjccojmfpaaaGreatJ8
import Derived.Test.YtcifjccojmfpaaaGreatJ9
set_option maxRecDepth 100000
set_option maxHeartbeats 4000000
namespace Go.Proofs.YtcifjccojmfpaaaGreat
open Go.RowKit
set_option linter.unusedVariables false
set_option linter.unusedSimpArgs false
theorem irow_g {w : World} {B : Nat} {A : Option Addr} {l : List Int} (h : Row .i64 w B A l) : GRow ICs w B A l := by
  rcases h with rfl | ⟨ad, e, hb, hc⟩
  · exact .inl rfl
  · refine .inr ⟨ad, e, hb, fun k x hx => ?_⟩
    rw [gcells_int, List.getElem?_map, Option.map_eq_some_iff] at hx
    obtain ⟨y, hy, rfl⟩ := hx
    exact hc k y hy
theorem busQuiet_any (hHd : Head10) (A : Option Addr) (n c : Nat) (Ns : List NC) (x : HV) (H0 : List Int) (b : Nat) (hb256 : b < 256) (w : World) (h : NSl w (fun _ => True) A n c Ns) (hh : HIs w (fun _ => True) x H0) :
    Calls Tryz.prog 9 #[.slice A n c, .agg #[.slice x.a x.m x.c], .int .u8 b] w fun e w' => e = .returned (.bool true) ∧ Below w.heap.size w w' := by
  have h0 : NSl w (Out [w.heap.size]) A n c Ns := h.mono out_low10
  have hh0 : HIs w (Out [w.heap.size]) x H0 := hh.mono out_low10
  clear h hh
  obtain ⟨w0, hw0⟩ : ∃ w0, (w.alloc (.cells #[.slice x.a x.m x.c] 41)) = w0 := ⟨_, rfl⟩
  have hT0 : Below w.heap.size w w0 := by rw [← hw0]; exact below_alloc1 _ _
  have hx0 : w0.heap[w.heap.size]? = some (.cells #[.slice x.a x.m x.c] 41) := by rw [← hw0]; exact World.alloc_heap_new _ _
  have hs0 : w0.heap.size = w.heap.size + 1 := by rw [← hw0]; simp
  have Hs0 := Lib.hid hs0
  clear hs0
  have hlx := (Array.getElem?_eq_some_iff.1 hx0).1
  have xc0 := cells1' hx0
  go_enter Tryz.func9, Tryz.ntmps9
  go_wp2_with fail
  clear hlx xc0
  clear hw0
  have hZ0 := Below.refl w0.heap.size w0
  clear hZ0
  clear Hs0
  refine (hHd.run w0).mono ?_
  rintro e w1 ⟨rfl, hB1⟩
  have hT1 := below_then hT0 hB1
  have hx1 := block_below hB1 hx0
  clear hT0 hx0  hB1
  go_wp2_with fail
  refine (nodes10_c (Q := Out [w.heap.size]) (h0.to hT1) 5 (by decide) (out_up (lt_cons (Array.getElem?_eq_some_iff.1 hx1).1 (fun _ h => by cases h)))).mono ?_
  rintro e w2 ⟨A1, m1, c1, Ms, rfl, hM_, hok, hm1, hm8, hql, hB2⟩
  have hT2 := below_then hT1 hB2
  have hx2 := block_below hB2 hx1
  clear hT1 hx1  hB2
  have hM2 := hM_
  clear hM_
  have Hok := Lib.hid hok
  have Hql := Lib.hid hql
  have Hml := Lib.hid hM2.len
  clear hok hql
  have hlx := (Array.getElem?_eq_some_iff.1 hx2).1
  have xc0 := cells1' hx2
  go_wp2_with fail
  clear hlx xc0
  have hlit : HSl (w2.alloc (.cells #[.slice x.a x.m x.c] 41)) (Out [w.heap.size]) (some ⟨w2.heap.size, 0, none⟩) 1 1 [H0] := hsl_lit10 (hh0.to hT2)
  obtain ⟨w3, hw3⟩ : ∃ w_, w2.alloc (.cells #[.slice x.a x.m x.c] 41) = w_ := ⟨_, rfl⟩
  have hB3 : Below w2.heap.size w2 w3 := by rw [← hw3]; exact below_alloc1 _ _
  rw [hw3] at hlit
  rw [hw3]
  clear hw3
  have hT3 := below_then hT2 hB3
  have hx3 := block_below hB3 hx2
  have hM3 := NSl.to hM2 hB3
  clear hT2 hx2 hM2 hB3
  refine (cut_c (Q := Out [w.heap.size]) hlit 1 (by decide) (out_up (lt_cons (Array.getElem?_eq_some_iff.1 hx3).1 (fun _ h => by cases h)))).mono ?_
  rintro e w4 ⟨B1, k1, d1, Ks, rfl, hK_, hk1, hk2, hks, hB4⟩
  have hT4 := below_then hT3 hB4
  have hx4 := block_below hB4 hx3
  have hM4 := NSl.to hM3 hB4
  clear hT3 hx3 hM3 hB4
  obtain rfl : k1 = 1 := by omega
  obtain ⟨adk, y, ea_, hce_, hY_⟩ := HSl.at_ hK_ (k := 0) (by decide)
  subst ea_
  obtain ⟨K, hKe⟩ : ∃ K, Ks.getD 0 [] = K := ⟨_, rfl⟩
  rw [hKe] at hY_
  have hK10 : K.length ≤ 10 := by rw [← hKe]; exact hks _ (List.mem_of_getElem? (show Ks[0]? = some (Ks.getD 0 []) by simp [List.getD, List.getElem?_eq_getElem (show 0 < Ks.length by rw [hK_.len]; decide)]))
  clear hk1 hk2 hks hKe hK_ hlit
  rw [Nat.zero_mul, add_zero] at hce_
  have hlx := (Array.getElem?_eq_some_iff.1 hx4).1
  obtain ⟨xc0, xf0⟩ := cells1 hx4
  go_upto_region 4 with fail
  clear hlx xc0 xf0 hce_
  obtain ⟨w5, hw5⟩ : ∃ w_, w4.setCell ⟨w.heap.size, 0, none⟩ (.slice y.a y.m y.c) = w_ := ⟨_, rfl⟩
  have hG : w4.grownBy w5 (some w.heap.size) := by rw [← hw5]; exact grown_setAt _ _ _ _
  have hT5 := below_g hT4 hG (Nat.le_refl _)
  have hx5 : w5.heap[w.heap.size]? = some (.cells #[.slice y.a y.m y.c] 41) := by rw [← hw5]; exact set0_obj1 hx4 _
  have hM5 := NSl.grow hM4 hG (out_not (by simp))
  have hY5 := HIs.grow hY_ hG (out_not (by simp))
  rw [hw5]
  clear hw5 hG hT4 hx4 hM4 hY_
  replace hM5 := NSl.mono (Q := fun _ => True) hM5 (fun _ _ _ => trivial)
  replace hY5 := HIs.mono (Q := fun _ => True) hY5 (fun _ _ _ => trivial)
  obtain ⟨kk, hkk⟩ : ∃ kk : Nat, b % m1 = kk := ⟨_, rfl⟩
  have hklt : kk < m1 := by rw [← hkk]; exact Nat.mod_lt _ (by omega)
  have hmod : (b : Int) % (m1 : Int) = (kk : Int) := by rw [← hkk]; rfl
  have hmod2 : Int.tmod (b : Int) (m1 : Int) = (kk : Int) := by rw [Int.tmod_eq_emod_of_nonneg (by omega)]; exact hmod
  have hm0 : ¬ (m1 : Int) = 0 := by omega
  have hwr : wrap64 (b : Int) = (b : Int) := by unfold wrap64; omega
  clear hkk
  have j0 : (kk : Int) < (m1 : Int) := by omega
  obtain ⟨adk2, m, ea1, hAt5, hV5⟩ := NSl.at_ hM5 hklt
  subst ea1
  obtain ⟨N, hN_⟩ : ∃ N_, nd Ms kk = N_ := ⟨_, rfl⟩
  replace hV5 : NIs w5 (fun _ => True) m N := by rw [← hN_]; exact hV5
  have HN := Lib.hid hN_
  clear hN_
  have hks : m.k.s = N.k.s := by rw [hV5.k]
  by_cases hs : m.k.s = 1
  · skip
    have d1 : (m.k.s == 1) = true := by simp [hs]
    clear hs hks
    have tAt_ := hAt5
    obtain ⟨At0, At1, At2, At3, At4, At5, At6⟩ := tAt_
    go_wp2_with fail
    clear At0 At1 At2 At3 At4 At5 At6
    go_ret
    exact ⟨rfl, hT5⟩
  have d1 : (m.k.s == 1) = false := by simpa using hs
  have Hs := Lib.hid (show (nd Ms kk).k.s ≠ 1 by rw [show nd Ms kk = N from HN.out, ← hks]; exact hs)
  clear hs hks
  have tAt_ := hAt5
  obtain ⟨At0, At1, At2, At3, At4, At5, At6⟩ := tAt_
  go_wp2_with fail
  clear At0 At1 At2 At3 At4 At5 At6
  obtain ⟨al, hal⟩ : ∃ q, alongN Ms kk = q := ⟨_, rfl⟩
  have Hal := Lib.hid hal
  clear hal
  refine (along_c hM5 Hok.out (by omega) kk hklt al Hal.out).mono ?_
  rintro e w6 ⟨rfl, hB6⟩
  have hT6 := below_then hT5 hB6
  have hx6 := block_below hB6 hx5
  have hM6 := NSl.to hM5 hB6
  have hY6 := HIs.to hY5 hB6
  have hAt6 := nat_to hAt5 hB6
  have hV6 := NIs.to hV5 hB6
  clear hT5 hx5 hM5 hY5 hAt5 hV5 hB6
  cases al
  rotate_left
  · skip
    go_wp2_with fail
    go_ret
    exact ⟨rfl, hT6⟩
  clear d1 hmod hmod2 hm0 hwr
  clear hAt6
  clear hV6
  have hx_ := block_below (below_alloc1 w6 (.cells #[] 3)) hx6
  have xc_ := cells1' hx_
  have hxl_ := (Array.getElem?_eq_some_iff.1 hx_).1
  go_upto_region 8 with (at_builtin; refine wpList_append_g shI Tryz.infoI10 _ rfl _ _ rfl w6.heap.size _ 0 0 [] rfl (gown_empty shI w6 _ _ rfl (Nat.le_refl _)) y.a y.m y.c _ K rfl hY6.len (irow_g (hY6.row.to (below_alloc1 _ _))) (by have h_ := hY6.len; omega) (by simp) ?_; intro A8 c8 w7 hO8 hc8 hg8 he8 hB8)
  simp only [Nat.zero_add, List.nil_append] at hO8 hc8 ⊢
  have hB7 : Below w6.heap.size w6 w7 := ((Below.refl _ w6).alloc (Nat.le_refl _) _).trans hB8
  have hO7 := hO8
  clear hx_ xc_ hxl_ hg8 he8 hB8 hO8
  have H0k := Lib.hid (And.intro hT6 (And.intro hx6 (And.intro hM6 hY6)))
  have hB0k := hB7
  have hsz0 := hB7.size
  have hT7 := below_then hT6 hB7
  have hx7 := block_below hB7 hx6
  have hM7 := NSl.to hM6 hB7
  have hY7 := HIs.to hY6 hB7
  clear hT6 hx6 hM6 hY6 hB7
  have hOx := GOwn.to hO7 (below_alloc1 w7 (.cells #[.int .i64 (kk : Int)] 3))
  have hYl := hY7.len
  have hsz_ : w6.heap.size ≤ (w7.alloc (.cells #[.int .i64 (kk : Int)] 3)).heap.size := by have h_ := GOwn.cap hO7; exact Nat.le_trans hsz0 (below_alloc1 w7 (.cells #[.int .i64 (kk : Int)] 3)).size
  go_upto_region 9 with (at_builtin; refine wpList_append_g shI Tryz.infoI10 _ rfl _ _ rfl w6.heap.size A8 y.m c8 K rfl hOx _ 1 _ _ [(kk : Int)] rfl rfl (GRow.lit w7 [(kk : Int)] rfl (by simp)) (by omega) hsz_ ?_; intro A9 c9 w8 hO9 hc9 hg9 he9 hB9)
  have hY9 : Row .i64 w8 w8.heap.size A9 (K ++ [(kk : Int)]) := igrow_row (GRow.own shI hO9)
  obtain ⟨hT0_, hx0_, hM0_, hY0_⟩ := H0k.out
  have hBz : Below w6.heap.size w6 w8 := (below_then hB0k (below_alloc1 w7 (.cells #[.int .i64 (kk : Int)] 3))).trans hB9
  have hT8 := below_then hT0_ hBz
  have hx8 := block_below hBz hx0_
  have hM8 := NSl.to hM0_ hBz
  have hY8 := HIs.to hY0_ hBz
  clear hO7 hOx hsz_ hsz0 hO9 hg9 he9 hB9 hT0_ hx0_ hM0_ hY0_ hBz hB0k hT7 hx7 hM7 hY7
  have hR8 := hY9
  clear hY9
  have hRl : (K ++ [(kk : Int)]).length = y.m + 1 := by rw [List.length_append, hYl]; rfl
  have HRl := Lib.hid hRl
  clear hRl
  have hym : y.m ≤ 10 := by omega
  clear hYl
  have hlx := (Array.getElem?_eq_some_iff.1 hx8).1
  have xc0 := cells1' hx8
  go_wp2_with fail
  clear hlx xc0
  obtain ⟨Ns2, hNs2⟩ : ∃ q, slotN Ms K = q := ⟨_, rfl⟩
  have HNs2 := Lib.hid hNs2
  clear hNs2
  obtain ⟨T1, hT1⟩ : ∃ q, toldN lenZ Ms K = q := ⟨_, rfl⟩
  have HT1 := Lib.hid hT1
  clear hT1
  refine (slot_c hM8 Hok.out hm1 hm8 hY8.row hY8.len (by omega) (fun _ _ => trivial) Ns2 HNs2.out T1 HT1.out).mono ?_
  rintro e w9 ⟨A2, c2, t, rfl, hu_, ht_, hB9⟩
  have hT9 := below_then hT8 hB9
  have hx9 := block_below hB9 hx8
  have hM9 := NSl.to hM8 hB9
  have hY9 := HIs.to hY8 hB9
  have hR9 := Row.to hR8 hB9
  clear hT8 hx8 hM8 hY8 hR8 hB9
  have hu9 := hu_
  clear hu_
  have ht9 := ht_
  clear ht_
  go_upto_region 10 with fail
  obtain ⟨w10, hw10⟩ : ∃ w_, w9.alloc (.cells #[.int .i64 t.w, .bool t.f.x, .int .i64 t.f.i, .bool t.f.r, .int .i64 t.f.n, .slice t.f.a t.f.m t.f.c, .bool t.ok, .int .i64 t.b] 36) = w_ := ⟨_, rfl⟩
  have hB10 : Below w9.heap.size w9 w10 := by rw [← hw10]; exact below_alloc1 _ _
  obtain ⟨Z, hZ_⟩ : ∃ Z, w9.heap.size = Z := ⟨_, rfl⟩
  have hz10 : w10.heap[Z]? = some (.cells #[.int .i64 t.w, .bool t.f.x, .int .i64 t.f.i, .bool t.f.r, .int .i64 t.f.n, .slice t.f.a t.f.m t.f.c, .bool t.ok, .int .i64 t.b] 36) := by rw [← hw10, ← hZ_]; exact World.alloc_heap_new _ _
  rw [hw10]
  rw [hZ_]
  clear hw10 hZ_
  have hT10 := below_then hT9 hB10
  have hx10 := block_below hB10 hx9
  have hM10 := NSl.to hM9 hB10
  have hY10 := HIs.to hY9 hB10
  have hR10 := Row.to hR9 hB10
  have hu10 := NSl.to hu9 hB10
  have ht10 := TIs.to ht9 hB10
  clear hT9 hx9 hM9 hY9 hR9 hu9 ht9 hB10
  go_wp2_with fail
  obtain ⟨Ns3, hNs3⟩ : ∃ q, slotN Ms (K ++ [(kk : Int)]) = q := ⟨_, rfl⟩
  have HNs3 := Lib.hid hNs3
  clear hNs3
  have HT2 := Lib.hid (show toldN lenZ Ms (K ++ [(kk : Int)]) = T1 by rw [told_quiet Hs.out Hal.out]; exact HT1.out)
  refine (slot_c (wcp := c9) hM10 Hok.out hm1 hm8 hR10 HRl.out (by omega) (fun _ _ => trivial) Ns3 HNs3.out T1 HT2.out).mono ?_
  rintro e w11 ⟨A3, c3, t2, rfl, hv_, ht2_, hB11⟩
  have hT11 := below_then hT10 hB11
  have hx11 := block_below hB11 hx10
  have hz11 := block_below hB11 hz10
  have hM11 := NSl.to hM10 hB11
  have hY11 := HIs.to hY10 hB11
  have hR11 := Row.to hR10 hB11
  have hu11 := NSl.to hu10 hB11
  have ht11 := TIs.to ht10 hB11
  clear hT10 hx10 hz10 hM10 hY10 hR10 hu10 ht10 hB11
  have hv11 := hv_
  clear hv_
  have ht211 := ht2_
  clear ht2_
  go_upto_region 11 with fail
  obtain ⟨w12, hw12⟩ : ∃ w_, w11.alloc (.cells #[.int .i64 t2.w, .bool t2.f.x, .int .i64 t2.f.i, .bool t2.f.r, .int .i64 t2.f.n, .slice t2.f.a t2.f.m t2.f.c, .bool t2.ok, .int .i64 t2.b] 36) = w_ := ⟨_, rfl⟩
  have hB12 : Below w11.heap.size w11 w12 := by rw [← hw12]; exact below_alloc1 _ _
  obtain ⟨Z2, hZ_⟩ : ∃ Z, w11.heap.size = Z := ⟨_, rfl⟩
  have hzz12 : w12.heap[Z2]? = some (.cells #[.int .i64 t2.w, .bool t2.f.x, .int .i64 t2.f.i, .bool t2.f.r, .int .i64 t2.f.n, .slice t2.f.a t2.f.m t2.f.c, .bool t2.ok, .int .i64 t2.b] 36) := by rw [← hw12, ← hZ_]; exact World.alloc_heap_new _ _
  rw [hw12]
  rw [hZ_]
  clear hw12 hZ_
  have hT12 := below_then hT11 hB12
  have hx12 := block_below hB12 hx11
  have hz12 := block_below hB12 hz11
  have hM12 := NSl.to hM11 hB12
  have hY12 := HIs.to hY11 hB12
  have hR12 := Row.to hR11 hB12
  have hu12 := NSl.to hu11 hB12
  have ht12 := TIs.to ht11 hB12
  have hv12 := NSl.to hv11 hB12
  have ht212 := TIs.to ht211 hB12
  clear hT11 hx11 hz11 hM11 hY11 hR11 hu11 ht11 hv11 ht211 hB12
  have hlz := (Array.getElem?_eq_some_iff.1 hz12).1
  obtain ⟨zc0, zc1, zc2, zc3, zc4, zc5, zc6, zc7⟩ := cells8' hz12
  have hlzz := (Array.getElem?_eq_some_iff.1 hzz12).1
  obtain ⟨zzc0, zzc1, zzc2, zzc3, zzc4, zzc5, zzc6, zzc7⟩ := cells8' hzz12
  go_wp2_with fail
  clear hlz zc0 zc1 zc2 zc3 zc4 zc5 zc6 zc7 hlzz zzc0 zzc1 zzc2 zzc3 zzc4 zzc5 zzc6 zzc7
  refine (sameT_c ht12 ht212).mono ?_
  rintro e w13 ⟨rfl, hB13⟩
  have hT13 := below_then hT12 hB13
  have hx13 := block_below hB13 hx12
  have hz13 := block_below hB13 hz12
  have hzz13 := block_below hB13 hzz12
  have hM13 := NSl.to hM12 hB13
  have hY13 := HIs.to hY12 hB13
  have hR13 := Row.to hR12 hB13
  have hu13 := NSl.to hu12 hB13
  have ht13 := TIs.to ht12 hB13
  have hv13 := NSl.to hv12 hB13
  have ht213 := TIs.to ht212 hB13
  clear hT12 hx12 hz12 hzz12 hM12 hY12 hR12 hu12 ht12 hv12 ht212 hB13
  go_wp2_with fail
  go_loopw [14] (fun i wr => ∃ (j : Nat), j ≤ m1 ∧ i = .int .i64 j ∧ NSl wr (fun _ => True) A2 m1 c2 Ns2 ∧ NSl wr (fun _ => True) A3 m1 c3 Ns3 ∧ Below w.heap.size w wr) (fun i _ => m1 - (intOf i).toNat)
  case atStart => exact ⟨0, Nat.zero_le _, rfl, hu13, hv13, hT13⟩
  case round =>
    clear hx13 hz13 hzz13 hM13 hY13 hR13 hu13 hv13 ht13 ht213 hT13
    obtain ⟨j, hj, rfl, hu50, hv50, hT50⟩ := hrel
    by_cases hlt : j < m1
    · skip
      have j1 : (j : Int) < (m1 : Int) := by omega
      obtain ⟨ad, m2, ea1, hAt50, hV50⟩ := NSl.at_ hu50 hlt
      obtain ⟨ad2, m3, ea2, hAx50, hVx50⟩ := NSl.at_ hv50 hlt
      subst ea1 ea2
      by_cases hjk : j = kk
      · skip
        have d1 : ((j : Int) != (kk : Int)) = false := by simp; omega
        have d2 : (j != kk) = false := by simp; omega
        have Hjk := Lib.hid hjk
        clear hjk
        go_wp2_with fail
        refine wp_region_held_drew (S := fun W => True) (by kernel_rfl) (by exact trivial) (fun hHeld_ => ?_)
        refine wpAnyH_take' (i := 0) (v := ?v0_t1) 86 rfl rfl (by kernel_rfl) (by kernel_rfl) (by kernel_rfl) (fun _ _ _ h => h) (Or.inl ⟨by kernel_rfl, ?hy0_t1⟩) (by assumption) ?rest0_t1
        case hy0_t1 => (intro W_ hS_; (try dsimp only at hS_); go_simp; (try (with_reducible rfl)))
        try simp only [Act.put, siA, scZ, scS]
        refine wpAnyH_take' (i := 1) (v := ?v1_t1) 87 rfl rfl (by kernel_rfl) (by kernel_rfl) (by kernel_rfl) (fun _ _ _ h => h) (Or.inl ⟨by kernel_rfl, ?hy1_t1⟩) (by assumption) ?rest1_t1
        case hy1_t1 => (intro W_ hS_; (try dsimp only at hS_); go_simp; (try (with_reducible rfl)))
        try simp only [Act.put, siA, scZ, scS]
        refine wpAnyH_take' (i := 2) (v := ?v2_t1) 88 rfl rfl (by kernel_rfl) (by kernel_rfl) (by kernel_rfl) (fun _ _ _ h => h) (Or.inl ⟨by kernel_rfl, ?hy2_t1⟩) (by assumption) ?rest2_t1
        case hy2_t1 => (intro W_ hS_; (try dsimp only at hS_); go_simp; (try (with_reducible rfl)))
        try simp only [Act.put, siA, scZ, scS]
        refine wpAnyH_take' (i := 3) (v := ?v3_t1) 89 rfl rfl (by kernel_rfl) (by kernel_rfl) (by kernel_rfl) (fun _ _ _ h => h) (Or.inl ⟨by kernel_rfl, ?hy3_t1⟩) (by assumption) ?rest3_t1
        case hy3_t1 => (intro W_ hS_; (try dsimp only at hS_); go_simp; (try (with_reducible rfl)))
        try simp only [Act.put, siA, scZ, scS]
        refine wpAnyH_take' (i := 4) (v := undef) 90 rfl rfl (by kernel_rfl) (by kernel_rfl) (by kernel_rfl) (fun _ _ _ h => h) (Or.inr ⟨by kernel_rfl, rfl⟩) (by assumption) ?_
        try simp only [Act.put, siA, scZ, scS]
        refine wpAnyH_take' (i := 5) (v := undef) 91 rfl rfl (by kernel_rfl) (by kernel_rfl) (by kernel_rfl) (fun _ _ _ h => h) (Or.inr ⟨by kernel_rfl, rfl⟩) (by assumption) ?_
        try simp only [Act.put, siA, scZ, scS]
        refine wpAnyH_take' (i := 6) (v := undef) 92 rfl rfl (by kernel_rfl) (by kernel_rfl) (by kernel_rfl) (fun _ _ _ h => h) (Or.inr ⟨by kernel_rfl, rfl⟩) (by assumption) ?_
        try simp only [Act.put, siA, scZ, scS]
        refine wpAnyH_take' (i := 7) (v := undef) 93 rfl rfl (by kernel_rfl) (by kernel_rfl) (by kernel_rfl) (fun _ _ _ h => h) (Or.inr ⟨by kernel_rfl, rfl⟩) (by assumption) ?_
        try simp only [Act.put, siA, scZ, scS]
        refine wpAnyH_take' (i := 8) (v := undef) 94 rfl rfl (by kernel_rfl) (by kernel_rfl) (by kernel_rfl) (fun _ _ _ h => h) (Or.inr ⟨by kernel_rfl, rfl⟩) (by assumption) ?_
        try simp only [Act.put, siA, scZ, scS]
        refine wpAnyH_take' (i := 9) (v := undef) 95 rfl rfl (by kernel_rfl) (by kernel_rfl) (by kernel_rfl) (fun _ _ _ h => h) (Or.inr ⟨by kernel_rfl, rfl⟩) (by assumption) ?_
        try simp only [Act.put, siA, scZ, scS]
        refine wpAnyH_take' (i := 10) (v := undef) 96 rfl rfl (by kernel_rfl) (by kernel_rfl) (by kernel_rfl) (fun _ _ _ h => h) (Or.inr ⟨by kernel_rfl, rfl⟩) (by assumption) ?_
        try simp only [Act.put, siA, scZ, scS]
        refine wpAnyH_take' (i := 11) (v := undef) 97 rfl rfl (by kernel_rfl) (by kernel_rfl) (by kernel_rfl) (fun _ _ _ h => h) (Or.inr ⟨by kernel_rfl, rfl⟩) (by assumption) ?_
        try simp only [Act.put, siA, scZ, scS]
        refine wpAnyH_skip (i := 12) 98 rfl rfl (by kernel_rfl) (by kernel_rfl) (by assumption) ?_
        try simp only [Act.put, siA, scZ, scS]
        refine wpAnyH_take' (i := 13) (v := undef) 99 rfl rfl (by kernel_rfl) (by kernel_rfl) (by kernel_rfl) (fun _ _ _ h => h) (Or.inr ⟨by kernel_rfl, rfl⟩) (by assumption) ?_
        try simp only [Act.put, siA, scZ, scS]
        refine wpAnyH_take' (i := 14) (v := ?v14_t1) 100 rfl rfl (by kernel_rfl) (by kernel_rfl) (by kernel_rfl) (fun _ _ _ h => h) (Or.inl ⟨by kernel_rfl, ?hy14_t1⟩) (by assumption) ?rest14_t1
        case hy14_t1 => (intro W_ hS_; (try dsimp only at hS_); go_simp; (try (with_reducible rfl)))
        try simp only [Act.put, siA, scZ, scS]
        refine wpAnyH_done (by kernel_rfl) ?_ _
        obtain ⟨w51, hw51⟩ : ∃ w51, wr.drew = w51 := ⟨_, rfl⟩
        have hB51 : Below wr.heap.size wr w51 := by rw [← hw51]; exact (below_drew1 _)
        rw [hw51]
        clear hw51
        have hT51 := below_then hT50 hB51
        have hu51 := NSl.to hu50 hB51
        have hv51 := NSl.to hv50 hB51
        have hAt51 := nat_to hAt50 hB51
        have hV51 := NIs.to hV50 hB51
        have hAx51 := nat_to hAx50 hB51
        have hVx51 := NIs.to hVx50 hB51
        clear hT50  hu50 hv50 hAt50 hV50 hAx50 hVx50 hB51
        go_wp2_with fail
        go_round
        case measure => simp [intOf]; omega
        exact ⟨j + 1, by omega, by go_num, hu51, hv51, hT51⟩
      have d1 : ((j : Int) != (kk : Int)) = true := by simp [bne]; omega
      have d2 : (j != kk) = true := by simp [bne]; omega
      have Hse := Lib.hid (show nd Ns3 j = nd Ns2 j by rw [← HNs3.out, ← HNs2.out]; exact slot_quiet Hs.out Hal.out (by rw [Hml.out]; exact hlt) hjk)
      clear hjk
      go_wp2_with fail
      refine wp_region_held_drew (S := fun W => (W.cell? (ad.add (j * 7)) = some (.slice m2.qa m2.qm m2.qc) ∧ W.cell? ⟨(ad.add (j * 7)).block, (ad.add (j * 7)).off + 1, none⟩ = some (.slice m2.la m2.lm m2.lc) ∧ W.cell? ⟨(ad.add (j * 7)).block, (ad.add (j * 7)).off + 2, none⟩ = some (.int .i64 m2.k.t) ∧ W.cell? ⟨(ad.add (j * 7)).block, (ad.add (j * 7)).off + 3, none⟩ = some (.int .i64 m2.k.r) ∧ W.cell? ⟨(ad.add (j * 7)).block, (ad.add (j * 7)).off + 4, none⟩ = some (.int .i64 m2.k.s) ∧ W.cell? ⟨(ad.add (j * 7)).block, (ad.add (j * 7)).off + 5, none⟩ = some (.int .i64 m2.k.q) ∧ W.cell? ⟨(ad.add (j * 7)).block, (ad.add (j * 7)).off + 6, none⟩ = some (.slice m2.ga m2.gm m2.gc)) ∧ (W.cell? (ad2.add (j * 7)) = some (.slice m3.qa m3.qm m3.qc) ∧ W.cell? ⟨(ad2.add (j * 7)).block, (ad2.add (j * 7)).off + 1, none⟩ = some (.slice m3.la m3.lm m3.lc) ∧ W.cell? ⟨(ad2.add (j * 7)).block, (ad2.add (j * 7)).off + 2, none⟩ = some (.int .i64 m3.k.t) ∧ W.cell? ⟨(ad2.add (j * 7)).block, (ad2.add (j * 7)).off + 3, none⟩ = some (.int .i64 m3.k.r) ∧ W.cell? ⟨(ad2.add (j * 7)).block, (ad2.add (j * 7)).off + 4, none⟩ = some (.int .i64 m3.k.s) ∧ W.cell? ⟨(ad2.add (j * 7)).block, (ad2.add (j * 7)).off + 5, none⟩ = some (.int .i64 m3.k.q) ∧ W.cell? ⟨(ad2.add (j * 7)).block, (ad2.add (j * 7)).off + 6, none⟩ = some (.slice m3.ga m3.gm m3.gc))) (by kernel_rfl) (by exact ⟨(nat_to hAt50 (below_drew1 _)), (nat_to hAx50 (below_drew1 _))⟩) (fun hHeld_ => ?_)
      refine wpAnyH_take' (i := 0) (v := ?v0_t2) 86 rfl rfl (by kernel_rfl) (by kernel_rfl) (by kernel_rfl) (fun _ _ _ h => h) (Or.inl ⟨by kernel_rfl, ?hy0_t2⟩) (by assumption) ?rest0_t2
      case hy0_t2 => (intro W_ hS_; (try dsimp only at hS_); go_simp; (try (with_reducible rfl)))
      try simp only [Act.put, siA, scZ, scS]
      refine wpAnyH_take' (i := 1) (v := ?v1_t2) 87 rfl rfl (by kernel_rfl) (by kernel_rfl) (by kernel_rfl) (fun _ _ _ h => h) (Or.inl ⟨by kernel_rfl, ?hy1_t2⟩) (by assumption) ?rest1_t2
      case hy1_t2 => (intro W_ hS_; (try dsimp only at hS_); go_simp; (try (with_reducible rfl)))
      try simp only [Act.put, siA, scZ, scS]
      refine wpAnyH_take' (i := 2) (v := ?v2_t2) 88 rfl rfl (by kernel_rfl) (by kernel_rfl) (by kernel_rfl) (fun _ _ _ h => h) (Or.inl ⟨by kernel_rfl, ?hy2_t2⟩) (by assumption) ?rest2_t2
      case hy2_t2 => (intro W_ hS_; (try dsimp only at hS_); go_simp; (try (with_reducible rfl)))
      try simp only [Act.put, siA, scZ, scS]
      refine wpAnyH_take' (i := 3) (v := ?v3_t2) 89 rfl rfl (by kernel_rfl) (by kernel_rfl) (by kernel_rfl) (fun _ _ _ h => h) (Or.inl ⟨by kernel_rfl, ?hy3_t2⟩) (by assumption) ?rest3_t2
      case hy3_t2 => (intro W_ hS_; (try dsimp only at hS_); go_simp; (try (with_reducible rfl)))
      try simp only [Act.put, siA, scZ, scS]
      refine wpAnyH_take' (i := 4) (v := ?v4_t2) 90 rfl rfl (by kernel_rfl) (by kernel_rfl) (by kernel_rfl) (fun _ _ _ h => h) (Or.inl ⟨by kernel_rfl, ?hy4_t2⟩) (by assumption) ?rest4_t2
      case hy4_t2 => (intro W_ hS_; (try dsimp only at hS_); go_simp; (try (with_reducible rfl)))
      try simp only [Act.put, siA, scZ, scS]
      refine wpAnyH_take' (i := 5) (v := ?v5_t2) 91 rfl rfl (by kernel_rfl) (by kernel_rfl) (by kernel_rfl) (fun _ _ _ h => h) (Or.inl ⟨by kernel_rfl, ?hy5_t2⟩) (by assumption) ?rest5_t2
      case hy5_t2 => (intro W_ hS_; (try dsimp only at hS_); go_simp; (try (with_reducible rfl)))
      try simp only [Act.put, siA, scZ, scS]
      refine wpAnyH_take' (i := 6) (v := ?v6_t2) 92 rfl rfl (by kernel_rfl) (by kernel_rfl) (by kernel_rfl) (fun _ _ _ h => h) (Or.inl ⟨by kernel_rfl, ?hy6_t2⟩) (by assumption) ?rest6_t2
      case hy6_t2 => (intro W_ hS_; (try dsimp only at hS_); go_simp; (try (with_reducible rfl)))
      try simp only [Act.put, siA, scZ, scS]
      refine wpAnyH_take' (i := 7) (v := ?v7_t2) 93 rfl rfl (by kernel_rfl) (by kernel_rfl) (by kernel_rfl) (fun _ _ _ h => h) (Or.inl ⟨by kernel_rfl, ?hy7_t2⟩) (by assumption) ?rest7_t2
      case hy7_t2 => (intro W_ hS_; (try dsimp only at hS_); go_simp; (try (with_reducible rfl)))
      try simp only [Act.put, siA, scZ, scS]
      refine wpAnyH_take' (i := 8) (v := ?v8_t2) 94 rfl rfl (by kernel_rfl) (by kernel_rfl) (by kernel_rfl) (fun _ _ _ h => h) (Or.inl ⟨by kernel_rfl, ?hy8_t2⟩) (by assumption) ?rest8_t2
      case hy8_t2 => (intro W_ hS_; (try dsimp only at hS_); go_simp; (try (with_reducible rfl)))
      try simp only [Act.put, siA, scZ, scS]
      refine wpAnyH_take' (i := 9) (v := ?v9_t2) 95 rfl rfl (by kernel_rfl) (by kernel_rfl) (by kernel_rfl) (fun _ _ _ h => h) (Or.inl ⟨by kernel_rfl, ?hy9_t2⟩) (by assumption) ?rest9_t2
      case hy9_t2 => (intro W_ hS_; (try dsimp only at hS_); go_simp; (try (with_reducible rfl)))
      try simp only [Act.put, siA, scZ, scS]
      refine wpAnyH_take' (i := 10) (v := ?v10_t2) 96 rfl rfl (by kernel_rfl) (by kernel_rfl) (by kernel_rfl) (fun _ _ _ h => h) (Or.inl ⟨by kernel_rfl, ?hy10_t2⟩) (by assumption) ?rest10_t2
      case hy10_t2 => (intro W_ hS_; (try dsimp only at hS_); go_simp; (try (with_reducible rfl)))
      try simp only [Act.put, siA, scZ, scS]
      refine wpAnyH_take' (i := 11) (v := ?v11_t2) 97 rfl rfl (by kernel_rfl) (by kernel_rfl) (by kernel_rfl) (fun _ _ _ h => h) (Or.inl ⟨by kernel_rfl, ?hy11_t2⟩) (by assumption) ?rest11_t2
      case hy11_t2 => (intro W_ hS_; (try dsimp only at hS_); go_simp; (try (with_reducible rfl)))
      try simp only [Act.put, siA, scZ, scS]
      refine wpAnyH_ready (rs := [12]) (by kernel_rfl) (by simp) ?_
      refine AllReadyH.cons rfl (fun K_ hK_ => ?_) AllReadyH.nil
      go_simp
      refine (same9_c (NIs.to hV50 (below_drew1 _)) (NIs.to hVx50 (below_drew1 _)) true (by show sameN (nd Ns2 j) (nd Ns3 j) = true; rw [Hse.out]; unfold sameN; simp)).mono ?_; rintro e wr12 ⟨rfl, hBr12⟩
      go_wp2_with fail
      refine hK_.out _ _ (by exact ⟨(nat_to (nat_to hAt50 (below_drew1 _)) hBr12), (nat_to (nat_to hAx50 (below_drew1 _)) hBr12)⟩) (fun hHeld_12 => ?_)
      clear hK_
      try simp only [Act.put, siA, scZ, scS]
      refine wpAnyH_take' (i := 13) (v := ?v13_t2) 99 rfl rfl (by kernel_rfl) (by kernel_rfl) (by kernel_rfl) (fun _ _ _ h => h) (Or.inl ⟨by kernel_rfl, ?hy13_t2⟩) (by assumption) ?rest13_t2
      case hy13_t2 => (intro W_ hS_; (try dsimp only at hS_); go_simp; (try (with_reducible rfl)))
      try simp only [Act.put, siA, scZ, scS]
      refine wpAnyH_take' (i := 14) (v := ?v14_t2) 100 rfl rfl (by kernel_rfl) (by kernel_rfl) (by kernel_rfl) (fun _ _ _ h => h) (Or.inl ⟨by kernel_rfl, ?hy14_t2⟩) (by assumption) ?rest14_t2
      case hy14_t2 => (intro W_ hS_; (try dsimp only at hS_); go_simp; (try (with_reducible rfl)))
      try simp only [Act.put, siA, scZ, scS]
      refine wpAnyH_done (by kernel_rfl) ?_ _
      obtain ⟨w51, hw51⟩ : ∃ w51, wr12 = w51 := ⟨_, rfl⟩
      have hB51 : Below wr.heap.size wr w51 := by rw [← hw51]; exact (below_then (below_drew1 _) hBr12)
      rw [hw51]
      clear hw51  hBr12
      have hT51 := below_then hT50 hB51
      have hu51 := NSl.to hu50 hB51
      have hv51 := NSl.to hv50 hB51
      have hAt51 := nat_to hAt50 hB51
      have hV51 := NIs.to hV50 hB51
      have hAx51 := nat_to hAx50 hB51
      have hVx51 := NIs.to hVx50 hB51
      clear hT50  hu50 hv50 hAt50 hV50 hAx50 hVx50 hB51
      go_wp2_with fail
      go_round
      case measure => simp [intOf]; omega
      exact ⟨j + 1, by omega, by go_num, hu51, hv51, hT51⟩
    obtain rfl : j = m1 := by omega
    have j1 : ¬ (j : Int) < (j : Int) := by omega
    go_wp2_with fail
    go_ret
    exact ⟨rfl, hT50⟩
end Go.Proofs.YtcifjccojmfpaaaGreat

