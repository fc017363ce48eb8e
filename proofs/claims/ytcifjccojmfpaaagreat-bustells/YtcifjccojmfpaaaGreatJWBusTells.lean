/-
  WBusTells.
-/
import Derived.Test.YtcifjccojmfpaaaGreatJ0
import Derived.Test.YtcifjccojmfpaaaGreatJ1
import Derived.Test.YtcifjccojmfpaaaGreatJ2
import Derived.Test.YtcifjccojmfpaaaGreatJ3
import Derived.Test.YtcifjccojmfpaaaGreatJ6
import Derived.Test.YtcifjccojmfpaaaGreatJ7
set_option maxRecDepth 100000
set_option maxHeartbeats 4000000
namespace Go.Proofs.YtcifjccojmfpaaaGreat
open Go.RowKit
set_option linter.unusedVariables false
set_option linter.unusedSimpArgs false
theorem busTells_any (hB : BusSlot) (hBs : BusSlots) (hHd : Head10) (A : Option Addr) (n c : Nat) (Ns : List NC) (B : Option Addr) (k0 d : Nat) (Hs : List (List Int)) (w : World) (h : NSl w (fun _ => True) A n c Ns) (hh : HSl w (fun _ => True) B k0 d Hs) :
    Calls Tryz.prog 3 #[.slice A n c, .slice B k0 d] w fun e w' => e = .returned (.bool true) ∧ Below w.heap.size w w' := by
  have hT0 : Below w.heap.size w w := Below.refl _ _
  go_enter Tryz.func3, Tryz.ntmps3
  go_wp2_with fail
  have hN0 := h.to hT0
  have hJ0 := hh.to hT0
  refine (hHd.run w).mono ?_
  rintro e w1 ⟨rfl, hB1⟩
  have hT1 := below_then hT0 hB1
  have hN1 := NSl.to hN0 hB1
  have hJ1 := HSl.to hJ0 hB1
  clear hT0  hN0 hJ0 hB1
  go_wp2_with fail
  refine (nodes10_c hN1 5 (by decide) (fun _ _ => trivial)).mono ?_
  rintro e w2 ⟨A1, m1, c1, Ms, rfl, hM_, hok, hm1, hm8, _, hB2⟩
  have hT2 := below_then hT1 hB2
  have hN2 := NSl.to hN1 hB2
  have hJ2 := HSl.to hJ1 hB2
  clear hT1  hN1 hJ1 hB2
  have hM2 := hM_
  clear hM_
  have Hok := Lib.hid hok
  clear hok
  clear hN2
  go_wp2_with fail
  refine (cut_c hJ2 20 (by decide) (fun _ _ => trivial)).mono ?_
  rintro e w3 ⟨B1, k1, d1, Ks, rfl, hK_, hk20, _, hks, hB3⟩
  have hT3 := below_then hT2 hB3
  have hJ3 := HSl.to hJ2 hB3
  have hM3 := NSl.to hM2 hB3
  clear hT2  hJ2 hM2 hB3
  have hK3 := hK_
  clear hK_
  have Hks := Lib.hid (show ∀ K ∈ Ks, K.length ≤ 1000 from fun K hK => Nat.le_trans (hks K hK) (by decide))
  have Hkl := Lib.hid hK3.len
  clear hks
  clear hJ3
  go_wp2_with fail
  refine (hBs.run hM3 Hok.out hm1 hm8 hK3 (by omega) Hks.out (fun _ _ => trivial)).mono ?_
  rintro e w4 ⟨A2, C2, c2, d2, rfl, ha_, hta_, hB4⟩
  have hT4 := below_then hT3 hB4
  have hM4 := NSl.to hM3 hB4
  have hK4 := HSl.to hK3 hB4
  clear hT3  hM3 hK3 hB4
  have ha4 := ha_
  clear ha_
  have hta4 := hta_
  clear hta_
  go_wp2_with fail
  refine (refSlots_c hM4 Hok.out (by omega) hK4 (by omega) Hks.out (fun _ _ => trivial)).mono ?_
  rintro e w5 ⟨A3, C3, c3, d3, rfl, hc_, htc_, hB5⟩
  have hT5 := below_then hT4 hB5
  have hM5 := NSl.to hM4 hB5
  have hK5 := HSl.to hK4 hB5
  have ha5 := NSl.to ha4 hB5
  have hta5 := TSl.to hta4 hB5
  clear hT4  hM4 hK4 ha4 hta4 hB5
  have hc5 := hc_
  clear hc_
  have htc5 := htc_
  clear htc_
  go_wp2_with fail
  refine (sameNs_c ha5 hc5 (by omega)).mono ?_
  rintro e w6 ⟨rfl, hB6⟩
  have hT6 := below_then hT5 hB6
  have hM6 := NSl.to hM5 hB6
  have hK6 := HSl.to hK5 hB6
  have ha6 := NSl.to ha5 hB6
  have hta6 := TSl.to hta5 hB6
  have hc6 := NSl.to hc5 hB6
  have htc6 := TSl.to htc5 hB6
  clear hT5  hM5 hK5 ha5 hta5 hc5 htc5 hB6
  go_wp2_with fail
  refine (sameTs_c hta6 htc6 (by omega)).mono ?_
  rintro e w7 ⟨rfl, hB7⟩
  have hT7 := below_then hT6 hB7
  have hM7 := NSl.to hM6 hB7
  have hK7 := HSl.to hK6 hB7
  have ha7 := NSl.to ha6 hB7
  have hta7 := TSl.to hta6 hB7
  have hc7 := NSl.to hc6 hB7
  have htc7 := TSl.to htc6 hB7
  clear hT6  hM6 hK6 ha6 hta6 hc6 htc6 hB7
  clear ha7
  clear hta7
  clear htc7
  clear hM7
  go_wp2_with fail
  have HokS := Lib.hid (show OkNs (slotsN Ms Ks) from slotsTo_ok Hok.out Ks _)
  obtain ⟨Ns2, hN2⟩ : ∃ N_, slotsN Ms Ks = N_ := ⟨_, rfl⟩
  rw [hN2] at HokS hc7
  clear hN2
  go_loopw [10] (fun i wr => ∃ (k : Nat), k ≤ k1 ∧ k ≤ 3 ∧ i = .int .i64 k ∧ NSl wr (fun _ => True) A3 m1 c3 Ns2 ∧ HSl wr (fun _ => True) B1 k1 d1 Ks ∧ Below w.heap.size w wr) (fun i _ => 3 - (intOf i).toNat)
  case atStart => exact ⟨0, Nat.zero_le _, Nat.zero_le _, rfl, hc7, hK7, hT7⟩
  case round =>
    clear hc7 hK7 hT7
    obtain ⟨k, hk, hk3, rfl, hc50, hK50, hT50⟩ := hrel
    by_cases hlt : k < k1
    rotate_left
    · skip
      have j1 : ¬ (k : Int) < (k1 : Int) := by omega
      go_wp2_with fail
      go_ret
      exact ⟨rfl, hT50⟩
    have j1 : (k : Int) < (k1 : Int) := by omega
    by_cases hlt3 : k < 3
    rotate_left
    · skip
      have j2 : ¬ (k : Int) < 3 := by omega
      go_wp2_with fail
      go_ret
      exact ⟨rfl, hT50⟩
    have j2 : (k : Int) < 3 := by omega
    obtain ⟨ad, x, ea_, hc_, hX50⟩ := HSl.at_ hK50 hlt
    obtain ⟨H, hH_⟩ : ∃ H_, Ks.getD k [] = H_ := ⟨_, rfl⟩
    rw [hH_] at hX50
    have HH := Lib.hid hH_
    clear hH_
    rw [Nat.mul_one] at hc_
    obtain rfl : B1 = some ad := ea_
    have hxm : x.m ≤ 1000 := by rw [← hX50.len, ← HH.out]; exact Hks.out _ (List.mem_of_getElem? (show Ks[k]? = some (Ks.getD k []) by simp [List.getD, List.getElem?_eq_getElem (show k < Ks.length by rw [Hkl.out]; exact hlt)]))
    have hce50 := hc_
    go_wp2_with fail
    clear hc_
    obtain ⟨Ns3, hNs3⟩ : ∃ q, slotN Ns2 H = q := ⟨_, rfl⟩
    have HNs3 := Lib.hid hNs3
    clear hNs3
    obtain ⟨T1, hT1⟩ : ∃ q, toldN lenZ Ns2 H = q := ⟨_, rfl⟩
    have HT1 := Lib.hid hT1
    clear hT1
    refine (hB.run hc50 HokS.out hm1 hm8 hX50.row hX50.len hxm (fun _ _ => trivial) Ns3 HNs3.out T1 HT1.out).mono ?_
    rintro e w51 ⟨A4, c4, t1, rfl, hu_, ht1_, hB51⟩
    have hT51 := below_then hT50 hB51
    have hc51 := NSl.to hc50 hB51
    have hK51 := HSl.to hK50 hB51
    have hX51 := HIs.to hX50 hB51
    have hce51 := hcell_to hce50 hB51
    clear hT50  hc50 hK50 hX50 hce50 hB51
    have hu51 := hu_
    clear hu_
    have ht151 := ht1_
    clear ht1_
    go_upto_region 12 with fail
    obtain ⟨w52, hw52⟩ : ∃ w52, w51.alloc (.cells #[.int .i64 t1.w, .bool t1.f.x, .int .i64 t1.f.i, .bool t1.f.r, .int .i64 t1.f.n, .slice t1.f.a t1.f.m t1.f.c, .bool t1.ok, .int .i64 t1.b] 36) = w52 := ⟨_, rfl⟩
    have hB52 : Below w51.heap.size w51 w52 := by rw [← hw52]; exact below_alloc1 _ _
    have hy52 : w52.heap[w51.heap.size]? = some (.cells #[.int .i64 t1.w, .bool t1.f.x, .int .i64 t1.f.i, .bool t1.f.r, .int .i64 t1.f.n, .slice t1.f.a t1.f.m t1.f.c, .bool t1.ok, .int .i64 t1.b] 36) := by rw [← hw52]; exact World.alloc_heap_new _ _
    rw [hw52]
    clear hw52
    have hT52 := below_then hT51 hB52
    have hc52 := NSl.to hc51 hB52
    have hK52 := HSl.to hK51 hB52
    have hX52 := HIs.to hX51 hB52
    have hce52 := hcell_to hce51 hB52
    have hu52 := NSl.to hu51 hB52
    have ht152 := TIs.to ht151 hB52
    clear hT51  hc51 hK51 hX51 hce51 hu51 ht151 hB52
    have hc_ := hce52
    go_wp2_with fail
    clear hc_
    refine (refSlot_c hc52 HokS.out (by omega) hX52.row hX52.len hxm (fun _ _ => trivial) Ns3 HNs3.out T1 HT1.out).mono ?_
    rintro e w53 ⟨A5, c5, t2, rfl, hv_, ht2_, hB53⟩
    have hT53 := below_then hT52 hB53
    have hy53 := block_below hB53 hy52
    have hc53 := NSl.to hc52 hB53
    have hK53 := HSl.to hK52 hB53
    have hX53 := HIs.to hX52 hB53
    have hce53 := hcell_to hce52 hB53
    have hu53 := NSl.to hu52 hB53
    have ht153 := TIs.to ht152 hB53
    clear hT52 hy52 hc52 hK52 hX52 hce52 hu52 ht152 hB53
    have hv53 := hv_
    clear hv_
    have ht253 := ht2_
    clear ht2_
    have hly := (Array.getElem?_eq_some_iff.1 hy53).1
    obtain ⟨yc0, yc1, yc2, yc3, yc4, yc5, yc6, yc7⟩ := cells8' hy53
    go_wp2_with fail
    clear hly yc0 yc1 yc2 yc3 yc4 yc5 yc6 yc7
    obtain ⟨w54, hw54⟩ : ∃ w54, w53.alloc (.cells #[.int .i64 t2.w, .bool t2.f.x, .int .i64 t2.f.i, .bool t2.f.r, .int .i64 t2.f.n, .slice t2.f.a t2.f.m t2.f.c, .bool t2.ok, .int .i64 t2.b] 36) = w54 := ⟨_, rfl⟩
    have hB54 : Below w53.heap.size w53 w54 := by rw [← hw54]; exact below_alloc1 _ _
    have hz54 : w54.heap[w53.heap.size]? = some (.cells #[.int .i64 t2.w, .bool t2.f.x, .int .i64 t2.f.i, .bool t2.f.r, .int .i64 t2.f.n, .slice t2.f.a t2.f.m t2.f.c, .bool t2.ok, .int .i64 t2.b] 36) := by rw [← hw54]; exact World.alloc_heap_new _ _
    rw [hw54]
    clear hw54
    have hT54 := below_then hT53 hB54
    have hy54 := block_below hB54 hy53
    have hc54 := NSl.to hc53 hB54
    have hK54 := HSl.to hK53 hB54
    have hX54 := HIs.to hX53 hB54
    have hce54 := hcell_to hce53 hB54
    have hu54 := NSl.to hu53 hB54
    have ht154 := TIs.to ht153 hB54
    have hv54 := NSl.to hv53 hB54
    have ht254 := TIs.to ht253 hB54
    clear hT53 hy53 hc53 hK53 hX53 hce53 hu53 ht153 hv53 ht253 hB54
    refine (sameNs_c hu54 hv54 (by omega)).mono ?_
    rintro e w55 ⟨rfl, hB55⟩
    have hT55 := below_then hT54 hB55
    have hy55 := block_below hB55 hy54
    have hz55 := block_below hB55 hz54
    have hc55 := NSl.to hc54 hB55
    have hK55 := HSl.to hK54 hB55
    have hX55 := HIs.to hX54 hB55
    have hce55 := hcell_to hce54 hB55
    have hu55 := NSl.to hu54 hB55
    have ht155 := TIs.to ht154 hB55
    have hv55 := NSl.to hv54 hB55
    have ht255 := TIs.to ht254 hB55
    clear hT54 hy54 hz54 hc54 hK54 hX54 hce54 hu54 ht154 hv54 ht254 hB55
    have hly := (Array.getElem?_eq_some_iff.1 hy55).1
    obtain ⟨yc0, yc1, yc2, yc3, yc4, yc5, yc6, yc7⟩ := cells8' hy55
    have hlz := (Array.getElem?_eq_some_iff.1 hz55).1
    obtain ⟨zc0, zc1, zc2, zc3, zc4, zc5, zc6, zc7⟩ := cells8' hz55
    go_wp2_with fail
    clear hly yc0 yc1 yc2 yc3 yc4 yc5 yc6 yc7 hlz zc0 zc1 zc2 zc3 zc4 zc5 zc6 zc7
    refine (sameT_c ht155 ht255).mono ?_
    rintro e w56 ⟨rfl, hB56⟩
    have hT56 := below_then hT55 hB56
    have hy56 := block_below hB56 hy55
    have hz56 := block_below hB56 hz55
    have hc56 := NSl.to hc55 hB56
    have hK56 := HSl.to hK55 hB56
    have hX56 := HIs.to hX55 hB56
    have hce56 := hcell_to hce55 hB56
    have hu56 := NSl.to hu55 hB56
    have ht156 := TIs.to ht155 hB56
    have hv56 := NSl.to hv55 hB56
    have ht256 := TIs.to ht255 hB56
    clear hT55 hy55 hz55 hc55 hK55 hX55 hce55 hu55 ht155 hv55 ht255 hB56
    have hly := (Array.getElem?_eq_some_iff.1 hy56).1
    obtain ⟨yc0, yc1, yc2, yc3, yc4, yc5, yc6, yc7⟩ := cells8' hy56
    have hlz := (Array.getElem?_eq_some_iff.1 hz56).1
    obtain ⟨zc0, zc1, zc2, zc3, zc4, zc5, zc6, zc7⟩ := cells8' hz56
    go_wp2_with fail
    clear hly yc0 yc1 yc2 yc3 yc4 yc5 yc6 yc7 hlz zc0 zc1 zc2 zc3 zc4 zc5 zc6 zc7
    go_round
    case measure => simp [intOf]; omega
    exact ⟨k + 1, by omega, by omega, by go_num, hc56, hK56, hT56⟩
end Go.Proofs.YtcifjccojmfpaaaGreat

