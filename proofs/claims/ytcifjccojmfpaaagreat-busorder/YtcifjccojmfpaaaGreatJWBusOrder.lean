/-
  WBusOrder.
-/
import Derived.Test.YtcifjccojmfpaaaGreatJ0
import Derived.Test.YtcifjccojmfpaaaGreatJ1
import Derived.Test.YtcifjccojmfpaaaGreatJ2
import Derived.Test.YtcifjccojmfpaaaGreatJ3
import Derived.Test.YtcifjccojmfpaaaGreatJ4
import Derived.Test.YtcifjccojmfpaaaGreatJ5
import Derived.Test.YtcifjccojmfpaaaGreatJ8
import Derived.Test.YtcifjccojmfpaaaGreatJ9
import Derived.Test.YtcifjccojmfpaaaGreatJ10
import Derived.Test.YtcifjccojmfpaaaGreatJ11
set_option maxRecDepth 100000
set_option maxHeartbeats 4000000
namespace Go.Proofs.YtcifjccojmfpaaaGreat
open Go.RowKit
set_option linter.unusedVariables false
set_option linter.unusedSimpArgs false
theorem neq_c (t r s q t' r' s' q' : Int) (w : World) :
    (binOp .neq 47 (.agg #[.int .i64 t, .int .i64 r, .int .i64 s, .int .i64 q]) (.agg #[.int .i64 t', .int .i64 r', .int .i64 s', .int .i64 q'])).run Tryz.prog w = .ok (.bool (!sameC ⟨t, r, s, q⟩ ⟨t', r', s', q'⟩)) w := by
  rw [run_neq_struct, eqIn_c]
  rfl
theorem neq_new (w : World) : (binOp .neq 47 (.agg #[.int .i64 0, .int .i64 0, .int .i64 1, .int .i64 0]) (.agg #[.int .i64 0, .int .i64 0, .int .i64 1, .int .i64 0])).run Tryz.prog w = .ok (.bool false) w := by
  rw [neq_c]; rfl
theorem gown_freshN {w : World} {base g n cap : Nat} {ns : List NV} (h : NOwn w base (some ⟨g, 0, none⟩) n cap ns) {k : Nat} {x : NV} (hk : ns[k]? = some x) :
    NOwn ((((w.setCell ⟨g, k * 7 + 2, none⟩ (.int .i64 0)).setCell ⟨g, k * 7 + 3, none⟩ (.int .i64 0)).setCell ⟨g, k * 7 + 4, none⟩ (.int .i64 1)).setCell ⟨g, k * 7 + 5, none⟩ (.int .i64 0)) base (some ⟨g, 0, none⟩) n cap (ns.set k { x with k := newV }) := by
  have hl : k < ns.length := (List.getElem?_eq_some_iff.1 hk).1
  have at_ : ∀ v : NV, (ns.set k v)[k]? = some v := fun v => by simp [List.getElem?_set, hl]
  have h1 := gown_set1 shN h hk (v' := { x with k := ⟨0, x.k.r, x.k.s, x.k.q⟩ }) (j := 2) (u := .int .i64 0) rfl (by decide)
  have h2 := gown_set1 shN h1 (at_ _) (v' := { x with k := ⟨0, 0, x.k.s, x.k.q⟩ }) (j := 3) (u := .int .i64 0) rfl (by decide)
  simp only [List.set_set] at h2
  have h3 := gown_set1 shN h2 (at_ _) (v' := { x with k := ⟨0, 0, 1, x.k.q⟩ }) (j := 4) (u := .int .i64 1) rfl (by decide)
  simp only [List.set_set] at h3
  have h4 := gown_set1 shN h3 (at_ _) (v' := { x with k := ⟨0, 0, 1, 0⟩ }) (j := 5) (u := .int .i64 0) rfl (by decide)
  simp only [List.set_set] at h4
  exact h4
theorem fr_ok {Ms : List NC} (h : ∀ N ∈ Ms, OkN N ∧ N.q.length ≤ 4) (k : Nat) : OkNs (frTo Ms k) := by
  refine ⟨fun N hN => ?_⟩
  obtain ⟨i, hi, e⟩ := List.getElem_of_mem hN
  have hi2 : i < Ms.length := by rw [frTo_len] at hi; exact hi
  have e2 : nd (frTo Ms k) i = N := by simp [nd, List.getD, List.getElem?_eq_getElem hi, e]
  obtain ⟨h1, h2, h3, h4⟩ := frTo_at Ms k i hi2
  rw [e2] at h1 h2 h3 h4
  have ho := (h _ (nd_mem hi2)).1
  refine ⟨by rw [h1]; exact ho.q, by rw [h1]; exact ho.qm, by rw [h2]; exact ho.g, by rw [h2]; exact ho.gm, by rw [h3]; exact ho.l, by rw [h3]; exact ho.lm, ?_⟩
  rw [h4]
  split
  · exact ok_new
  · exact ho.k
theorem sum_bound {Ms : List NC} (h : ∀ N ∈ Ms, OkN N ∧ N.q.length ≤ 4) {k : Nat} (hk : k ≤ Ms.length) : sumQ Ms k ≤ k * 4 := sumQ_le (fun i hi => (h _ (nd_mem hi)).2) k hk
theorem w64_add (a b : Nat) (ha : a ≤ 1000) (hb : b ≤ 1000) : wrap64 ((a : Int) + (b : Int)) = (a : Int) + (b : Int) := by unfold wrap64; omega
theorem wi_add (a b : Nat) (ha : a ≤ 1000) (hb : b ≤ 1000) : IntKind.i64.wrap ((a : Int) + (b : Int)) = (a : Int) + (b : Int) := by rw [IntKind.wrap_i64]; omega
theorem w64_one (a : Nat) (ha : a ≤ 1000) : wrap64 ((a : Int) + 1) = ((a + 1 : Nat) : Int) := by unfold wrap64; omega
theorem w64_pred (a : Nat) (ha : a ≤ 1000) (h0 : 0 < a) : wrap64 ((a : Int) - 1) = ((a - 1 : Nat) : Int) := by unfold wrap64; omega
theorem wi_pred (a : Nat) (ha : a ≤ 1000) (h0 : 0 < a) : IntKind.i64.wrap ((a : Int) - 1) = ((a - 1 : Nat) : Int) := by rw [IntKind.wrap_i64]; omega
theorem tolds_getD (Ns : List NC) (M : Nat) {k : Nat} (h : k < M) : (toldsN Ns (List.replicate M [])).getD k zeroT = toldK Ns M k := by
  unfold toldsN
  rw [List.length_replicate, List.getD, tolds_at Ns M M k h]; rfl
theorem rep_leO (k : Nat) : ∀ H ∈ List.replicate k ([] : List Int), H.length ≤ 1000 := fun H h => by rw [List.eq_of_mem_replicate h]; exact Nat.zero_le _
theorem busOrder_any (hHd : Head10) (A : Option Addr) (n c : Nat) (Ns : List NC) (w : World) (h : NSl w (fun _ => True) A n c Ns) :
    Calls Tryz.prog 6 #[.slice A n c] w fun e w' => e = .returned (.bool true) ∧ Below w.heap.size w w' := by
  go_enter Tryz.func6, Tryz.ntmps6
  go_wp2_with fail
  refine (hHd.run w).mono ?_
  rintro e w1 ⟨rfl, hT1⟩
  go_wp2_with fail
  refine (nodesO_c (Q := fun _ => True) (h.to hT1) 4 (by decide) (fun _ _ => trivial)).mono ?_
  rintro e w2 ⟨A1, m1, c1, ns1, Ms1, rfl, hO2, hA2, hms, hm1, hm8, hB2⟩
  have hT2 := below_then hT1 hB2
  have hwS : w.heap.size ≤ w1.heap.size := hT1.size
  obtain ⟨S, hS_⟩ : ∃ S, w1.heap.size = S := ⟨_, rfl⟩
  rw [hS_] at hO2 hwS
  clear hS_ hB2 hT1 h
  go_upto_if 16 with fail
  go_cut [0] from 17 to 22 (fun o wc => ∃ (A2 : Option Addr) (m c2 : Nat) (ns : List NV) (Ms : List NC), o = .slice A2 m c2 ∧ 2 ≤ m ∧ m ≤ 8 ∧ NOwn wc S A2 m c2 ns ∧ NsIs wc (Off (fun _ => True) ([] ++ ownL A2)) ns Ms ∧ (∀ N ∈ Ms, OkN N ∧ N.q.length ≤ 4) ∧ Below w.heap.size w wc)
  case first =>
    by_cases h1 : m1 = 1
    · skip
      subst h1
      have hl1 : ns1.length = 1 := GOwn.len shN hO2
      obtain ⟨x, rfl⟩ : ∃ x, ns1 = [x] := List.length_eq_one_iff.1 hl1
      obtain ⟨N, rfl⟩ : ∃ N, Ms1 = [N] := List.length_eq_one_iff.1 (hA2.1.symm.trans hl1)
      have hX : NIs w2 _ x N := hA2.2 0 x N rfl rfl
      obtain ⟨ad, rfl, -, ht_⟩ := (GRow.own shN hO2).at_lt shN (k := 0) (v := x) rfl
      have ht2 := nat_of ht_
      rw [Nat.zero_mul, add_zero] at ht2
      obtain ⟨t0, t1, t2, t3, t4, t5, t6⟩ := ht2
      clear ht_ hl1
      have hOx : NOwn (w2.alloc (.cells #[.slice x.qa x.qm x.qc, .slice x.la x.lm x.lc, .int .i64 x.k.t, .int .i64 x.k.r, .int .i64 x.k.s, .int .i64 x.k.q, .slice x.ga x.gm x.gc] 49)) S (some ad) 1 c1 [x] := GOwn.to hO2 (below_alloc1 _ _)
      have hAx : NsIs (w2.alloc (.cells #[.slice x.qa x.qm x.qc, .slice x.la x.lm x.lc, .int .i64 x.k.t, .int .i64 x.k.r, .int .i64 x.k.s, .int .i64 x.k.q, .slice x.ga x.gm x.gc] 49)) (Off (fun _ => True) ([] ++ ownL (some ad))) [x] [N] := NsIs.to hA2 (below_alloc1 _ _)
      have hSx : S ≤ (w2.alloc (.cells #[.slice x.qa x.qm x.qc, .slice x.la x.lm x.lc, .int .i64 x.k.t, .int .i64 x.k.r, .int .i64 x.k.s, .int .i64 x.k.q, .slice x.ga x.gm x.gc] 49)).heap.size := by have h1 := (below_alloc1 w2 (.cells #[.slice x.qa x.qm x.qc, .slice x.la x.lm x.lc, .int .i64 x.k.t, .int .i64 x.k.r, .int .i64 x.k.s, .int .i64 x.k.q, .slice x.ga x.gm x.gc] 49)).size; have h2 := gown_ge hO2 ad.block (by simp [ownL]); have h3 := gown_lt hO2 ad.block (by simp [ownL]); omega
      have hTx := below_then hT2 (below_alloc1 w2 (.cells #[.slice x.qa x.qm x.qc, .slice x.la x.lm x.lc, .int .i64 x.k.t, .int .i64 x.k.r, .int .i64 x.k.s, .int .i64 x.k.q, .slice x.ga x.gm x.gc] 49))
      go_wp2_with (at_builtin; refine wpList_append_g shN Tryz.infoN _ rfl _ _ rfl S (some ad) 1 c1 [x] rfl hOx _ 1 _ _ [x] rfl rfl (GRow.lit w2 [x] rfl rfl) (by omega) hSx ?_; intro A3 c3 w3 hO3 hc3 hg3 he3 hB3)
      go_meet
      exact ⟨A3, 2, c3, _, _, rfl, by decide, by decide, hO3, AllIs.append (nsis_off hAx hg3 he3) (nsis_off hAx hg3 he3), (fun M hM => have h_ := hms M (by simpa using hM); ⟨h_.1, h_.2.1⟩), hTx.trans (hB3.mono hwS)⟩
    · skip
      have d0 : ((m1 : Int) == 1) = false := by simp; omega
      have d1 : (m1 == 1) = false := by simp; omega
      go_wp2_with fail
      go_meet
      exact ⟨A1, m1, c1, ns1, Ms1, rfl, by omega, hm8, hO2, hA2, (fun M hM => ⟨(hms M hM).1, (hms M hM).2.1⟩), hT2⟩
  case rest =>
  clear hO2 hA2 hms hm1 hm8 hT2
  obtain ⟨A2, m, c2, ns, Ms, rfl, hm2, hm8, hO3, hA3, hms, hT3⟩ := hcut
  obtain ⟨w3, e_⟩ : ∃ w_, w_ = wc := ⟨_, rfl⟩
  subst e_
  have Hms := Lib.hid hms
  clear hms
  have Hml := Lib.hid (show Ms.length = m by rw [← hA3.1]; exact GOwn.len shN hO3)
  obtain ⟨g, rfl, hgS, hgl⟩ := gown_some shN hO3 (by omega)
  go_wp2_with fail
  go_loopw [4, 5] (fun q i wr => ∃ (k : Nat) (ns : List NV), k ≤ m ∧ i = .int .i64 k ∧ q = .int .i64 (sumQ Ms k : Nat) ∧ NOwn wr S (some ⟨g, 0, none⟩) m c2 ns ∧ NsIs wr (Off (fun _ => True) ([] ++ ownL (some ⟨g, 0, none⟩))) ns (frTo Ms k) ∧ Below w.heap.size w wr) (fun _ i _ => m - (intOf i).toNat)
  case atStart => exact ⟨0, ns, Nat.zero_le _, rfl, rfl, hO3, hA3, hT3⟩
  case round =>
    clear hO3 hA3 hT3 hgl ns
    obtain ⟨k, ns, hk, rfl, rfl, hO50, hA50, hT50⟩ := hrel
    by_cases hlt : k < m
    · skip
      have j1 : (k : Int) < (m : Int) := by omega
      have hkl : k < ns.length := by rw [GOwn.len shN hO50]; exact hlt
      obtain ⟨x, hx⟩ : ∃ x, ns[k]? = some x := ⟨_, List.getElem?_eq_getElem hkl⟩
      have Hx := Lib.hid hx
      clear hx
      have k1 : m ≤ c2 := GOwn.cap hO50
      go_wp2_with fail
      refine (refNew_lit2 wr).mono ?_
      rintro e w51 ⟨rfl, hB51⟩
      have hO51 := GOwn.to hO50 hB51
      have hA51 := NsIs.to hA50 hB51
      have hT51 := below_then hT50 hB51
      clear hO50 hA50 hT50 hB51
      obtain ⟨z2, f2⟩ := gown_cell shN hO51 Hx.out (j := 2) (u := .int .i64 x.k.t) rfl
      obtain ⟨z3, f3⟩ := gown_cell shN hO51 Hx.out (j := 3) (u := .int .i64 x.k.r) rfl
      obtain ⟨z4, f4⟩ := gown_cell shN hO51 Hx.out (j := 4) (u := .int .i64 x.k.s) rfl
      obtain ⟨z5, f5⟩ := gown_cell shN hO51 Hx.out (j := 5) (u := .int .i64 x.k.q) rfl
      go_upto_region 10 with fail
      clear z2 z3 z4 z5 f2 f3 f4 f5
      obtain ⟨w52, hw52⟩ : ∃ w_, ((((w51.setCell ⟨g, k * 7 + 2, none⟩ (.int .i64 0)).setCell ⟨g, k * 7 + 3, none⟩ (.int .i64 0)).setCell ⟨g, k * 7 + 4, none⟩ (.int .i64 1)).setCell ⟨g, k * 7 + 5, none⟩ (.int .i64 0)) = w_ := ⟨_, rfl⟩
      have hG52 : w51.grownBy w52 (some g) := by rw [← hw52]; exact (((grown_setAt w51 g _ _).trans (grown_setAt _ g _ _)).trans (grown_setAt _ g _ _)).trans (grown_setAt _ g _ _)
      have hO52 : NOwn w52 S (some ⟨g, 0, none⟩) m c2 (ns.set k { x with k := newV }) := by rw [← hw52]; exact gown_freshN hO51 Hx.out
      rw [hw52]
      clear hw52
      have hA52 : NsIs w52 (Off (fun _ => True) ([] ++ ownL (some ⟨g, 0, none⟩))) (ns.set k { x with k := newV }) (frTo Ms (k + 1)) := by
        have h1 := NsIs.grow hA51 hG52 (off_not (by simp [ownL]))
        have h2 : NIs w52 _ x (nd (frTo Ms k) k) := h1.2 k x _ Hx.out (nd_get (by rw [frTo_len, Hml.out]; exact hlt))
        rw [frTo]
        exact h1.set k ⟨h2.q, h2.l, rfl, h2.g⟩
      have hT52 : Below w.heap.size w w52 := below_g hT51 hG52 (by omega)
      have hqx : x.qm = (nd Ms k).q.length := by
        have h2 : NIs w51 _ x (nd (frTo Ms k) k) := hA51.2 k x _ Hx.out (nd_get (by rw [frTo_len, Hml.out]; exact hlt))
        rw [← h2.q.len, (frTo_at Ms k k (by rw [Hml.out]; exact hlt)).1]
      have hs1 := sum_bound Hms.out (k := k) (by rw [Hml.out]; omega)
      have hq4 : x.qm ≤ 4 := by rw [hqx]; exact (Hms.out _ (nd_mem (by rw [Hml.out]; exact hlt))).2
      have hb1 : sumQ Ms k ≤ 1000 := by omega
      have hb2 : x.qm ≤ 1000 := by omega
      have hw4 := w64_add (sumQ Ms k) x.qm hb1 hb2
      have hi4 := wi_add (sumQ Ms k) x.qm hb1 hb2
      clear hb1 hb2
      have Hs := Lib.hid (show sumQ Ms k + x.qm = sumQ Ms (k + 1) by rw [hqx]; rfl)
      clear hA51 hO51 hT51 hG52 hqx hs1
      obtain ⟨z0, f0⟩ := gown_cell shN hO52 (k := k) (v := { x with k := newV }) (by simp [List.getElem?_set, hkl]) (j := 0) (u := .slice x.qa x.qm x.qc) rfl
      rw [Nat.add_zero] at z0
      clear f0
      go_wp2_with fail
      clear z0 hw4 hi4
      go_round
      case measure => simp [intOf]; omega
      exact ⟨k + 1, _, by omega, by go_num, by rw [← Hs.out, Int.natCast_add], hO52, hA52, hT52⟩
    obtain rfl : k = m := by omega
    have j1 : ¬ (k : Int) < (k : Int) := by omega
    have hN50 : NSl wr (fun _ => True) (some ⟨g, 0, none⟩) k c2 (frTo Ms k) := NSl.own hO50 (NsIs.mono hA50 off_base) (by omega) (fun _ _ => trivial)
    clear hO50 hA50
    have HokF := Lib.hid (fr_ok Hms.out k)
    obtain ⟨Q, hQ_⟩ : ∃ Q, sumQ Ms k = Q := ⟨_, rfl⟩
    have hQ32 : Q ≤ 32 := by have h1 := sum_bound Hms.out (k := k) (by rw [Hml.out]; exact Nat.le_refl _); omega
    obtain ⟨Ls, hLs_⟩ : ∃ L, apartTo (frTo Ms k) k = L := ⟨_, rfl⟩
    have Hap := Lib.hid (show Apt Ls by rw [← hLs_, ← Hml.out]; exact ordN_apt (fun N hN => (Hms.out N hN).1) (by rw [Hml.out]; omega) (by rw [Hml.out]; omega))
    have HLl := Lib.hid (show Ls.length = k by rw [← hLs_]; exact apartTo_len _ _)
    have HQ := Lib.hid (show manyQ Ls = Q by rw [← hLs_, ← hQ_, ← Hml.out, sumQ_many]; exact ordN_many Ms)
    rw [hQ_]
    have HLs := Lib.hid hLs_
    clear hQ_ hLs_
    go_wp2_with fail
    refine (apart_c (P := (fun _ => True)) hN50 HokF.out hm8 (fun _ _ => trivial)).mono ?_
    rintro e w51 ⟨A3, c3, rfl, hN_, hB51⟩
    have hT51 := below_then hT50 hB51
    rw [show apartTo (frTo Ms k) k = Ls from HLs.out] at hN_
    clear hT50 hN50 hB51 HokF
    obtain ⟨M1, hM1_⟩ : ∃ M1, Q + 1 = M1 := ⟨_, rfl⟩
    have hM33 : M1 ≤ 33 := by omega
    have hMQ : Q < M1 := by omega
    have hm1000 : M1 ≤ 1000 := by omega
    have hMi : (M1 : Int) = (Q : Int) + 1 := by omega
    have hmk : ∀ w : World, (Instr.makeSlice 23 (.int .i64 ((Q : Int) + 1)) (.int .i64 ((Q : Int) + 1))).run Tryz.prog w = .ok (.slice (some ⟨w.heap.size, 0, none⟩) M1 M1) (w.alloc (.cells (gcells HV.cs (List.replicate M1 zeroHV)).toArray 41)) := fun w => by have h_ := Tryz.makeH M1 hm1000 w; rw [hMi] at h_; exact h_
    have d8 : ((M1 : Int) != (Q : Int) + 1) = false := by rw [hMi]; simp
    have d9 : ¬ ((M1 : Int) ≠ (Q : Int) + 1) := fun h => h hMi
    clear hMi hm1000
    have hQ1000 : Q ≤ 1000 := by omega
    have HM1 := Lib.hid hM1_
    have k2 : (Q : Int) < (M1 : Int) := by omega
    have hw1 : wrap64 ((Q : Int) + 1) = (M1 : Int) := by rw [← hM1_]; exact w64_one Q hQ1000
    clear hM1_ hQ1000
    skip
    go_wp2_with fail
    have hM100 : M1 ≤ 100 := Nat.le_trans hM33 (by decide)
    have hB52 := below_alloc1 w51 (.cells (gcells HV.cs (List.replicate M1 zeroHV)).toArray 41)
    have hN52 := NSl.to hN_ hB52
    have hT52 := below_then hT51 hB52
    refine (slots_c (P := (fun _ => True)) hN52 Hap.out.ok (Nat.le_trans (by decide) hm2) hm8 (hsl_make (P := (fun _ => True)) M1) hM100 (rep_leO M1) (fun _ _ => trivial)).mono ?_
    rintro e w53 ⟨A4, B4, c4, d4, rfl, hm_, ht_, hB53⟩
    have hT53 := below_then hT52 hB53
    have hm53 := hm_
    have ht53 := ht_
    clear hT51 hT52 hN_ hN52 hm_ ht_ hB53 hB52 hmk
    obtain ⟨ad, y, ea_, hy_, hY_⟩ := TSl.at_ ht53 (k := Q) hMQ
    subst ea_
    rw [tolds_getD Ls M1 hMQ] at hY_
    obtain ⟨yw, yf, yok, yb⟩ := y
    have hl_ := (apt_last Hap.out M1).1
    rw [HQ.out] at hl_
    obtain rfl : yw = -1 := hY_.win.trans hl_
    clear hY_ hl_
    obtain ⟨t0, t1, t2, t3, t4, t5, t6, t7⟩ := hy_
    dsimp only at t0 t1 t2 t3 t4 t5 t6 t7
    skip
    go_wp2_with fail
    clear t0 t1 t2 t3 t4 t5 t6 t7 hw1
    go_loopw [8, 9] (fun i v wr => ∃ (j : Nat), j ≤ Q ∧ i = .int .i64 j ∧ NSl wr (fun _ => True) A4 k c4 (slotsN Ls (List.replicate M1 [])) ∧ TSl wr (fun _ => True) (some ad) M1 d4 (toldsN Ls (List.replicate M1 [])) ∧ Below w.heap.size w wr) (fun i _ _ => Q - (intOf i).toNat)
    case atStart => exact ⟨0, Nat.zero_le _, rfl, hm53, ht53, hT53⟩
    case round =>
      clear hm53 ht53 hT53
      obtain ⟨j, hj, rfl, hm60, ht60, hT60⟩ := hrel
      by_cases hlt : j < Q
      · skip
        have j1 : (j : Int) < (Q : Int) := by omega
        have j4 : (j : Int) < (M1 : Int) := by omega
        obtain ⟨ad2, y, ea_, hy60, hY60⟩ := TSl.at_ ht60 (k := j) (by omega)
        obtain rfl : ad = ad2 := Option.some.inj ea_
        clear ea_
        rw [tolds_getD Ls M1 (show j < M1 by omega)] at hY60
        obtain ⟨F, hF_⟩ : ∃ F, (toldK Ls M1 j).f = F := ⟨_, rfl⟩
        obtain ⟨a, ha1, ha2, ha3, ha4, ha5⟩ := apt_told Hap.out M1 (k := j) (by rw [HQ.out]; exact hlt)
        rw [hF_] at ha4 ha5
        obtain ⟨yw, yf, yok, yb⟩ := y
        obtain rfl : yw = a := hY60.win.trans ha3
        obtain rfl : yok = true := hY60.ok.trans ha2
        have hff : FIs wr (fun _ => True) yf F := hF_ ▸ hY60.f
        have HF := Lib.hid hF_
        rw [HLl.out] at ha1
        have j2 : ¬ (a : Int) < 0 := by omega
        have j3 : ¬ (k : Int) ≤ (a : Int) := by omega
        have HFr := Lib.hid ha5
        clear ha2 ha3 hF_ hY60
        obtain ⟨U, hU1, hU2⟩ := okC_of HFr.out
        have hUlt : U < 536870912 := by unfold idOk at hU2; split at hU2 <;> omega
        have hyi : yf.i = (U : Int) := hff.i.trans hU1
        have ha7 : bits .and .i64 (U : Int) 7 = (a : Int) := by rw [and7 U (by omega)]; rw [hU1] at ha4; omega
        clear hU1 hU2 ha4 ha5
        obtain ⟨yx, yi, yr, yn, ya, ym, yc⟩ := yf
        dsimp only at hyi
        subst hyi
        obtain ⟨t0, t1, t2, t3, t4, t5, t6, t7⟩ := hy60
        dsimp only at t0 t1 t2 t3 t4 t5 t6 t7
        have hAy := Lib.hid (show TAt wr (ad.add (j * 8)) ⟨a, ⟨yx, U, yr, yn, ya, ym, yc⟩, true, yb⟩ from ⟨t0, t1, t2, t3, t4, t5, t6, t7⟩)
        go_upto_region 19 with fail
        clear t0 t1 t2 t3 t4 t5 t6 t7
        have hy60 := hAy.out
        have hff60 := hff
        clear hff
        by_cases hj0 : 0 < j
        rotate_left
        · skip
          have j5 : ¬ (0 : Int) < (j : Int) := by omega
          refine wp_region_held_drew (S := fun W => (W.cell? (ad.add (j * 8)) = some (.int .i64 (⟨a, ⟨yx, U, yr, yn, ya, ym, yc⟩, true, yb⟩ : TV).w) ∧ W.cell? ⟨(ad.add (j * 8)).block, (ad.add (j * 8)).off + 1, none⟩ = some (.bool (⟨a, ⟨yx, U, yr, yn, ya, ym, yc⟩, true, yb⟩ : TV).f.x) ∧ W.cell? ⟨(ad.add (j * 8)).block, (ad.add (j * 8)).off + 2, none⟩ = some (.int .i64 (⟨a, ⟨yx, U, yr, yn, ya, ym, yc⟩, true, yb⟩ : TV).f.i) ∧ W.cell? ⟨(ad.add (j * 8)).block, (ad.add (j * 8)).off + 3, none⟩ = some (.bool (⟨a, ⟨yx, U, yr, yn, ya, ym, yc⟩, true, yb⟩ : TV).f.r) ∧ W.cell? ⟨(ad.add (j * 8)).block, (ad.add (j * 8)).off + 4, none⟩ = some (.int .i64 (⟨a, ⟨yx, U, yr, yn, ya, ym, yc⟩, true, yb⟩ : TV).f.n) ∧ W.cell? ⟨(ad.add (j * 8)).block, (ad.add (j * 8)).off + 5, none⟩ = some (.slice (⟨a, ⟨yx, U, yr, yn, ya, ym, yc⟩, true, yb⟩ : TV).f.a (⟨a, ⟨yx, U, yr, yn, ya, ym, yc⟩, true, yb⟩ : TV).f.m (⟨a, ⟨yx, U, yr, yn, ya, ym, yc⟩, true, yb⟩ : TV).f.c) ∧ W.cell? ⟨(ad.add (j * 8)).block, (ad.add (j * 8)).off + 6, none⟩ = some (.bool (⟨a, ⟨yx, U, yr, yn, ya, ym, yc⟩, true, yb⟩ : TV).ok) ∧ W.cell? ⟨(ad.add (j * 8)).block, (ad.add (j * 8)).off + 7, none⟩ = some (.int .i64 (⟨a, ⟨yx, U, yr, yn, ya, ym, yc⟩, true, yb⟩ : TV).b))) (by kernel_rfl) (by exact (tat_to hy60 (below_drew1 _))) (fun hHeld_ => ?_)
          refine wpAnyH_take' (i := 0) (v := ?v0_t1) 82 rfl rfl (by kernel_rfl) (by kernel_rfl) (by kernel_rfl) (fun _ _ _ h => h) (Or.inl ⟨by kernel_rfl, ?hy0_t1⟩) (by assumption) ?rest0_t1
          case hy0_t1 => (intro W_ hS_; (try dsimp only at hS_); go_simp; (try (with_reducible rfl)))
          try simp only [Act.put, siA, scZ, scS]
          refine wpAnyH_take' (i := 1) (v := ?v1_t1) 83 rfl rfl (by kernel_rfl) (by kernel_rfl) (by kernel_rfl) (fun _ _ _ h => h) (Or.inl ⟨by kernel_rfl, ?hy1_t1⟩) (by assumption) ?rest1_t1
          case hy1_t1 => (intro W_ hS_; (try dsimp only at hS_); go_simp; (try (with_reducible rfl)))
          try simp only [Act.put, siA, scZ, scS]
          refine wpAnyH_take' (i := 2) (v := ?v2_t1) 84 rfl rfl (by kernel_rfl) (by kernel_rfl) (by kernel_rfl) (fun _ _ _ h => h) (Or.inl ⟨by kernel_rfl, ?hy2_t1⟩) (by assumption) ?rest2_t1
          case hy2_t1 => (intro W_ hS_; (try dsimp only at hS_); go_simp; (try (with_reducible rfl)))
          try simp only [Act.put, siA, scZ, scS]
          refine wpAnyH_take' (i := 3) (v := ?v3_t1) 85 rfl rfl (by kernel_rfl) (by kernel_rfl) (by kernel_rfl) (fun _ _ _ h => h) (Or.inl ⟨by kernel_rfl, ?hy3_t1⟩) (by assumption) ?rest3_t1
          case hy3_t1 => (intro W_ hS_; (try dsimp only at hS_); go_simp; (try (with_reducible rfl)))
          try simp only [Act.put, siA, scZ, scS]
          refine wpAnyH_take' (i := 4) (v := ?v4_t1) 86 rfl rfl (by kernel_rfl) (by kernel_rfl) (by kernel_rfl) (fun _ _ _ h => h) (Or.inl ⟨by kernel_rfl, ?hy4_t1⟩) (by assumption) ?rest4_t1
          case hy4_t1 => (intro W_ hS_; (try dsimp only at hS_); go_simp; (try (with_reducible rfl)))
          try simp only [Act.put, siA, scZ, scS]
          refine wpAnyH_take' (i := 5) (v := ?v5_t1) 87 rfl rfl (by kernel_rfl) (by kernel_rfl) (by kernel_rfl) (fun _ _ _ h => h) (Or.inl ⟨by kernel_rfl, ?hy5_t1⟩) (by assumption) ?rest5_t1
          case hy5_t1 => (intro W_ hS_; (try dsimp only at hS_); go_simp; (try (with_reducible rfl)))
          try simp only [Act.put, siA, scZ, scS]
          refine wpAnyH_take' (i := 6) (v := ?v6_t1) 88 rfl rfl (by kernel_rfl) (by kernel_rfl) (by kernel_rfl) (fun _ _ _ h => h) (Or.inl ⟨by kernel_rfl, ?hy6_t1⟩) (by assumption) ?rest6_t1
          case hy6_t1 => (intro W_ hS_; (try dsimp only at hS_); go_simp; (try (with_reducible rfl)))
          try simp only [Act.put, siA, scZ, scS]
          refine wpAnyH_take' (i := 7) (v := ?v7_t1) 89 rfl rfl (by kernel_rfl) (by kernel_rfl) (by kernel_rfl) (fun _ _ _ h => h) (Or.inl ⟨by kernel_rfl, ?hy7_t1⟩) (by assumption) ?rest7_t1
          case hy7_t1 => (intro W_ hS_; (try dsimp only at hS_); go_simp; (try (with_reducible rfl)))
          try simp only [Act.put, siA, scZ, scS]
          refine wpAnyH_take' (i := 8) (v := ?v8_t1) 90 rfl rfl (by kernel_rfl) (by kernel_rfl) (by kernel_rfl) (fun _ _ _ h => h) (Or.inl ⟨by kernel_rfl, ?hy8_t1⟩) (by assumption) ?rest8_t1
          case hy8_t1 => (intro W_ hS_; (try dsimp only at hS_); go_simp; (try (with_reducible rfl)))
          try simp only [Act.put, siA, scZ, scS]
          refine wpAnyH_take' (i := 9) (v := ?v9_t1) 91 rfl rfl (by kernel_rfl) (by kernel_rfl) (by kernel_rfl) (fun _ _ _ h => h) (Or.inl ⟨by kernel_rfl, ?hy9_t1⟩) (by assumption) ?rest9_t1
          case hy9_t1 => (intro W_ hS_; (try dsimp only at hS_); go_simp; (try (with_reducible rfl)))
          try simp only [Act.put, siA, scZ, scS]
          refine wpAnyH_take' (i := 10) (v := ?v10_t1) 92 rfl rfl (by kernel_rfl) (by kernel_rfl) (by kernel_rfl) (fun _ _ _ h => h) (Or.inl ⟨by kernel_rfl, ?hy10_t1⟩) (by assumption) ?rest10_t1
          case hy10_t1 => (intro W_ hS_; (try dsimp only at hS_); go_simp; (try (with_reducible rfl)))
          try simp only [Act.put, siA, scZ, scS]
          refine wpAnyH_take' (i := 11) (v := ?v11_t1) 93 rfl rfl (by kernel_rfl) (by kernel_rfl) (by kernel_rfl) (fun _ _ _ h => h) (Or.inl ⟨by kernel_rfl, ?hy11_t1⟩) (by assumption) ?rest11_t1
          case hy11_t1 => (intro W_ hS_; (try dsimp only at hS_); go_simp; (try (with_reducible rfl)))
          try simp only [Act.put, siA, scZ, scS]
          refine wpAnyH_take' (i := 12) (v := ?v12_t1) 94 rfl rfl (by kernel_rfl) (by kernel_rfl) (by kernel_rfl) (fun _ _ _ h => h) (Or.inl ⟨by kernel_rfl, ?hy12_t1⟩) (by assumption) ?rest12_t1
          case hy12_t1 => (intro W_ hS_; (try dsimp only at hS_); go_simp; (try (with_reducible rfl)))
          try simp only [Act.put, siA, scZ, scS]
          refine wpAnyH_take' (i := 13) (v := ?v13_t1) 95 rfl rfl (by kernel_rfl) (by kernel_rfl) (by kernel_rfl) (fun _ _ _ h => h) (Or.inl ⟨by kernel_rfl, ?hy13_t1⟩) (by assumption) ?rest13_t1
          case hy13_t1 => (intro W_ hS_; (try dsimp only at hS_); go_simp; (try (with_reducible rfl)))
          try simp only [Act.put, siA, scZ, scS]
          refine wpAnyH_take' (i := 14) (v := ?v14_t1) 96 rfl rfl (by kernel_rfl) (by kernel_rfl) (by kernel_rfl) (fun _ _ _ h => h) (Or.inl ⟨by kernel_rfl, ?hy14_t1⟩) (by assumption) ?rest14_t1
          case hy14_t1 => (intro W_ hS_; (try dsimp only at hS_); go_simp; (try (with_reducible rfl)))
          try simp only [Act.put, siA, scZ, scS]
          refine wpAnyH_take' (i := 15) (v := ?v15_t1) 97 rfl rfl (by kernel_rfl) (by kernel_rfl) (by kernel_rfl) (fun _ _ _ h => h) (Or.inl ⟨by kernel_rfl, ?hy15_t1⟩) (by assumption) ?rest15_t1
          case hy15_t1 => (intro W_ hS_; (try dsimp only at hS_); go_simp; (try (with_reducible rfl)))
          try simp only [Act.put, siA, scZ, scS]
          refine wpAnyH_take' (i := 16) (v := ?v16_t1) 98 rfl rfl (by kernel_rfl) (by kernel_rfl) (by kernel_rfl) (fun _ _ _ h => h) (Or.inl ⟨by kernel_rfl, ?hy16_t1⟩) (by assumption) ?rest16_t1
          case hy16_t1 => (intro W_ hS_; (try dsimp only at hS_); go_simp; (try (with_reducible rfl)))
          try simp only [Act.put, siA, scZ, scS]
          refine wpAnyH_take' (i := 17) (v := ?v17_t1) 99 rfl rfl (by kernel_rfl) (by kernel_rfl) (by kernel_rfl) (fun _ _ _ h => h) (Or.inl ⟨by kernel_rfl, ?hy17_t1⟩) (by assumption) ?rest17_t1
          case hy17_t1 => (intro W_ hS_; (try dsimp only at hS_); go_simp; (try (with_reducible rfl)))
          try simp only [Act.put, siA, scZ, scS]
          refine wpAnyH_take' (i := 18) (v := ?v18_t1) 100 rfl rfl (by kernel_rfl) (by kernel_rfl) (by kernel_rfl) (fun _ _ _ h => h) (Or.inl ⟨by kernel_rfl, ?hy18_t1⟩) (by assumption) ?rest18_t1
          case hy18_t1 => (intro W_ hS_; (try dsimp only at hS_); go_simp; (try (with_reducible rfl)))
          try simp only [Act.put, siA, scZ, scS]
          refine wpAnyH_take' (i := 19) (v := ?v19_t1) 101 rfl rfl (by kernel_rfl) (by kernel_rfl) (by kernel_rfl) (fun _ _ _ h => h) (Or.inl ⟨by kernel_rfl, ?hy19_t1⟩) (by assumption) ?rest19_t1
          case hy19_t1 => (intro W_ hS_; (try dsimp only at hS_); go_simp; (try (with_reducible rfl)))
          try simp only [Act.put, siA, scZ, scS]
          refine wpAnyH_take' (i := 20) (v := ?v20_t1) 102 rfl rfl (by kernel_rfl) (by kernel_rfl) (by kernel_rfl) (fun _ _ _ h => h) (Or.inl ⟨by kernel_rfl, ?hy20_t1⟩) (by assumption) ?rest20_t1
          case hy20_t1 => (intro W_ hS_; (try dsimp only at hS_); go_simp; (try (with_reducible rfl)))
          try simp only [Act.put, siA, scZ, scS]
          refine wpAnyH_take' (i := 21) (v := ?v21_t1) 103 rfl rfl (by kernel_rfl) (by kernel_rfl) (by kernel_rfl) (fun _ _ _ h => h) (Or.inl ⟨by kernel_rfl, ?hy21_t1⟩) (by assumption) ?rest21_t1
          case hy21_t1 => (intro W_ hS_; (try dsimp only at hS_); go_simp; (try (with_reducible rfl)))
          try simp only [Act.put, siA, scZ, scS]
          refine wpAnyH_take' (i := 22) (v := ?v22_t1) 104 rfl rfl (by kernel_rfl) (by kernel_rfl) (by kernel_rfl) (fun _ _ _ h => h) (Or.inl ⟨by kernel_rfl, ?hy22_t1⟩) (by assumption) ?rest22_t1
          case hy22_t1 => (intro W_ hS_; (try dsimp only at hS_); go_simp; (try (with_reducible rfl)))
          try simp only [Act.put, siA, scZ, scS]
          refine wpAnyH_take' (i := 23) (v := ?v23_t1) 105 rfl rfl (by kernel_rfl) (by kernel_rfl) (by kernel_rfl) (fun _ _ _ h => h) (Or.inl ⟨by kernel_rfl, ?hy23_t1⟩) (by assumption) ?rest23_t1
          case hy23_t1 => (intro W_ hS_; (try dsimp only at hS_); go_simp; (try (with_reducible rfl)))
          try simp only [Act.put, siA, scZ, scS]
          refine wpAnyH_take' (i := 24) (v := ?v24_t1) 106 rfl rfl (by kernel_rfl) (by kernel_rfl) (by kernel_rfl) (fun _ _ _ h => h) (Or.inl ⟨by kernel_rfl, ?hy24_t1⟩) (by assumption) ?rest24_t1
          case hy24_t1 => (intro W_ hS_; (try dsimp only at hS_); go_simp; (try (with_reducible rfl)))
          try simp only [Act.put, siA, scZ, scS]
          refine wpAnyH_take' (i := 25) (v := ?v25_t1) 107 rfl rfl (by kernel_rfl) (by kernel_rfl) (by kernel_rfl) (fun _ _ _ h => h) (Or.inl ⟨by kernel_rfl, ?hy25_t1⟩) (by assumption) ?rest25_t1
          case hy25_t1 => (intro W_ hS_; (try dsimp only at hS_); go_simp; (try (with_reducible rfl)))
          try simp only [Act.put, siA, scZ, scS]
          refine wpAnyH_take' (i := 26) (v := ?v26_t1) 108 rfl rfl (by kernel_rfl) (by kernel_rfl) (by kernel_rfl) (fun _ _ _ h => h) (Or.inl ⟨by kernel_rfl, ?hy26_t1⟩) (by assumption) ?rest26_t1
          case hy26_t1 => (intro W_ hS_; (try dsimp only at hS_); go_simp; (try (with_reducible rfl)))
          try simp only [Act.put, siA, scZ, scS]
          refine wpAnyH_take' (i := 27) (v := ?v27_t1) 109 rfl rfl (by kernel_rfl) (by kernel_rfl) (by kernel_rfl) (fun _ _ _ h => h) (Or.inl ⟨by kernel_rfl, ?hy27_t1⟩) (by assumption) ?rest27_t1
          case hy27_t1 => (intro W_ hS_; (try dsimp only at hS_); go_simp; (try (with_reducible rfl)))
          try simp only [Act.put, siA, scZ, scS]
          refine wpAnyH_take' (i := 28) (v := ?v28_t1) 110 rfl rfl (by kernel_rfl) (by kernel_rfl) (by kernel_rfl) (fun _ _ _ h => h) (Or.inl ⟨by kernel_rfl, ?hy28_t1⟩) (by assumption) ?rest28_t1
          case hy28_t1 => (intro W_ hS_; (try dsimp only at hS_); go_simp; (try (with_reducible rfl)))
          try simp only [Act.put, siA, scZ, scS]
          refine wpAnyH_take' (i := 29) (v := ?v29_t1) 111 rfl rfl (by kernel_rfl) (by kernel_rfl) (by kernel_rfl) (fun _ _ _ h => h) (Or.inl ⟨by kernel_rfl, ?hy29_t1⟩) (by assumption) ?rest29_t1
          case hy29_t1 => (intro W_ hS_; (try dsimp only at hS_); go_simp; (try (with_reducible rfl)))
          try simp only [Act.put, siA, scZ, scS]
          refine wpAnyH_take' (i := 30) (v := ?v30_t1) 112 rfl rfl (by kernel_rfl) (by kernel_rfl) (by kernel_rfl) (fun _ _ _ h => h) (Or.inl ⟨by kernel_rfl, ?hy30_t1⟩) (by assumption) ?rest30_t1
          case hy30_t1 => (intro W_ hS_; (try dsimp only at hS_); go_simp; (try (with_reducible rfl)))
          try simp only [Act.put, siA, scZ, scS]
          refine wpAnyH_take' (i := 31) (v := undef) 113 rfl rfl (by kernel_rfl) (by kernel_rfl) (by kernel_rfl) (fun _ _ _ h => h) (Or.inr ⟨by kernel_rfl, rfl⟩) (by assumption) ?_
          try simp only [Act.put, siA, scZ, scS]
          refine wpAnyH_take' (i := 32) (v := undef) 114 rfl rfl (by kernel_rfl) (by kernel_rfl) (by kernel_rfl) (fun _ _ _ h => h) (Or.inr ⟨by kernel_rfl, rfl⟩) (by assumption) ?_
          try simp only [Act.put, siA, scZ, scS]
          refine wpAnyH_take' (i := 33) (v := undef) 115 rfl rfl (by kernel_rfl) (by kernel_rfl) (by kernel_rfl) (fun _ _ _ h => h) (Or.inr ⟨by kernel_rfl, rfl⟩) (by assumption) ?_
          try simp only [Act.put, siA, scZ, scS]
          refine wpAnyH_take' (i := 34) (v := undef) 116 rfl rfl (by kernel_rfl) (by kernel_rfl) (by kernel_rfl) (fun _ _ _ h => h) (Or.inr ⟨by kernel_rfl, rfl⟩) (by assumption) ?_
          try simp only [Act.put, siA, scZ, scS]
          refine wpAnyH_take' (i := 35) (v := undef) 117 rfl rfl (by kernel_rfl) (by kernel_rfl) (by kernel_rfl) (fun _ _ _ h => h) (Or.inr ⟨by kernel_rfl, rfl⟩) (by assumption) ?_
          try simp only [Act.put, siA, scZ, scS]
          refine wpAnyH_take' (i := 37) (v := undef) 119 rfl rfl (by kernel_rfl) (by kernel_rfl) (by kernel_rfl) (fun _ _ _ h => h) (Or.inr ⟨by kernel_rfl, rfl⟩) (by assumption) ?_
          try simp only [Act.put, siA, scZ, scS]
          refine wpAnyH_take' (i := 38) (v := undef) 120 rfl rfl (by kernel_rfl) (by kernel_rfl) (by kernel_rfl) (fun _ _ _ h => h) (Or.inr ⟨by kernel_rfl, rfl⟩) (by assumption) ?_
          try simp only [Act.put, siA, scZ, scS]
          refine wpAnyH_take' (i := 39) (v := undef) 121 rfl rfl (by kernel_rfl) (by kernel_rfl) (by kernel_rfl) (fun _ _ _ h => h) (Or.inr ⟨by kernel_rfl, rfl⟩) (by assumption) ?_
          try simp only [Act.put, siA, scZ, scS]
          refine wpAnyH_take' (i := 40) (v := undef) 122 rfl rfl (by kernel_rfl) (by kernel_rfl) (by kernel_rfl) (fun _ _ _ h => h) (Or.inr ⟨by kernel_rfl, rfl⟩) (by assumption) ?_
          try simp only [Act.put, siA, scZ, scS]
          refine wpAnyH_take' (i := 41) (v := undef) 123 rfl rfl (by kernel_rfl) (by kernel_rfl) (by kernel_rfl) (fun _ _ _ h => h) (Or.inr ⟨by kernel_rfl, rfl⟩) (by assumption) ?_
          try simp only [Act.put, siA, scZ, scS]
          refine wpAnyH_take' (i := 42) (v := undef) 124 rfl rfl (by kernel_rfl) (by kernel_rfl) (by kernel_rfl) (fun _ _ _ h => h) (Or.inr ⟨by kernel_rfl, rfl⟩) (by assumption) ?_
          try simp only [Act.put, siA, scZ, scS]
          refine wpAnyH_skip (i := 36) 118 rfl rfl (by kernel_rfl) (by kernel_rfl) (by assumption) ?_
          try simp only [Act.put, siA, scZ, scS]
          refine wpAnyH_skip (i := 43) 125 rfl rfl (by kernel_rfl) (by kernel_rfl) (by assumption) ?_
          try simp only [Act.put, siA, scZ, scS]
          refine wpAnyH_skip (i := 44) 126 rfl rfl (by kernel_rfl) (by kernel_rfl) (by assumption) ?_
          try simp only [Act.put, siA, scZ, scS]
          refine wpAnyH_take' (i := 45) (v := ?v45_t1) 127 rfl rfl (by kernel_rfl) (by kernel_rfl) (by kernel_rfl) (fun _ _ _ h => h) (Or.inl ⟨by kernel_rfl, ?hy45_t1⟩) (by assumption) ?rest45_t1
          case hy45_t1 => (intro W_ hS_; (try dsimp only at hS_); go_simp; (try (with_reducible rfl)))
          try simp only [Act.put, siA, scZ, scS]
          refine wpAnyH_take' (i := 46) (v := ?v46_t1) 128 rfl rfl (by kernel_rfl) (by kernel_rfl) (by kernel_rfl) (fun _ _ _ h => h) (Or.inl ⟨by kernel_rfl, ?hy46_t1⟩) (by assumption) ?rest46_t1
          case hy46_t1 => (intro W_ hS_; (try dsimp only at hS_); go_simp; (try (with_reducible rfl)))
          try simp only [Act.put, siA, scZ, scS]
          refine wpAnyH_done (by kernel_rfl) ?_ _
          obtain ⟨w61, hw61⟩ : ∃ w61, wr.drew = w61 := ⟨_, rfl⟩
          have hB61 : Below wr.heap.size wr w61 := by rw [← hw61]; exact (below_drew1 _)
          rw [hw61]
          clear hw61
          have hT61 := below_then hT60 hB61
          have hm61 := NSl.to hm60 hB61
          have ht61 := TSl.to ht60 hB61
          have hy61 := tat_to hy60 hB61
          have hff61 := FIs.to hff60 hB61
          clear hT60  hm60 ht60 hy60 hff60 hB61
          go_wp2_with fail
          go_round
          case measure => simp [intOf]; omega
          exact ⟨j + 1, by omega, by go_num, hm61, ht61, hT61⟩
        have j5 : (0 : Int) < (j : Int) := by omega
        obtain ⟨i, hi_⟩ : ∃ i, j - 1 = i := ⟨_, rfl⟩
        have hwp := w64_pred j (by omega) hj0
        have hip := wi_pred j (by omega) hj0
        rw [hi_] at hwp hip
        have j7 : (i : Int) < (M1 : Int) := by omega
        obtain ⟨ad2, z, ea_, hz60, hZ60⟩ := TSl.at_ ht60 (k := i) (by omega)
        obtain rfl : ad = ad2 := Option.some.inj ea_
        clear ea_
        rw [tolds_getD Ls M1 (show i < M1 by omega)] at hZ60
        obtain ⟨G, hG_⟩ : ∃ G, (toldK Ls M1 i).f = G := ⟨_, rfl⟩
        have hgg60 : FIs wr (fun _ => True) z.f G := hG_ ▸ hZ60.f
        obtain ⟨b, hb1, hb2, hb3, hb4, hb5⟩ := apt_told Hap.out M1 (k := i) (by rw [HQ.out]; omega)
        rw [hG_] at hb5
        have HGr := Lib.hid hb5
        have hle_ := apt_less Hap.out M1 (k := i) (by rw [HQ.out]; omega)
        rw [show i + 1 = j by omega, hG_, HF.out] at hle_
        have Hle := Lib.hid (show lessB (rankC F) (rankC G) = false by rw [less6_eq (okC_of HFr.out) (okC_of HGr.out)]; exact hle_)
        clear hb1 hb2 hb3 hb4 hb5 hle_ hG_ hZ60 hi_
        obtain ⟨n1, hn1_⟩ : ∃ n_, (rankC F).length = n_ := ⟨_, rfl⟩
        have hln1 := rankC_le F
        rw [hn1_] at hln1
        have Hn1 := Lib.hid hn1_
        clear hn1_
        obtain ⟨n2, hn2_⟩ : ∃ n_, (rankC G).length = n_ := ⟨_, rfl⟩
        have hln2 := rankC_le G
        rw [hn2_] at hln2
        have Hn2 := Lib.hid hn2_
        clear hn2_
        refine wp_region_held_drew (S := fun W => (W.cell? (ad.add (j * 8)) = some (.int .i64 (⟨a, ⟨yx, U, yr, yn, ya, ym, yc⟩, true, yb⟩ : TV).w) ∧ W.cell? ⟨(ad.add (j * 8)).block, (ad.add (j * 8)).off + 1, none⟩ = some (.bool (⟨a, ⟨yx, U, yr, yn, ya, ym, yc⟩, true, yb⟩ : TV).f.x) ∧ W.cell? ⟨(ad.add (j * 8)).block, (ad.add (j * 8)).off + 2, none⟩ = some (.int .i64 (⟨a, ⟨yx, U, yr, yn, ya, ym, yc⟩, true, yb⟩ : TV).f.i) ∧ W.cell? ⟨(ad.add (j * 8)).block, (ad.add (j * 8)).off + 3, none⟩ = some (.bool (⟨a, ⟨yx, U, yr, yn, ya, ym, yc⟩, true, yb⟩ : TV).f.r) ∧ W.cell? ⟨(ad.add (j * 8)).block, (ad.add (j * 8)).off + 4, none⟩ = some (.int .i64 (⟨a, ⟨yx, U, yr, yn, ya, ym, yc⟩, true, yb⟩ : TV).f.n) ∧ W.cell? ⟨(ad.add (j * 8)).block, (ad.add (j * 8)).off + 5, none⟩ = some (.slice (⟨a, ⟨yx, U, yr, yn, ya, ym, yc⟩, true, yb⟩ : TV).f.a (⟨a, ⟨yx, U, yr, yn, ya, ym, yc⟩, true, yb⟩ : TV).f.m (⟨a, ⟨yx, U, yr, yn, ya, ym, yc⟩, true, yb⟩ : TV).f.c) ∧ W.cell? ⟨(ad.add (j * 8)).block, (ad.add (j * 8)).off + 6, none⟩ = some (.bool (⟨a, ⟨yx, U, yr, yn, ya, ym, yc⟩, true, yb⟩ : TV).ok) ∧ W.cell? ⟨(ad.add (j * 8)).block, (ad.add (j * 8)).off + 7, none⟩ = some (.int .i64 (⟨a, ⟨yx, U, yr, yn, ya, ym, yc⟩, true, yb⟩ : TV).b)) ∧ (W.cell? (ad.add (i * 8)) = some (.int .i64 z.w) ∧ W.cell? ⟨(ad.add (i * 8)).block, (ad.add (i * 8)).off + 1, none⟩ = some (.bool z.f.x) ∧ W.cell? ⟨(ad.add (i * 8)).block, (ad.add (i * 8)).off + 2, none⟩ = some (.int .i64 z.f.i) ∧ W.cell? ⟨(ad.add (i * 8)).block, (ad.add (i * 8)).off + 3, none⟩ = some (.bool z.f.r) ∧ W.cell? ⟨(ad.add (i * 8)).block, (ad.add (i * 8)).off + 4, none⟩ = some (.int .i64 z.f.n) ∧ W.cell? ⟨(ad.add (i * 8)).block, (ad.add (i * 8)).off + 5, none⟩ = some (.slice z.f.a z.f.m z.f.c) ∧ W.cell? ⟨(ad.add (i * 8)).block, (ad.add (i * 8)).off + 6, none⟩ = some (.bool z.ok) ∧ W.cell? ⟨(ad.add (i * 8)).block, (ad.add (i * 8)).off + 7, none⟩ = some (.int .i64 z.b))) (by kernel_rfl) (by exact ⟨(tat_to hy60 (below_drew1 _)), (tat_to hz60 (below_drew1 _))⟩) (fun hHeld_ => ?_)
        refine wpAnyH_take' (i := 0) (v := ?v0_t2) 82 rfl rfl (by kernel_rfl) (by kernel_rfl) (by kernel_rfl) (fun _ _ _ h => h) (Or.inl ⟨by kernel_rfl, ?hy0_t2⟩) (by assumption) ?rest0_t2
        case hy0_t2 => (intro W_ hS_; (try dsimp only at hS_); go_simp; (try (with_reducible rfl)))
        try simp only [Act.put, siA, scZ, scS]
        refine wpAnyH_take' (i := 1) (v := ?v1_t2) 83 rfl rfl (by kernel_rfl) (by kernel_rfl) (by kernel_rfl) (fun _ _ _ h => h) (Or.inl ⟨by kernel_rfl, ?hy1_t2⟩) (by assumption) ?rest1_t2
        case hy1_t2 => (intro W_ hS_; (try dsimp only at hS_); go_simp; (try (with_reducible rfl)))
        try simp only [Act.put, siA, scZ, scS]
        refine wpAnyH_take' (i := 2) (v := ?v2_t2) 84 rfl rfl (by kernel_rfl) (by kernel_rfl) (by kernel_rfl) (fun _ _ _ h => h) (Or.inl ⟨by kernel_rfl, ?hy2_t2⟩) (by assumption) ?rest2_t2
        case hy2_t2 => (intro W_ hS_; (try dsimp only at hS_); go_simp; (try (with_reducible rfl)))
        try simp only [Act.put, siA, scZ, scS]
        refine wpAnyH_take' (i := 3) (v := ?v3_t2) 85 rfl rfl (by kernel_rfl) (by kernel_rfl) (by kernel_rfl) (fun _ _ _ h => h) (Or.inl ⟨by kernel_rfl, ?hy3_t2⟩) (by assumption) ?rest3_t2
        case hy3_t2 => (intro W_ hS_; (try dsimp only at hS_); go_simp; (try (with_reducible rfl)))
        try simp only [Act.put, siA, scZ, scS]
        refine wpAnyH_take' (i := 4) (v := ?v4_t2) 86 rfl rfl (by kernel_rfl) (by kernel_rfl) (by kernel_rfl) (fun _ _ _ h => h) (Or.inl ⟨by kernel_rfl, ?hy4_t2⟩) (by assumption) ?rest4_t2
        case hy4_t2 => (intro W_ hS_; (try dsimp only at hS_); go_simp; (try (with_reducible rfl)))
        try simp only [Act.put, siA, scZ, scS]
        refine wpAnyH_take' (i := 5) (v := ?v5_t2) 87 rfl rfl (by kernel_rfl) (by kernel_rfl) (by kernel_rfl) (fun _ _ _ h => h) (Or.inl ⟨by kernel_rfl, ?hy5_t2⟩) (by assumption) ?rest5_t2
        case hy5_t2 => (intro W_ hS_; (try dsimp only at hS_); go_simp; (try (with_reducible rfl)))
        try simp only [Act.put, siA, scZ, scS]
        refine wpAnyH_take' (i := 6) (v := ?v6_t2) 88 rfl rfl (by kernel_rfl) (by kernel_rfl) (by kernel_rfl) (fun _ _ _ h => h) (Or.inl ⟨by kernel_rfl, ?hy6_t2⟩) (by assumption) ?rest6_t2
        case hy6_t2 => (intro W_ hS_; (try dsimp only at hS_); go_simp; (try (with_reducible rfl)))
        try simp only [Act.put, siA, scZ, scS]
        refine wpAnyH_take' (i := 7) (v := ?v7_t2) 89 rfl rfl (by kernel_rfl) (by kernel_rfl) (by kernel_rfl) (fun _ _ _ h => h) (Or.inl ⟨by kernel_rfl, ?hy7_t2⟩) (by assumption) ?rest7_t2
        case hy7_t2 => (intro W_ hS_; (try dsimp only at hS_); go_simp; (try (with_reducible rfl)))
        try simp only [Act.put, siA, scZ, scS]
        refine wpAnyH_take' (i := 8) (v := ?v8_t2) 90 rfl rfl (by kernel_rfl) (by kernel_rfl) (by kernel_rfl) (fun _ _ _ h => h) (Or.inl ⟨by kernel_rfl, ?hy8_t2⟩) (by assumption) ?rest8_t2
        case hy8_t2 => (intro W_ hS_; (try dsimp only at hS_); go_simp; (try (with_reducible rfl)))
        try simp only [Act.put, siA, scZ, scS]
        refine wpAnyH_take' (i := 9) (v := ?v9_t2) 91 rfl rfl (by kernel_rfl) (by kernel_rfl) (by kernel_rfl) (fun _ _ _ h => h) (Or.inl ⟨by kernel_rfl, ?hy9_t2⟩) (by assumption) ?rest9_t2
        case hy9_t2 => (intro W_ hS_; (try dsimp only at hS_); go_simp; (try (with_reducible rfl)))
        try simp only [Act.put, siA, scZ, scS]
        refine wpAnyH_take' (i := 10) (v := ?v10_t2) 92 rfl rfl (by kernel_rfl) (by kernel_rfl) (by kernel_rfl) (fun _ _ _ h => h) (Or.inl ⟨by kernel_rfl, ?hy10_t2⟩) (by assumption) ?rest10_t2
        case hy10_t2 => (intro W_ hS_; (try dsimp only at hS_); go_simp; (try (with_reducible rfl)))
        try simp only [Act.put, siA, scZ, scS]
        refine wpAnyH_take' (i := 11) (v := ?v11_t2) 93 rfl rfl (by kernel_rfl) (by kernel_rfl) (by kernel_rfl) (fun _ _ _ h => h) (Or.inl ⟨by kernel_rfl, ?hy11_t2⟩) (by assumption) ?rest11_t2
        case hy11_t2 => (intro W_ hS_; (try dsimp only at hS_); go_simp; (try (with_reducible rfl)))
        try simp only [Act.put, siA, scZ, scS]
        refine wpAnyH_take' (i := 12) (v := ?v12_t2) 94 rfl rfl (by kernel_rfl) (by kernel_rfl) (by kernel_rfl) (fun _ _ _ h => h) (Or.inl ⟨by kernel_rfl, ?hy12_t2⟩) (by assumption) ?rest12_t2
        case hy12_t2 => (intro W_ hS_; (try dsimp only at hS_); go_simp; (try (with_reducible rfl)))
        try simp only [Act.put, siA, scZ, scS]
        refine wpAnyH_take' (i := 13) (v := ?v13_t2) 95 rfl rfl (by kernel_rfl) (by kernel_rfl) (by kernel_rfl) (fun _ _ _ h => h) (Or.inl ⟨by kernel_rfl, ?hy13_t2⟩) (by assumption) ?rest13_t2
        case hy13_t2 => (intro W_ hS_; (try dsimp only at hS_); go_simp; (try (with_reducible rfl)))
        try simp only [Act.put, siA, scZ, scS]
        refine wpAnyH_take' (i := 14) (v := ?v14_t2) 96 rfl rfl (by kernel_rfl) (by kernel_rfl) (by kernel_rfl) (fun _ _ _ h => h) (Or.inl ⟨by kernel_rfl, ?hy14_t2⟩) (by assumption) ?rest14_t2
        case hy14_t2 => (intro W_ hS_; (try dsimp only at hS_); go_simp; (try (with_reducible rfl)))
        try simp only [Act.put, siA, scZ, scS]
        refine wpAnyH_take' (i := 15) (v := ?v15_t2) 97 rfl rfl (by kernel_rfl) (by kernel_rfl) (by kernel_rfl) (fun _ _ _ h => h) (Or.inl ⟨by kernel_rfl, ?hy15_t2⟩) (by assumption) ?rest15_t2
        case hy15_t2 => (intro W_ hS_; (try dsimp only at hS_); go_simp; (try (with_reducible rfl)))
        try simp only [Act.put, siA, scZ, scS]
        refine wpAnyH_take' (i := 16) (v := ?v16_t2) 98 rfl rfl (by kernel_rfl) (by kernel_rfl) (by kernel_rfl) (fun _ _ _ h => h) (Or.inl ⟨by kernel_rfl, ?hy16_t2⟩) (by assumption) ?rest16_t2
        case hy16_t2 => (intro W_ hS_; (try dsimp only at hS_); go_simp; (try (with_reducible rfl)))
        try simp only [Act.put, siA, scZ, scS]
        refine wpAnyH_take' (i := 17) (v := ?v17_t2) 99 rfl rfl (by kernel_rfl) (by kernel_rfl) (by kernel_rfl) (fun _ _ _ h => h) (Or.inl ⟨by kernel_rfl, ?hy17_t2⟩) (by assumption) ?rest17_t2
        case hy17_t2 => (intro W_ hS_; (try dsimp only at hS_); go_simp; (try (with_reducible rfl)))
        try simp only [Act.put, siA, scZ, scS]
        refine wpAnyH_take' (i := 18) (v := ?v18_t2) 100 rfl rfl (by kernel_rfl) (by kernel_rfl) (by kernel_rfl) (fun _ _ _ h => h) (Or.inl ⟨by kernel_rfl, ?hy18_t2⟩) (by assumption) ?rest18_t2
        case hy18_t2 => (intro W_ hS_; (try dsimp only at hS_); go_simp; (try (with_reducible rfl)))
        try simp only [Act.put, siA, scZ, scS]
        refine wpAnyH_take' (i := 19) (v := ?v19_t2) 101 rfl rfl (by kernel_rfl) (by kernel_rfl) (by kernel_rfl) (fun _ _ _ h => h) (Or.inl ⟨by kernel_rfl, ?hy19_t2⟩) (by assumption) ?rest19_t2
        case hy19_t2 => (intro W_ hS_; (try dsimp only at hS_); go_simp; (try (with_reducible rfl)))
        try simp only [Act.put, siA, scZ, scS]
        refine wpAnyH_take' (i := 20) (v := ?v20_t2) 102 rfl rfl (by kernel_rfl) (by kernel_rfl) (by kernel_rfl) (fun _ _ _ h => h) (Or.inl ⟨by kernel_rfl, ?hy20_t2⟩) (by assumption) ?rest20_t2
        case hy20_t2 => (intro W_ hS_; (try dsimp only at hS_); go_simp; (try (with_reducible rfl)))
        try simp only [Act.put, siA, scZ, scS]
        refine wpAnyH_take' (i := 21) (v := ?v21_t2) 103 rfl rfl (by kernel_rfl) (by kernel_rfl) (by kernel_rfl) (fun _ _ _ h => h) (Or.inl ⟨by kernel_rfl, ?hy21_t2⟩) (by assumption) ?rest21_t2
        case hy21_t2 => (intro W_ hS_; (try dsimp only at hS_); go_simp; (try (with_reducible rfl)))
        try simp only [Act.put, siA, scZ, scS]
        refine wpAnyH_take' (i := 22) (v := ?v22_t2) 104 rfl rfl (by kernel_rfl) (by kernel_rfl) (by kernel_rfl) (fun _ _ _ h => h) (Or.inl ⟨by kernel_rfl, ?hy22_t2⟩) (by assumption) ?rest22_t2
        case hy22_t2 => (intro W_ hS_; (try dsimp only at hS_); go_simp; (try (with_reducible rfl)))
        try simp only [Act.put, siA, scZ, scS]
        refine wpAnyH_take' (i := 23) (v := ?v23_t2) 105 rfl rfl (by kernel_rfl) (by kernel_rfl) (by kernel_rfl) (fun _ _ _ h => h) (Or.inl ⟨by kernel_rfl, ?hy23_t2⟩) (by assumption) ?rest23_t2
        case hy23_t2 => (intro W_ hS_; (try dsimp only at hS_); go_simp; (try (with_reducible rfl)))
        try simp only [Act.put, siA, scZ, scS]
        refine wpAnyH_take' (i := 24) (v := ?v24_t2) 106 rfl rfl (by kernel_rfl) (by kernel_rfl) (by kernel_rfl) (fun _ _ _ h => h) (Or.inl ⟨by kernel_rfl, ?hy24_t2⟩) (by assumption) ?rest24_t2
        case hy24_t2 => (intro W_ hS_; (try dsimp only at hS_); go_simp; (try (with_reducible rfl)))
        try simp only [Act.put, siA, scZ, scS]
        refine wpAnyH_take' (i := 25) (v := ?v25_t2) 107 rfl rfl (by kernel_rfl) (by kernel_rfl) (by kernel_rfl) (fun _ _ _ h => h) (Or.inl ⟨by kernel_rfl, ?hy25_t2⟩) (by assumption) ?rest25_t2
        case hy25_t2 => (intro W_ hS_; (try dsimp only at hS_); go_simp; (try (with_reducible rfl)))
        try simp only [Act.put, siA, scZ, scS]
        refine wpAnyH_take' (i := 26) (v := ?v26_t2) 108 rfl rfl (by kernel_rfl) (by kernel_rfl) (by kernel_rfl) (fun _ _ _ h => h) (Or.inl ⟨by kernel_rfl, ?hy26_t2⟩) (by assumption) ?rest26_t2
        case hy26_t2 => (intro W_ hS_; (try dsimp only at hS_); go_simp; (try (with_reducible rfl)))
        try simp only [Act.put, siA, scZ, scS]
        refine wpAnyH_take' (i := 27) (v := ?v27_t2) 109 rfl rfl (by kernel_rfl) (by kernel_rfl) (by kernel_rfl) (fun _ _ _ h => h) (Or.inl ⟨by kernel_rfl, ?hy27_t2⟩) (by assumption) ?rest27_t2
        case hy27_t2 => (intro W_ hS_; (try dsimp only at hS_); go_simp; (try (with_reducible rfl)))
        try simp only [Act.put, siA, scZ, scS]
        refine wpAnyH_take' (i := 28) (v := ?v28_t2) 110 rfl rfl (by kernel_rfl) (by kernel_rfl) (by kernel_rfl) (fun _ _ _ h => h) (Or.inl ⟨by kernel_rfl, ?hy28_t2⟩) (by assumption) ?rest28_t2
        case hy28_t2 => (intro W_ hS_; (try dsimp only at hS_); go_simp; (try (with_reducible rfl)))
        try simp only [Act.put, siA, scZ, scS]
        refine wpAnyH_take' (i := 29) (v := ?v29_t2) 111 rfl rfl (by kernel_rfl) (by kernel_rfl) (by kernel_rfl) (fun _ _ _ h => h) (Or.inl ⟨by kernel_rfl, ?hy29_t2⟩) (by assumption) ?rest29_t2
        case hy29_t2 => (intro W_ hS_; (try dsimp only at hS_); go_simp; (try (with_reducible rfl)))
        try simp only [Act.put, siA, scZ, scS]
        refine wpAnyH_take' (i := 30) (v := ?v30_t2) 112 rfl rfl (by kernel_rfl) (by kernel_rfl) (by kernel_rfl) (fun _ _ _ h => h) (Or.inl ⟨by kernel_rfl, ?hy30_t2⟩) (by assumption) ?rest30_t2
        case hy30_t2 => (intro W_ hS_; (try dsimp only at hS_); go_simp; (try (with_reducible rfl)))
        try simp only [Act.put, siA, scZ, scS]
        refine wpAnyH_take' (i := 31) (v := ?v31_t2) 113 rfl rfl (by kernel_rfl) (by kernel_rfl) (by kernel_rfl) (fun _ _ _ h => h) (Or.inl ⟨by kernel_rfl, ?hy31_t2⟩) (by assumption) ?rest31_t2
        case hy31_t2 => (intro W_ hS_; (try dsimp only at hS_); go_simp; (try (with_reducible rfl)))
        try simp only [Act.put, siA, scZ, scS]
        refine wpAnyH_take' (i := 32) (v := ?v32_t2) 114 rfl rfl (by kernel_rfl) (by kernel_rfl) (by kernel_rfl) (fun _ _ _ h => h) (Or.inl ⟨by kernel_rfl, ?hy32_t2⟩) (by assumption) ?rest32_t2
        case hy32_t2 => (intro W_ hS_; (try dsimp only at hS_); go_simp; (try (with_reducible rfl)))
        try simp only [Act.put, siA, scZ, scS]
        refine wpAnyH_take' (i := 33) (v := ?v33_t2) 115 rfl rfl (by kernel_rfl) (by kernel_rfl) (by kernel_rfl) (fun _ _ _ h => h) (Or.inl ⟨by kernel_rfl, ?hy33_t2⟩) (by assumption) ?rest33_t2
        case hy33_t2 => (intro W_ hS_; (try dsimp only at hS_); go_simp; (try (with_reducible rfl)))
        try simp only [Act.put, siA, scZ, scS]
        refine wpAnyH_take' (i := 34) (v := ?v34_t2) 116 rfl rfl (by kernel_rfl) (by kernel_rfl) (by kernel_rfl) (fun _ _ _ h => h) (Or.inl ⟨by kernel_rfl, ?hy34_t2⟩) (by assumption) ?rest34_t2
        case hy34_t2 => (intro W_ hS_; (try dsimp only at hS_); go_simp; (try (with_reducible rfl)))
        try simp only [Act.put, siA, scZ, scS]
        refine wpAnyH_take' (i := 35) (v := ?v35_t2) 117 rfl rfl (by kernel_rfl) (by kernel_rfl) (by kernel_rfl) (fun _ _ _ h => h) (Or.inl ⟨by kernel_rfl, ?hy35_t2⟩) (by assumption) ?rest35_t2
        case hy35_t2 => (intro W_ hS_; (try dsimp only at hS_); go_simp; (try (with_reducible rfl)))
        try simp only [Act.put, siA, scZ, scS]
        refine wpAnyH_take' (i := 37) (v := ?v37_t2) 119 rfl rfl (by kernel_rfl) (by kernel_rfl) (by kernel_rfl) (fun _ _ _ h => h) (Or.inl ⟨by kernel_rfl, ?hy37_t2⟩) (by assumption) ?rest37_t2
        case hy37_t2 => (intro W_ hS_; (try dsimp only at hS_); go_simp; (try (with_reducible rfl)))
        try simp only [Act.put, siA, scZ, scS]
        refine wpAnyH_take' (i := 38) (v := ?v38_t2) 120 rfl rfl (by kernel_rfl) (by kernel_rfl) (by kernel_rfl) (fun _ _ _ h => h) (Or.inl ⟨by kernel_rfl, ?hy38_t2⟩) (by assumption) ?rest38_t2
        case hy38_t2 => (intro W_ hS_; (try dsimp only at hS_); go_simp; (try (with_reducible rfl)))
        try simp only [Act.put, siA, scZ, scS]
        refine wpAnyH_take' (i := 39) (v := ?v39_t2) 121 rfl rfl (by kernel_rfl) (by kernel_rfl) (by kernel_rfl) (fun _ _ _ h => h) (Or.inl ⟨by kernel_rfl, ?hy39_t2⟩) (by assumption) ?rest39_t2
        case hy39_t2 => (intro W_ hS_; (try dsimp only at hS_); go_simp; (try (with_reducible rfl)))
        try simp only [Act.put, siA, scZ, scS]
        refine wpAnyH_take' (i := 40) (v := ?v40_t2) 122 rfl rfl (by kernel_rfl) (by kernel_rfl) (by kernel_rfl) (fun _ _ _ h => h) (Or.inl ⟨by kernel_rfl, ?hy40_t2⟩) (by assumption) ?rest40_t2
        case hy40_t2 => (intro W_ hS_; (try dsimp only at hS_); go_simp; (try (with_reducible rfl)))
        try simp only [Act.put, siA, scZ, scS]
        refine wpAnyH_take' (i := 41) (v := ?v41_t2) 123 rfl rfl (by kernel_rfl) (by kernel_rfl) (by kernel_rfl) (fun _ _ _ h => h) (Or.inl ⟨by kernel_rfl, ?hy41_t2⟩) (by assumption) ?rest41_t2
        case hy41_t2 => (intro W_ hS_; (try dsimp only at hS_); go_simp; (try (with_reducible rfl)))
        try simp only [Act.put, siA, scZ, scS]
        refine wpAnyH_take' (i := 42) (v := ?v42_t2) 124 rfl rfl (by kernel_rfl) (by kernel_rfl) (by kernel_rfl) (fun _ _ _ h => h) (Or.inl ⟨by kernel_rfl, ?hy42_t2⟩) (by assumption) ?rest42_t2
        case hy42_t2 => (intro W_ hS_; (try dsimp only at hS_); go_simp; (try (with_reducible rfl)))
        try simp only [Act.put, siA, scZ, scS]
        refine wpAnyH_ready (rs := [36]) (by kernel_rfl) (by simp) ?_
        refine AllReadyH.cons rfl (fun K_ hK_ => ?_) AllReadyH.nil
        go_simp
        refine (refRank_c (FIs.to hff60 (below_drew1 _)) (okC_of HFr.out) n1 Hn1.out).mono ?_; rintro e wr36 ⟨A36, c36, rfl, hr1_, hc36, hBr36⟩
        go_wp2_with fail
        refine hK_.out _ _ (by exact ⟨(tat_to (tat_to hy60 (below_drew1 _)) hBr36), (tat_to (tat_to hz60 (below_drew1 _)) hBr36)⟩) (fun hHeld_36 => ?_)
        clear hK_
        try simp only [Act.put, siA, scZ, scS]
        refine wpAnyH_ready (rs := [43]) (by kernel_rfl) (by simp) ?_
        refine AllReadyH.cons rfl (fun K_ hK_ => ?_) AllReadyH.nil
        go_simp
        refine (refRank_c (FIs.to (FIs.to hgg60 (below_drew1 _)) hBr36) (okC_of HGr.out) n2 Hn2.out).mono ?_; rintro e wr43 ⟨A43, c43, rfl, hr2_, hc43, hBr43⟩
        go_wp2_with fail
        refine hK_.out _ _ (by exact ⟨(tat_to (tat_to (tat_to hy60 (below_drew1 _)) hBr36) hBr43), (tat_to (tat_to (tat_to hz60 (below_drew1 _)) hBr36) hBr43)⟩) (fun hHeld_43 => ?_)
        clear hK_
        try simp only [Act.put, siA, scZ, scS]
        refine wpAnyH_ready (rs := [44]) (by kernel_rfl) (by simp) ?_
        refine AllReadyH.cons rfl (fun K_ hK_ => ?_) AllReadyH.nil
        go_simp
        refine (lessGo_any (rankC F) (rankC G) n1 n2 Hn1.out Hn2.out A36 A43 c36 c43 _ (Row.to hr1_ hBr43) hr2_ (by omega) (by omega) false Hle.out).mono ?_; rintro e wr44 ⟨rfl, hBr44⟩
        go_wp2_with fail
        refine hK_.out _ _ (by exact ⟨(tat_to (tat_to (tat_to (tat_to hy60 (below_drew1 _)) hBr36) hBr43) hBr44), (tat_to (tat_to (tat_to (tat_to hz60 (below_drew1 _)) hBr36) hBr43) hBr44)⟩) (fun hHeld_44 => ?_)
        clear hK_
        try simp only [Act.put, siA, scZ, scS]
        refine wpAnyH_take' (i := 45) (v := ?v45_t2) 127 rfl rfl (by kernel_rfl) (by kernel_rfl) (by kernel_rfl) (fun _ _ _ h => h) (Or.inl ⟨by kernel_rfl, ?hy45_t2⟩) (by assumption) ?rest45_t2
        case hy45_t2 => (intro W_ hS_; (try dsimp only at hS_); go_simp; (try (with_reducible rfl)))
        try simp only [Act.put, siA, scZ, scS]
        refine wpAnyH_take' (i := 46) (v := ?v46_t2) 128 rfl rfl (by kernel_rfl) (by kernel_rfl) (by kernel_rfl) (fun _ _ _ h => h) (Or.inl ⟨by kernel_rfl, ?hy46_t2⟩) (by assumption) ?rest46_t2
        case hy46_t2 => (intro W_ hS_; (try dsimp only at hS_); go_simp; (try (with_reducible rfl)))
        try simp only [Act.put, siA, scZ, scS]
        refine wpAnyH_done (by kernel_rfl) ?_ _
        obtain ⟨w61, hw61⟩ : ∃ w61, wr44 = w61 := ⟨_, rfl⟩
        have hB61 : Below wr.heap.size wr w61 := by rw [← hw61]; exact (below_then (below_then (below_then (below_drew1 _) hBr36) hBr43) hBr44)
        have hr161 := (Row.to (Row.to hr1_ hBr43) hBr44)
        rw [hw61] at hr161
        have hr261 := (Row.to hr2_ hBr44)
        rw [hw61] at hr261
        rw [hw61]
        clear hw61 hr1_ hr2_ hBr36 hBr43 hBr44
        have hT61 := below_then hT60 hB61
        have hm61 := NSl.to hm60 hB61
        have ht61 := TSl.to ht60 hB61
        have hy61 := tat_to hy60 hB61
        have hff61 := FIs.to hff60 hB61
        have hz61 := tat_to hz60 hB61
        have hgg61 := FIs.to hgg60 hB61
        clear hT60  hm60 ht60 hy60 hff60 hz60 hgg60 hB61
        go_wp2_with fail
        go_round
        case measure => simp [intOf]; omega
        exact ⟨j + 1, by omega, by go_num, hm61, ht61, hT61⟩
      obtain rfl : j = Q := by omega
      have j1 : ¬ (j : Int) < (j : Int) := by omega
      clear ht60
      go_wp2_with fail
      go_loopw [10] (fun i wr => ∃ (i1 : Nat), i1 ≤ k ∧ i = .int .i64 i1 ∧ NSl wr (fun _ => True) A4 k c4 (slotsN Ls (List.replicate M1 [])) ∧ Below w.heap.size w wr) (fun i _ => k - (intOf i).toNat)
      case atStart => exact ⟨0, Nat.zero_le _, rfl, hm60, hT60⟩
      case round =>
        clear hm60 hT60
        obtain ⟨i1, hi1, rfl, hm70, hT70⟩ := hrel
        by_cases hlt : i1 < k
        rotate_left
        · skip
          obtain rfl : i1 = k := by omega
          have j1 : ¬ (i1 : Int) < (i1 : Int) := by omega
          go_wp2_with fail
          go_ret
          exact ⟨rfl, hT70⟩
        have j1 : (i1 : Int) < (k : Int) := by omega
        obtain ⟨ad4, x, ea_, hx70, hX_⟩ := NSl.at_ hm70 hlt
        subst ea_
        have hlast := (apt_last Hap.out M1).2 i1 (by rw [HLl.out]; exact hlt)
        rw [HQ.out, HM1.out] at hlast
        have hs_ : slotsN Ls (List.replicate M1 []) = slotsTo Ls (List.replicate M1 []) M1 := by unfold slotsN; rw [List.length_replicate]
        rw [hs_] at hX_
        obtain ⟨qa, qm, qc, la, lm, lc, kv, ga, gm, gc⟩ := x
        obtain rfl : kv = newV := hX_.k.trans hlast.2
        obtain rfl : qm = 0 := by have h1 := hX_.q.len; rw [show ((slotsTo Ls (List.replicate M1 []) M1).getD i1 zeroN).q = [] from hlast.1] at h1; exact h1.symm
        clear hX_ hlast hs_
        have hne := neq_new
        go_upto_region 24 with fail
        refine wp_region_held_drew (S := fun W => (W.cell? (ad4.add (i1 * 7)) = some (.slice qa 0 qc) ∧ W.cell? ⟨(ad4.add (i1 * 7)).block, (ad4.add (i1 * 7)).off + 1, none⟩ = some (.slice la lm lc) ∧ W.cell? ⟨(ad4.add (i1 * 7)).block, (ad4.add (i1 * 7)).off + 2, none⟩ = some (.int .i64 0) ∧ W.cell? ⟨(ad4.add (i1 * 7)).block, (ad4.add (i1 * 7)).off + 3, none⟩ = some (.int .i64 0) ∧ W.cell? ⟨(ad4.add (i1 * 7)).block, (ad4.add (i1 * 7)).off + 4, none⟩ = some (.int .i64 1) ∧ W.cell? ⟨(ad4.add (i1 * 7)).block, (ad4.add (i1 * 7)).off + 5, none⟩ = some (.int .i64 0) ∧ W.cell? ⟨(ad4.add (i1 * 7)).block, (ad4.add (i1 * 7)).off + 6, none⟩ = some (.slice ga gm gc))) (by kernel_rfl) (by exact (nat_to hx70 (below_drew1 _))) (fun hHeld_ => ?_)
        refine wpAnyH_take' (i := 0) (v := ?v0_t3) 135 rfl rfl (by kernel_rfl) (by kernel_rfl) (by kernel_rfl) (fun _ _ _ h => h) (Or.inl ⟨by kernel_rfl, ?hy0_t3⟩) (by assumption) ?rest0_t3
        case hy0_t3 => (intro W_ hS_; (try dsimp only at hS_); go_simp; (try (with_reducible rfl)))
        try simp only [Act.put, siA, scZ, scS]
        refine wpAnyH_take' (i := 1) (v := ?v1_t3) 136 rfl rfl (by kernel_rfl) (by kernel_rfl) (by kernel_rfl) (fun _ _ _ h => h) (Or.inl ⟨by kernel_rfl, ?hy1_t3⟩) (by assumption) ?rest1_t3
        case hy1_t3 => (intro W_ hS_; (try dsimp only at hS_); go_simp; (try (with_reducible rfl)))
        try simp only [Act.put, siA, scZ, scS]
        refine wpAnyH_take' (i := 2) (v := ?v2_t3) 137 rfl rfl (by kernel_rfl) (by kernel_rfl) (by kernel_rfl) (fun _ _ _ h => h) (Or.inl ⟨by kernel_rfl, ?hy2_t3⟩) (by assumption) ?rest2_t3
        case hy2_t3 => (intro W_ hS_; (try dsimp only at hS_); go_simp; (try (with_reducible rfl)))
        try simp only [Act.put, siA, scZ, scS]
        refine wpAnyH_take' (i := 3) (v := ?v3_t3) 138 rfl rfl (by kernel_rfl) (by kernel_rfl) (by kernel_rfl) (fun _ _ _ h => h) (Or.inl ⟨by kernel_rfl, ?hy3_t3⟩) (by assumption) ?rest3_t3
        case hy3_t3 => (intro W_ hS_; (try dsimp only at hS_); go_simp; (try (with_reducible rfl)))
        try simp only [Act.put, siA, scZ, scS]
        refine wpAnyH_take' (i := 4) (v := ?v4_t3) 139 rfl rfl (by kernel_rfl) (by kernel_rfl) (by kernel_rfl) (fun _ _ _ h => h) (Or.inl ⟨by kernel_rfl, ?hy4_t3⟩) (by assumption) ?rest4_t3
        case hy4_t3 => (intro W_ hS_; (try dsimp only at hS_); go_simp; (try (with_reducible rfl)))
        try simp only [Act.put, siA, scZ, scS]
        refine wpAnyH_take' (i := 5) (v := ?v5_t3) 140 rfl rfl (by kernel_rfl) (by kernel_rfl) (by kernel_rfl) (fun _ _ _ h => h) (Or.inl ⟨by kernel_rfl, ?hy5_t3⟩) (by assumption) ?rest5_t3
        case hy5_t3 => (intro W_ hS_; (try dsimp only at hS_); go_simp; (try (with_reducible rfl)))
        try simp only [Act.put, siA, scZ, scS]
        refine wpAnyH_take' (i := 6) (v := ?v6_t3) 141 rfl rfl (by kernel_rfl) (by kernel_rfl) (by kernel_rfl) (fun _ _ _ h => h) (Or.inl ⟨by kernel_rfl, ?hy6_t3⟩) (by assumption) ?rest6_t3
        case hy6_t3 => (intro W_ hS_; (try dsimp only at hS_); go_simp; (try (with_reducible rfl)))
        try simp only [Act.put, siA, scZ, scS]
        refine wpAnyH_take' (i := 7) (v := ?v7_t3) 142 rfl rfl (by kernel_rfl) (by kernel_rfl) (by kernel_rfl) (fun _ _ _ h => h) (Or.inl ⟨by kernel_rfl, ?hy7_t3⟩) (by assumption) ?rest7_t3
        case hy7_t3 => (intro W_ hS_; (try dsimp only at hS_); go_simp; (try (with_reducible rfl)))
        try simp only [Act.put, siA, scZ, scS]
        refine wpAnyH_take' (i := 8) (v := ?v8_t3) 143 rfl rfl (by kernel_rfl) (by kernel_rfl) (by kernel_rfl) (fun _ _ _ h => h) (Or.inl ⟨by kernel_rfl, ?hy8_t3⟩) (by assumption) ?rest8_t3
        case hy8_t3 => (intro W_ hS_; (try dsimp only at hS_); go_simp; (try (with_reducible rfl)))
        try simp only [Act.put, siA, scZ, scS]
        refine wpAnyH_take' (i := 9) (v := ?v9_t3) 144 rfl rfl (by kernel_rfl) (by kernel_rfl) (by kernel_rfl) (fun _ _ _ h => h) (Or.inl ⟨by kernel_rfl, ?hy9_t3⟩) (by assumption) ?rest9_t3
        case hy9_t3 => (intro W_ hS_; (try dsimp only at hS_); go_simp; (try (with_reducible rfl)))
        try simp only [Act.put, siA, scZ, scS]
        refine wpAnyH_take' (i := 10) (v := ?v10_t3) 145 rfl rfl (by kernel_rfl) (by kernel_rfl) (by kernel_rfl) (fun _ _ _ h => h) (Or.inl ⟨by kernel_rfl, ?hy10_t3⟩) (by assumption) ?rest10_t3
        case hy10_t3 => (intro W_ hS_; (try dsimp only at hS_); go_simp; (try (with_reducible rfl)))
        try simp only [Act.put, siA, scZ, scS]
        refine wpAnyH_take' (i := 11) (v := ?v11_t3) 146 rfl rfl (by kernel_rfl) (by kernel_rfl) (by kernel_rfl) (fun _ _ _ h => h) (Or.inl ⟨by kernel_rfl, ?hy11_t3⟩) (by assumption) ?rest11_t3
        case hy11_t3 => (intro W_ hS_; (try dsimp only at hS_); go_simp; (try (with_reducible rfl)))
        try simp only [Act.put, siA, scZ, scS]
        refine wpAnyH_take' (i := 12) (v := ?v12_t3) 147 rfl rfl (by kernel_rfl) (by kernel_rfl) (by kernel_rfl) (fun _ _ _ h => h) (Or.inl ⟨by kernel_rfl, ?hy12_t3⟩) (by assumption) ?rest12_t3
        case hy12_t3 => (intro W_ hS_; (try dsimp only at hS_); go_simp; (try (with_reducible rfl)))
        try simp only [Act.put, siA, scZ, scS]
        refine wpAnyH_ready (rs := [13]) (by kernel_rfl) (by simp) ?_
        refine AllReadyH.cons rfl (fun K_ hK_ => ?_) AllReadyH.nil
        go_simp
        refine (refNew_lit2 _).mono ?_; rintro e wr13 ⟨rfl, hBr13⟩
        go_wp2_with fail
        refine hK_.out _ _ (by exact (nat_to (nat_to hx70 (below_drew1 _)) hBr13)) (fun hHeld_13 => ?_)
        clear hK_
        try simp only [Act.put, siA, scZ, scS]
        refine wpAnyH_take' (i := 14) (v := ?v14_t3) 149 rfl rfl (by kernel_rfl) (by kernel_rfl) (by kernel_rfl) (fun _ _ _ h => h) (Or.inl ⟨by kernel_rfl, ?hy14_t3⟩) (by assumption) ?rest14_t3
        case hy14_t3 => (intro W_ hS_; (try dsimp only at hS_); go_simp; (try (with_reducible rfl)))
        try simp only [Act.put, siA, scZ, scS]
        refine wpAnyH_take' (i := 15) (v := ?v15_t3) 150 rfl rfl (by kernel_rfl) (by kernel_rfl) (by kernel_rfl) (fun _ _ _ h => h) (Or.inl ⟨by kernel_rfl, ?hy15_t3⟩) (by assumption) ?rest15_t3
        case hy15_t3 => (intro W_ hS_; (try dsimp only at hS_); go_simp; (try (with_reducible rfl)))
        try simp only [Act.put, siA, scZ, scS]
        refine wpAnyH_done (by kernel_rfl) ?_ _
        obtain ⟨w71, hw71⟩ : ∃ w71, wr13 = w71 := ⟨_, rfl⟩
        have hB71 : Below wr.heap.size wr w71 := by rw [← hw71]; exact (below_then (below_drew1 _) hBr13)
        rw [hw71]
        clear hw71  hBr13
        have hT71 := below_then hT70 hB71
        have hm71 := NSl.to hm70 hB71
        have hx71 := nat_to hx70 hB71
        clear hT70  hm70 hx70 hB71
        go_wp2_with fail
        go_round
        case measure => simp [intOf]; omega
        exact ⟨i1 + 1, by omega, by go_num, hm71, hT71⟩
end Go.Proofs.YtcifjccojmfpaaaGreat

