/-
  NqN · NqA.
-/
import Derived.Test.YtcifjccojmfpaaaGreatJ0
import Derived.Test.YtcifjccojmfpaaaGreatJ1
import Derived.Test.YtcifjccojmfpaaaGreatJ2
import Derived.Test.YtcifjccojmfpaaaGreatJ3
import Derived.Test.YtcifjccojmfpaaaGreatJ4
import Derived.Test.YtcifjccojmfpaaaGreatJ5
import Derived.Test.YtcifjccojmfpaaaGreatJ8
import Derived.Test.YtcifjccojmfpaaaGreatJ9
import Derived.Test.YtcifjccojmfpaaaGreatJ10
set_option maxRecDepth 100000
set_option maxHeartbeats 4000000
namespace Go.Proofs.YtcifjccojmfpaaaGreat
open Go.RowKit
set_option linter.unusedVariables false
set_option linter.unusedSimpArgs false
theorem andNot7 (U : Nat) (h : U < 4611686018427387904) : bits .andNot .i64 (U : Int) 7 = ((U / 8 * 8 : Nat) : Int) := by
  have e1 : bits .andNot .i64 (U : Int) 7 = IntKind.i64.wrap ((BitVec.ofInt 64 (U : Int) &&& ~~~BitVec.ofInt 64 7).toNat : Int) := rfl
  have e2 : (~~~BitVec.ofInt 64 7).toNat = 2305843009213693951 <<< 3 := by decide
  have e3 : U &&& (2305843009213693951 <<< 3) = U / 8 * 8 := by
    have e4 : U / 8 * 8 = (U >>> 3) <<< 3 := by rw [Nat.shiftRight_eq_div_pow, Nat.shiftLeft_eq]
    rw [e4]
    apply Nat.eq_of_testBit_eq
    intro i
    rw [Nat.testBit_and, Nat.testBit_shiftLeft, Nat.testBit_shiftLeft, Nat.testBit_shiftRight, show 2305843009213693951 = 2 ^ 61 - 1 by decide, Nat.testBit_two_pow_sub_one]
    by_cases h3 : 3 ≤ i
    · rw [show 3 + (i - 3) = i by omega]
      by_cases h4 : i - 3 < 61
      · simp [h3, h4]
      · have h5 : U.testBit i = false := Nat.testBit_lt_two_pow (Nat.lt_of_lt_of_le h (by
          rw [show 4611686018427387904 = 2 ^ 62 by decide]; exact Nat.pow_le_pow_right (by decide) (by omega)))
        simp [h5]
    · simp [h3]
  rw [e1, BitVec.toNat_and, ofInt64 U (by omega), e2, e3, IntKind.wrap_i64]
  omega
theorem and7 (U : Nat) (h : U < 4611686018427387904) : bits .and .i64 (U : Int) 7 = ((U % 8 : Nat) : Int) := by
  have e1 : bits .and .i64 (U : Int) 7 = IntKind.i64.wrap ((BitVec.ofInt 64 (U : Int) &&& BitVec.ofInt 64 7).toNat : Int) := rfl
  have e2 : (BitVec.ofInt 64 7).toNat = 7 := by decide
  have e3 : U &&& 7 = U % 8 := Nat.and_two_pow_sub_one_eq_mod U 3
  rw [e1, BitVec.toNat_and, ofInt64 U (by omega), e2, e3, IntKind.wrap_i64]
  omega
theorem apartTo_at (Ns : List NC) : ∀ (k i : Nat), i < k → nd (apartTo Ns k) i = apAt Ns i
  | 0, i, h => by omega
  | k + 1, i, h => by
    have hl := apartTo_len Ns k
    by_cases e : i < k
    · have ih := apartTo_at Ns k i e
      simp only [nd, apartTo, List.getD] at ih ⊢
      rw [List.getElem?_append_left (by omega)]; exact ih
    · obtain rfl : i = k := by omega
      simp only [nd, apartTo, List.getD]
      rw [List.getElem?_append_right (by omega), hl]
      simp
theorem re_id {F : FC} (h : okC F) (i : Nat) : ∃ U : Nat, F.i = U ∧ U < 536870912 ∧ bits .andNot .i64 F.i 7 = ((U / 8 * 8 : Nat) : Int) ∧ (reC i F).i = ((U / 8 * 8 + i : Nat) : Int) := by
  obtain ⟨U, h1, h2⟩ := h
  have hlt : U < 536870912 := by unfold idOk at h2; split at h2 <;> omega
  refine ⟨U, h1, hlt, by rw [h1]; exact andNot7 U (by omega), ?_⟩
  unfold reC
  rw [h1, Int.toNat_natCast]
theorem re_right {F : FC} (h : rightC F = true) {i : Nat} (hi : i < 8) : rightC (reC i F) = true := by
  obtain ⟨ID, L, h1, h2, h3, h4, h5⟩ := right_parts10 h
  unfold rightC at h ⊢
  unfold reC
  rw [h1, Int.toNat_natCast]
  dsimp only
  rw [h2]
  refine right_ok10 ?_ F.r L F.d.length h4 h5
  unfold idOk at h3 ⊢
  split at h3 <;> simp_all <;> omega
theorem re_mod (F : FC) {i : Nat} (hi : i < 8) : (reC i F).i % 8 = i := by
  unfold reC
  dsimp only
  omega
theorem frTo_at (Ns : List NC) : ∀ (k i : Nat), i < Ns.length → (nd (frTo Ns k) i).q = (nd Ns i).q ∧ (nd (frTo Ns k) i).g = (nd Ns i).g ∧ (nd (frTo Ns k) i).l = (nd Ns i).l ∧ (nd (frTo Ns k) i).k = if i < k then newV else (nd Ns i).k
  | 0, i, h => ⟨rfl, rfl, rfl, by rw [if_neg (by omega)]; rfl⟩
  | k + 1, i, h => by
    have ih := frTo_at Ns k i h
    rw [frTo, nd_set i (by rw [frTo_len]; exact h)]
    by_cases e : i = k
    · subst e
      rw [if_pos rfl, if_pos (by omega)]
      exact ⟨ih.1, ih.2.1, ih.2.2.1, rfl⟩
    · rw [if_neg e]
      refine ⟨ih.1, ih.2.1, ih.2.2.1, ih.2.2.2.trans ?_⟩
      by_cases h1 : i < k
      · rw [if_pos h1, if_pos (by omega)]
      · rw [if_neg h1, if_neg (by omega)]
theorem sumQ_le {Ns : List NC} {M : Nat} (h : ∀ i, i < Ns.length → (nd Ns i).q.length ≤ M) : ∀ k, k ≤ Ns.length → sumQ Ns k ≤ k * M
  | 0, _ => Nat.zero_le _
  | k + 1, hk => by
    have := sumQ_le h k (by omega)
    have := h k (by omega)
    rw [sumQ, Nat.succ_mul]; omega
theorem sumQ_many (Ns : List NC) : sumQ Ns Ns.length = manyQ Ns := by
  have key : ∀ k, k ≤ Ns.length → sumQ Ns k = ((Ns.take k).map fun N => N.q.length).sum := by
    intro k
    induction k with
    | zero => intro _; rfl
    | succ k ih =>
      intro hk
      rw [sumQ, ih (by omega), List.take_add_one, nd_get (show k < Ns.length by omega)]
      simp [List.sum_append]
  rw [key _ (Nat.le_refl _), List.take_length]; rfl
theorem ordN_len (Ms : List NC) : (ordN Ms).length = Ms.length := apartTo_len _ _
theorem ordN_at {Ms : List NC} {i : Nat} (hi : i < Ms.length) : nd (ordN Ms) i = ⟨(nd Ms i).q.map (reC i), (nd Ms i).l, newV, (nd Ms i).g⟩ := by
  unfold ordN
  rw [apartTo_at _ _ i hi]
  unfold apAt
  obtain ⟨h1, h2, h3, h4⟩ := frTo_at Ms Ms.length i hi
  rw [if_pos hi] at h4
  rw [h1]
  cases e : nd (frTo Ms Ms.length) i
  rw [e] at h2 h3 h4
  dsimp only at h2 h3 h4
  rw [h2, h3, h4]
theorem ordN_apt {Ms : List NC} (h : ∀ N ∈ Ms, OkN N) (h2 : 2 ≤ Ms.length) (h8 : Ms.length ≤ 8) : Apt (ordN Ms) := by
  refine ⟨⟨fun N hN => ?_⟩, by rw [ordN_len]; exact h2, fun i hi => ?_, fun i hi F hF => ?_⟩
  · obtain ⟨i, hi, e⟩ := List.getElem_of_mem hN
    have hi2 : i < Ms.length := by rw [ordN_len] at hi; exact hi
    have e2 : nd (ordN Ms) i = N := by simp [nd, List.getD, List.getElem?_eq_getElem hi, e]
    rw [← e2, ordN_at hi2]
    have hk := h _ (nd_mem hi2)
    refine ⟨fun F hF => ?_, by simp only [List.length_map]; exact hk.qm, hk.g, hk.gm, hk.l, hk.lm, ok_new⟩
    simp only [List.mem_map] at hF
    obtain ⟨G, hG, rfl⟩ := hF
    exact re_right (hk.q G hG) (by omega)
  · rw [ordN_len] at hi; rw [ordN_at hi]
  · rw [ordN_len] at hi
    rw [ordN_at hi] at hF
    simp only [List.mem_map] at hF
    obtain ⟨G, hG, rfl⟩ := hF
    exact re_mod G (by omega)
theorem ordN_many (Ms : List NC) : manyQ (ordN Ms) = manyQ Ms := by
  unfold manyQ
  congr 1
  apply List.ext_getElem
  · simp [ordN_len]
  · intro i h1 h2
    have hi : i < Ms.length := by simpa using h2
    have e1 := many_at (Ns := ordN Ms) (i := i) (by rw [ordN_len]; exact hi)
    have e2 := many_at (Ns := Ms) hi
    rw [ordN_at hi] at e1
    simp only [List.length_map] at e1
    rw [List.getD, List.getElem?_eq_getElem h1] at e1
    rw [List.getD, List.getElem?_eq_getElem h2] at e2
    simp only [Option.getD_some] at e1 e2
    rw [e1, e2]
end Go.Proofs.YtcifjccojmfpaaaGreat

namespace Go.Proofs.YtcifjccojmfpaaaGreat
open Go.RowKit
set_option linter.unusedVariables false
set_option linter.unusedSimpArgs false
theorem w64_vk (V k : Nat) (h : V < 536870912) (hk : k < 100) : wrap64 ((V : Int) + (k : Int)) = ((V : Int) + (k : Int)) := by unfold wrap64; omega
theorem wi_vk (V k : Nat) (h : V < 536870912) (hk : k < 100) : IntKind.i64.wrap ((V : Int) + (k : Int)) = ((V : Int) + (k : Int)) := by rw [IntKind.wrap_i64]; omega
theorem fis_re {w : World} {P : Nat → Prop} {f : FV} {F : FC} (h : FIs w P f F) {i V : Nat} (e : (reC i F).i = ((V + i : Nat) : Int)) : FIs w P ⟨f.x, ((V : Int) + (i : Int)), f.r, f.n, f.a, f.m, f.c⟩ (reC i F) :=
  ⟨h.x, (by rw [e]; simp), h.r, h.n, h.len, h.cap, h.big, h.byte, h.row, h.inP⟩
theorem out_offlow {P : Nat → Prop} {L : List Nat} {s : Nat} (hL : ∀ Y ∈ L, s ≤ Y) : ∀ b, b < s → P b → Off P L b := fun b hb hp => ⟨hp, fun Y hY e => by have := hL Y hY; omega⟩
theorem apart_c {w : World} {P : Nat → Prop} {A : Option Addr} {n c : Nat} {Ns : List NC} (h : NSl w P A n c Ns) (hok : OkNs Ns) (hn8 : n ≤ 8) (hP : ∀ b, w.heap.size ≤ b → P b) :
    Calls Tryz.prog 30 #[.slice A n c] w fun e w' => ∃ (A' : Option Addr) (c' : Nat), e = .returned (.slice A' n c') ∧ NSl w' P A' n c' (apartTo Ns n) ∧ Below w.heap.size w w' := by
  have Hok := Lib.hid hok
  have Hl := Lib.hid h.len
  clear hok
  go_enter Tryz.func30, Tryz.ntmps30
  go_wp2_with fail
  go_loopw [3, 4] (fun o i wr => ∃ (k c2 : Nat) (A2 : Option Addr) (ns : List NV), k ≤ n ∧ i = .int .i64 k ∧ o = .slice A2 k c2 ∧ NOwn wr w.heap.size A2 k c2 ns ∧ NsIs wr (Off P ([] ++ ownL A2)) ns (apartTo Ns k) ∧ Below w.heap.size w wr) (fun _ i _ => n - (intOf i).toNat)
  case atStart => exact ⟨0, 0, _, [], Nat.zero_le _, rfl, rfl, gown_empty shN w _ _ rfl (Nat.le_refl _), AllIs.nil, below_alloc1 _ _⟩
  case round =>
    obtain ⟨k, c2, A2, ns, hk, rfl, rfl, hO50, hA50, hT50⟩ := hrel
    obtain ⟨wo, e_⟩ : ∃ w_, w_ = wr := ⟨_, rfl⟩
    subst e_
    by_cases hlt : k < n
    rotate_left
    · obtain rfl : k = n := by omega
      have j1 : ¬ (k : Int) < (k : Int) := by omega
      go_wp2_with fail
      go_ret
      exact ⟨A2, c2, rfl, NSl.own hO50 (NsIs.mono hA50 off_base) (by omega) hP, hT50⟩
    have j1 : (k : Int) < (n : Int) := by omega
    obtain ⟨ad, m, ea_, hAt0, hV⟩ := NSl.at_ h hlt
    obtain ⟨N, hN_⟩ : ∃ N_, nd Ns k = N_ := ⟨_, rfl⟩
    replace hV : NIs w P m N := by rw [← hN_]; exact hV
    have HN := Lib.hid hN_
    clear hN_
    subst ea_
    have HokN := Lib.hid (show OkN N by rw [← HN.out]; exact Hok.out.at_ (by rw [Hl.out]; exact hlt))
    have hqm : m.qm ≤ 16 := by rw [← hV.q.len]; exact HokN.out.qm
    have ht_ := nat_to hAt0 hT50
    obtain ⟨t0, t1, t2, t3, t4, t5, t6⟩ := ht_
    go_upto_region 6 with fail
    clear t0 t1 t2 t3 t4 t5 t6
    obtain ⟨X, hX_⟩ : ∃ X, wo.heap.size = X := ⟨_, rfl⟩
    have hXw : w.heap.size ≤ X := by rw [← hX_]; exact hT50.size
    obtain ⟨w51, hw51⟩ : ∃ w_, wo.alloc (.cells #[.slice m.qa m.qm m.qc, .slice m.la m.lm m.lc, .int .i64 m.k.t, .int .i64 m.k.r, .int .i64 m.k.s, .int .i64 m.k.q, .slice m.ga m.gm m.gc] 49) = w_ := ⟨_, rfl⟩
    have hB51 : Below wo.heap.size wo w51 := by rw [← hw51]; exact below_alloc1 _ _
    have hx51 : w51.heap[X]? = some (.cells #[.slice m.qa m.qm m.qc, .slice m.la m.lm m.lc, .int .i64 m.k.t, .int .i64 m.k.r, .int .i64 m.k.s, .int .i64 m.k.q, .slice m.ga m.gm m.gc] 49) := by rw [← hw51, ← hX_]; exact World.alloc_heap_new _ _
    have hs51 : w51.heap.size = X + 1 := by rw [← hw51, ← hX_]; simp
    have Hs51 := Lib.hid hs51
    clear hs51
    rw [hw51, hX_]
    clear hw51
    have HX := Lib.hid hX_
    clear hX_
    obtain ⟨⟨x0, x1, x2, x3, x4, x5, x6⟩, y0, y1, y2, y3, y4, y5, y6⟩ := cells7 hx51
    have hlx := (Array.getElem?_eq_some_iff.1 hx51).1
    go_upto_region 7 with fail
    clear x0 x1 x2 x3 x4 x5 x6 y0 y1 y2 y3 y4 y5 y6 hlx
    obtain ⟨w5a, hw5a⟩ : ∃ w_, w51.setCell ⟨X, 0, none⟩ (.slice (some ⟨w51.heap.size, 0, none⟩) 0 0) = w_ := ⟨_, rfl⟩
    have hG5a : w51.grownBy w5a (some X) := by rw [← hw5a]; exact grown_setAt _ _ _ _
    have hx5a : w5a.heap[X]? = some (.cells #[.slice (some ⟨w51.heap.size, 0, none⟩) 0 0, .slice m.la m.lm m.lc, .int .i64 m.k.t, .int .i64 m.k.r, .int .i64 m.k.s, .int .i64 m.k.q, .slice m.ga m.gm m.gc] 49) := by rw [← hw5a]; exact set0_obj7 hx51 _
    have hs5a : w5a.heap.size = w51.heap.size := by rw [← hw5a]; simp [World.setCell]
    have Hs5a := Lib.hid hs5a
    rw [hw5a]
    clear hw5a hs5a
    obtain ⟨w52, hw52⟩ : ∃ w_, w5a.alloc (.cells #[] 34) = w_ := ⟨_, rfl⟩
    have hO52 : FOwn w52 (X + 1) (some ⟨w51.heap.size, 0, none⟩) 0 0 [] := by rw [← hw52]; exact fown_empty w5a (X + 1) _ Hs5a.out.symm (Nat.le_of_eq (by rw [Hs5a.out, Hs51.out]))
    have hx52 : w52.heap[X]? = some (.cells #[.slice (some ⟨w51.heap.size, 0, none⟩) 0 0, .slice m.la m.lm m.lc, .int .i64 m.k.t, .int .i64 m.k.r, .int .i64 m.k.s, .int .i64 m.k.q, .slice m.ga m.gm m.gc] 49) := by rw [← hw52]; exact block_below (below_alloc1 _ _) hx5a
    have hZ52 : Below X wo w52 := by rw [← hw52, ← HX.out]; exact below_then (below_g hB51 hG5a (Nat.le_of_eq HX.out)) (below_alloc1 _ _)
    rw [hw52]
    clear hw52 hG5a hx5a hx51 hB51
    go_wp2_with fail
    go_loopw [6] (fun i wr => ∃ (j c3 : Nat) (A3 : Option Addr) (gs : List FV), j ≤ m.qm ∧ i = .int .i64 j ∧ wr.heap[X]? = some (.cells #[.slice A3 j c3, .slice m.la m.lm m.lc, .int .i64 m.k.t, .int .i64 m.k.r, .int .i64 m.k.s, .int .i64 m.k.q, .slice m.ga m.gm m.gc] 49) ∧ FOwn wr (X + 1) A3 j c3 gs ∧ FsIs w P gs ((N.q.take j).map (reC k)) ∧ Below X wo wr) (fun i _ => m.qm - (intOf i).toNat)
    case atStart => exact ⟨0, 0, _, [], Nat.zero_le _, rfl, hx52, hO52, FsIs.nil, hZ52⟩
    case round =>
      clear hx52 hO52 hZ52
      obtain ⟨j, c3, A3, gs, hj, rfl, hx60, hO60, hF60, hZ60⟩ := hrel
      obtain ⟨w60, e_⟩ : ∃ w_, w_ = wr := ⟨_, rfl⟩
      subst e_
      have hT60 : Below w.heap.size w w60 := hT50.trans (hZ60.mono hXw)
      have ht_ := nat_to hAt0 hT60
      obtain ⟨t0, t1, t2, t3, t4, t5, t6⟩ := ht_
      by_cases hjl : j < m.qm
      rotate_left
      · obtain rfl : j = m.qm := by omega
        have j2 : ¬ (m.qm : Int) < (m.qm : Int) := by omega
        obtain ⟨x0, x1, x2, x3, x4, x5, x6⟩ := cells7' hx60
        have hlx := (Array.getElem?_eq_some_iff.1 hx60).1
        have hXo : X ≤ w60.heap.size := Nat.le_of_lt hlx
        have LITC : True := trivial
        have hOx : NOwn (w60.alloc (.cells #[.slice A3 m.qm c3, .slice m.la m.lm m.lc, .int .i64 m.k.t, .int .i64 m.k.r, .int .i64 m.k.s, .int .i64 m.k.q, .slice m.ga m.gm m.gc] 49)) w.heap.size A2 k c2 ns := GOwn.to (GOwn.to hO50 (HX.out ▸ hZ60)) (below_alloc1 _ _)
        have hTx := below_then hT60 (below_alloc1 w60 (.cells #[.slice A3 m.qm c3, .slice m.la m.lm m.lc, .int .i64 m.k.t, .int .i64 m.k.r, .int .i64 m.k.s, .int .i64 m.k.q, .slice m.ga m.gm m.gc] 49))
        have hA60 : NsIs w60 (Off P ([] ++ ownL A2)) ns (apartTo Ns k) := NsIs.to hA50 (HX.out ▸ hZ60)
        have hAx : NsIs (w60.alloc (.cells #[.slice A3 m.qm c3, .slice m.la m.lm m.lc, .int .i64 m.k.t, .int .i64 m.k.r, .int .i64 m.k.s, .int .i64 m.k.q, .slice m.ga m.gm m.gc] 49)) (Off P ([] ++ ownL A2)) ns (apartTo Ns k) := NsIs.to hA60 (below_alloc1 _ _)
        have hge := out_offlow (P := P) (L := [] ++ ownL A2) (s := w.heap.size) (fun Y hY => gown_ge hO50 Y (by simpa using hY))
        have hup : ∀ b, X + 1 ≤ b → Off P ([] ++ ownL A2) b := fun b hb => ⟨hP b (by omega), fun Y hY e => by have h1 := gown_lt hO50 Y (by simpa using hY); have h2 := HX.out; omega⟩
        have hq_ : (N.q.take m.qm).map (reC k) = N.q.map (reC k) := by rw [List.take_of_length_le (by rw [hV.q.len]; exact Nat.le_refl _)]
        rw [hq_] at hF60
        have hVx : NIs w60 (Off P ([] ++ ownL A2)) (⟨A3, m.qm, c3, m.la, m.lm, m.lc, m.k, m.ga, m.gm, m.gc⟩ : NV) (apAt Ns k) := by
          have e1 : apAt Ns k = ⟨N.q.map (reC k), N.l, N.k, N.g⟩ := by unfold apAt; rw [show nd Ns k = N from HN.out]
          rw [e1]
          exact ⟨FSl.own hO60 ((hF60.mono hge).to hT60) (Nat.le_trans hqm (by decide)) hup, (hV.l.mono hge).to hT60, hV.k, (hV.g.mono hge).to hT60⟩
        have hVy := NIs.to hVx (below_alloc1 w60 (.cells #[.slice A3 m.qm c3, .slice m.la m.lm m.lc, .int .i64 m.k.t, .int .i64 m.k.r, .int .i64 m.k.s, .int .i64 m.k.q, .slice m.ga m.gm m.gc] 49))
        clear hF60 hq_
        go_wp2_with (at_builtin; refine wpList_append_g shN Tryz.infoN _ rfl _ _ rfl w.heap.size A2 k c2 ns rfl hOx _ 1 _ _ [(⟨A3, m.qm, c3, m.la, m.lm, m.lc, m.k, m.ga, m.gm, m.gc⟩ : NV)] rfl rfl (GRow.lit w60 [(⟨A3, m.qm, c3, m.la, m.lm, m.lc, m.k, m.ga, m.gm, m.gc⟩ : NV)] rfl rfl) (by omega) hTx.size ?_; intro A5 c5 w90 hO90 hc90 hg90 he90 hB90)
        clear t0 t1 t2 t3 t4 t5 t6 x0 x1 x2 x3 x4 x5 x6 hlx
        go_round
        case measure => simp [intOf]; omega
        exact ⟨k + 1, c5, A5, _, by omega, by go_num, rfl, hO90, AllIs.append (nsis_off hAx hg90 he90) (AllIs.one (nis_off hVy hg90 he90)), hTx.trans hB90⟩
      have j2 : (j : Int) < (m.qm : Int) := by omega
      obtain ⟨ad2, f, ea_, hfat, hf, hmem⟩ := fsl_getD hV.q hjl
      rw [ea_] at t0
      clear ea_
      obtain ⟨F, hF_⟩ : ∃ F, N.q.getD j zeroF = F := ⟨_, rfl⟩
      rw [hF_] at hf hmem
      have HF := Lib.hid hF_
      clear hF_
      obtain ⟨U, hU1, hU2, hU3, hU4⟩ := re_id (HokN.out.okq F hmem) k
      obtain ⟨V, hV_⟩ : ∃ V, U / 8 * 8 = V := ⟨_, rfl⟩
      have hVlt : V < 536870912 := by omega
      rw [hV_] at hU3 hU4
      have hfi : f.i = F.i := hf.i
      rw [← hfi] at hU3
      have hk100 : k < 100 := by omega
      have hwv := w64_vk V k hVlt hk100
      have hiv := wi_vk V k hVlt hk100
      clear hk100
      have HU4 := Lib.hid hU4
      clear hU1 hU2 hU4 hV_ hfi hmem
      obtain ⟨g0, g1, g2, g3, g4⟩ : FAt w60 (ad2.add (j * 5)) f := fat_to hfat hT60
      go_upto_region 12 with fail
      clear g0 g1 g2 g3 g4 hU3 hwv hiv
      obtain ⟨w61, hw61⟩ : ∃ w_, w60.alloc (.cells #[.bool f.x, .int .i64 ((V : Int) + (k : Int)), .bool f.r, .int .i64 f.n, .slice f.a f.m f.c] 34) = w_ := ⟨_, rfl⟩
      have hB61 : Below w60.heap.size w60 w61 := by rw [← hw61]; exact below_alloc1 _ _
      have hy61 : w61.heap[w60.heap.size]? = some (.cells #[.bool f.x, .int .i64 ((V : Int) + (k : Int)), .bool f.r, .int .i64 f.n, .slice f.a f.m f.c] 34) := by rw [← hw61]; exact World.alloc_heap_new _ _
      rw [hw61]
      clear hw61
      have hx61 := block_below hB61 hx60
      have hOy : FOwn (w61.alloc (.cells #[.bool f.x, .int .i64 ((V : Int) + (k : Int)), .bool f.r, .int .i64 f.n, .slice f.a f.m f.c] 34)) (X + 1) A3 j c3 gs := own_to (own_to hO60 hB61) (below_alloc1 _ _)
      have hlx := (Array.getElem?_eq_some_iff.1 hx61).1
      have hly := (Array.getElem?_eq_some_iff.1 hy61).1
      obtain ⟨x0, x1, x2, x3, x4, x5, x6⟩ := cells7' hx61
      obtain ⟨y0, y1, y2, y3, y4⟩ := cells5' hy61
      have hXs : X + 1 ≤ (w61.alloc (.cells #[.bool f.x, .int .i64 ((V : Int) + (k : Int)), .bool f.r, .int .i64 f.n, .slice f.a f.m f.c] 34)).heap.size := by have h1 := (below_alloc1 w61 (.cells #[.bool f.x, .int .i64 ((V : Int) + (k : Int)), .bool f.r, .int .i64 f.n, .slice f.a f.m f.c] 34)).size; omega
      go_wp2_with (at_builtin; refine wpList_append_frO _ rfl _ _ rfl (X + 1) A3 j c3 gs rfl hOy _ 1 _ _ [(⟨f.x, ((V : Int) + (k : Int)), f.r, f.n, f.a, f.m, f.c⟩ : FV)] rfl rfl (FRow.lit1 w61 (⟨f.x, ((V : Int) + (k : Int)), f.r, f.n, f.a, f.m, f.c⟩ : FV) rfl) (by omega) hXs ?_; intro A4 c4 w62 hO62 hc62 hg62 he62 hB62; have hx62 := (hB62.block X (by omega)).trans (block_below (below_alloc1 w61 (.cells #[.bool f.x, .int .i64 ((V : Int) + (k : Int)), .bool f.r, .int .i64 f.n, .slice f.a f.m f.c] 34)) hx61); obtain ⟨⟨z0, z1, z2, z3, z4, z5, z6⟩, v0, v1, v2, v3, v4, v5, v6⟩ := cells7 hx62)
      clear x0 x1 x2 x3 x4 x5 x6 y0 y1 y2 y3 y4 t0 t1 t2 t3 t4 t5 t6
      clear z0 z1 z2 z3 z4 z5 z6 v0 v1 v2 v3 v4 v5 v6
      obtain ⟨w63, hw63⟩ : ∃ w_, w62.setCell ⟨X, 0, none⟩ (.slice A4 (j + 1) c4) = w_ := ⟨_, rfl⟩
      have hG63 : w62.grownBy w63 (some X) := by rw [← hw63]; exact grown_setAt _ _ _ _
      have hx63 : w63.heap[X]? = some (.cells #[.slice A4 (j + 1) c4, .slice m.la m.lm m.lc, .int .i64 m.k.t, .int .i64 m.k.r, .int .i64 m.k.s, .int .i64 m.k.q, .slice m.ga m.gm m.gc] 49) := by rw [← hw63]; exact set0_obj7 hx62 _
      rw [hw63]
      clear hw63
      have hZy : Below X wo (w61.alloc (.cells #[.bool f.x, .int .i64 ((V : Int) + (k : Int)), .bool f.r, .int .i64 f.n, .slice f.a f.m f.c] 34)) := (hZ60.trans (hB61.mono (by have := (Array.getElem?_eq_some_iff.1 hx60).1; omega))).alloc (by omega) _
      have hZ62 : Below X wo w62 := hZy.trans (hB62.mono (by omega))
      have hF63 : FsIs w P (gs ++ [⟨f.x, ((V : Int) + (k : Int)), f.r, f.n, f.a, f.m, f.c⟩]) ((N.q.take (j + 1)).map (reC k)) := by
        have e1 : (N.q.take (j + 1)).map (reC k) = (N.q.take j).map (reC k) ++ [reC k F] := by
          have hj2 : j < N.q.length := by rw [hV.q.len]; exact hjl
          have e2 : N.q[j]'hj2 = F := by have := HF.out; simpa [List.getD, List.getElem?_eq_getElem hj2] using this
          rw [List.take_add_one, List.getElem?_eq_getElem hj2, List.map_append, e2]; rfl
        rw [e1]
        exact hF60.append (FsIs.one (fis_re hf HU4.out))
      go_round
      case measure => simp [intOf]; omega
      exact ⟨j + 1, c4, A4, _, by omega, by go_num, hx63, own_grown hO62 hG63 (by omega), hF63, by rw [← HX.out] at hZ62 ⊢; exact below_g hZ62 hG63 (Nat.le_of_eq HX.out)⟩
end Go.Proofs.YtcifjccojmfpaaaGreat

