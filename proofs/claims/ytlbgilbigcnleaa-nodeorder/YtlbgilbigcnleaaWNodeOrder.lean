/-
  NodeOrder: the walk.
-/
import Derived.Test.YtlbgilbigcnleaaNdG
import Derived.Test.YtlbgilbigcnleaaNdV
import Derived.Test.YtlbgilbigcnleaaNeO
import Derived.Test.YtlbgilbigcnleaaNeS
import Derived.Test.YtlbgilbigcnleaaNdN
import Derived.Deep.CutRange
namespace Go.Proofs.Ytlbgilbigcnleaa
open Go.RowKit
set_option linter.unusedVariables false
set_option linter.unusedSimpArgs false

theorem out_up_low {X s : Nat} (hs : s ≤ X) : ∀ b, b < s → True → Out [X] b := by
  intro b hb _ Y hY
  simp at hY; omega

theorem own_mono {w : World} {base base' : Nat} {A : Option Addr} {n c : Nat} {fs : List FV} (h : FOwn w base A n c fs) (hb : base' ≤ base) : FOwn w base' A n c fs := by
  refine ⟨h.1, ?_⟩
  rcases h.2 with hn | ⟨g, cap, cur, e, hg, rest⟩
  · exact .inl hn
  · exact .inr ⟨g, cap, cur, e, Nat.le_trans hb hg, rest⟩
theorem fat_gr {w0 w w' : World} {a : Addr} {f : FV} {X : Nat} (h : FAt w0 a f) (b : Below w0.heap.size w0 w) (g : w.grownBy w' (some X)) (hX : w0.heap.size ≤ X) : FAt w' a f :=
  fat_to h (below_g b g hX)
abbrev qN (Q : List FC) : NC := ⟨Q, [], newV, []⟩
def lenV : Value → Nat
  | .slice _ n _ => n
  | _ => 0
theorem q_has {Q : List FC} (h : Q ≠ []) : hasN (qN Q) = true := by unfold hasN; simp [h, newV]
theorem q_next {Q : List FC} (h : Q ≠ []) : nextF (qN Q) = Q.getD (leastTo Q Q.length) zeroF := by unfold nextF; rw [q_has h]; rfl
theorem q_sent {Q : List FC} (h : Q ≠ []) : sentN (qN Q) true = qN (Q.eraseIdx (leastTo Q Q.length)) := by
  unfold sentN
  rw [q_has h, if_pos rfl, if_pos rfl, show stepV (qN Q).k 1 = newV from (by decide : stepV newV 1 = newV)]
  rfl
theorem q_send {Q : List FC} {F : FC} (hF : rightC F = true) (h : Q.length < 16) : sendE (qN Q) F = 0 ∧ sendN (qN Q) F = qN (Q ++ [F]) := by
  have e : sendE (qN Q) F = 0 := by
    unfold sendE
    rw [if_pos hF, if_neg (by show ¬ newV.s = 3; decide), if_neg (by show ¬ 16 ≤ Q.length; omega)]
  exact ⟨e, by unfold sendN; rw [if_pos e]⟩
theorem q_ok {Q : List FC} (h : ∀ F ∈ Q, rightC F = true) (hl : Q.length ≤ 16) : OkN (qN Q) := ⟨h, hl, by simp, by simp, by simp, by simp, ok_new⟩
theorem q_front {Q : List FC} {j : Nat} (h : j < leastTo Q Q.length) : sameF (Q.getD j zeroF) (Q.getD (leastTo Q Q.length) zeroF) = false := by
  have h1 := leastTo_front Q _ j h
  unfold sameF
  refine decide_eq_false fun e => ?_
  rw [e, lessC_irr] at h1
  cases h1
theorem getD_mem {Q : List FC} {k n : Nat} (hn : Q.length = n) (hk : k < n) : Q.getD k zeroF ∈ Q := by
  have : k < Q.length := by rw [hn]; exact hk
  have e : Q.getD k zeroF = Q[k] := by simp [List.getD, List.getElem?_eq_getElem this]
  rw [e]; exact List.getElem_mem this
theorem take_one {Q : List FC} {k n : Nat} (hn : Q.length = n) (hk : k < n) : Q.take k ++ [Q.getD k zeroF] = Q.take (k + 1) := by
  have : k < Q.length := by rw [hn]; exact hk
  rw [List.take_add_one, List.getElem?_eq_getElem this]
  simp [List.getD, List.getElem?_eq_getElem this]

set_option maxRecDepth 100000 in
set_option maxHeartbeats 4000000 in
theorem nodeOrder_any (la : Option Addr) (ln lc : Nat) (Ls : List FC) (w : World) (hl : FSl w (fun _ => True) la ln lc Ls) :
    Calls Try.prog 5 #[.slice la ln lc] w fun e w' => e = .returned (.bool true) ∧ Below w.heap.size w w' := by
  have hT0 : Below w.heap.size w w := Below.refl _ _
  go_enter Try.func5, Try.ntmps5
  go_wp2_with fail
  refine (head_c w).mono ?_
  rintro e w1 ⟨rfl, hB1⟩
  have hT1 := below_then hT0 hB1
  clear hT0   hB1
  by_cases h1 : ln ≤ 16
  rotate_left
  · skip
    have i1 : (16 : Int) < (ln : Int) := by omega
    go_wp2_with fail
    go_ret
    exact ⟨rfl, hT1⟩
  have i1 : ¬ (16 : Int) < (ln : Int) := by omega
  go_wp2_with fail
  clear i1
  refine (new_c (LSl.none_ (P := Out [])) (by decide) (out_up (fun _ h => by cases h)) 0 (by decide) (qN []) (by decide)).mono ?_
  rintro e w2 ⟨n1, rfl, hn1_, hB2⟩
  have hT2 := below_then hT1 hB2
  clear hT1   hB2
  have hn12 := hn1_
  clear hn1_
  go_wp2_with fail
  replace hn12 := hn12.mono (out_cons (L := []) (X := w2.heap.size) (Nat.le_refl _))
  have hgen : w.heap.size ≤ w2.heap.size := hT2.size
  obtain ⟨w3, hw3⟩ : ∃ w3, w2.alloc (.cells #[.slice n1.qa n1.qm n1.qc, .slice n1.la n1.lm n1.lc, .int .i64 n1.k.t, .int .i64 n1.k.r, .int .i64 n1.k.s, .int .i64 n1.k.q, .slice n1.ga n1.gm n1.gc] 27) = w3 := ⟨_, rfl⟩
  have hB3 : Below w2.heap.size w2 w3 := by rw [← hw3]; exact below_alloc1 _ _
  have hn3 : w3.heap[w2.heap.size]? = some (.cells #[.slice n1.qa n1.qm n1.qc, .slice n1.la n1.lm n1.lc, .int .i64 n1.k.t, .int .i64 n1.k.r, .int .i64 n1.k.s, .int .i64 n1.k.q, .slice n1.ga n1.gm n1.gc] 27) := by rw [← hw3]; exact World.alloc_heap_new _ _
  rw [hw3]
  clear hw3
  have hT3 := below_then hT2 hB3
  have hn13 := NIs.to hn12 hB3
  clear hT2  hn12 hB3
  have Hll := Lib.hid hl.len
  go_loopw [6] (fun i wr => ∃ (k : Nat) (m : NV), k ≤ ln ∧ i = .int .i64 k ∧ (∀ F ∈ Ls.take k, rightC F = true) ∧ wr.heap[w2.heap.size]? = some (.cells #[.slice m.qa m.qm m.qc, .slice m.la m.lm m.lc, .int .i64 m.k.t, .int .i64 m.k.r, .int .i64 m.k.s, .int .i64 m.k.q, .slice m.ga m.gm m.gc] 27) ∧ NIs wr (Out [w2.heap.size]) m (qN (Ls.take k)) ∧ Below w.heap.size w wr) (fun i _ => ln - (intOf i).toNat)
  case atStart => exact ⟨0, n1, Nat.zero_le _, rfl, by simp, hn3, hn13, hT3⟩
  case round =>
    clear hn3 hn13 hT3
    obtain ⟨k, m, hk, rfl, hrt, hn50, hV50, hT50⟩ := hrel
    have Hrt := Lib.hid hrt
    clear hrt
    have HokK := Lib.hid (q_ok Hrt.out (by have := Hll.out; simp; omega))
    by_cases hlt : k < ln
    · skip
      have j1 : (k : Int) < (ln : Int) := by omega
      obtain ⟨ad, f, ea, hAt50, hF50, _⟩ := fsl_getD ((hl.mono (Q := Out [w2.heap.size]) (out_up_low hgen)).to hT50) hlt
      obtain ⟨F, hFF⟩ : ∃ F, Ls.getD k zeroF = F := ⟨_, rfl⟩
      rw [hFF] at hF50
      have HFF := Lib.hid hFF
      clear hFF
      subst ea
      have ht_ := hAt50
      obtain ⟨t0, t1, t2, t3, t4⟩ := ht_
      have hln := (Array.getElem?_eq_some_iff.1 hn50).1
      obtain ⟨nc0, nc1, nc2, nc3, nc4, nc5, nc6⟩ := cells7' hn50
      go_wp2_with fail
      clear t0 t1 t2 t3 t4 hln nc0 nc1 nc2 nc3 nc4 nc5 nc6
      obtain ⟨a, ha⟩ : ∃ q, decide (100 < F.d.length) = q := ⟨_, rfl⟩
      have Ha := Lib.hid ha
      clear ha
      cases a
      rotate_left
      · skip
        refine (great_c hF50 true Ha.out).mono ?_
        rintro e w51 ⟨rfl, hB51⟩
        have hT51 := below_then hT50 hB51
        have hn51 := block_below hB51 hn50
        have hV51 := NIs.to hV50 hB51
        have hF51 := FIs.to hF50 hB51
        have hAt51 := fat_to hAt50 hB51
        clear hT50 hn50 hV50 hF50 hAt50 hB51
        have hln := (Array.getElem?_eq_some_iff.1 hn51).1
        obtain ⟨nc0, nc1, nc2, nc3, nc4, nc5, nc6⟩ := cells7' hn51
        go_wp2_with fail
        go_ret
        exact ⟨rfl, hT51⟩
      refine (great_c hF50 false Ha.out).mono ?_
      rintro e w51 ⟨rfl, hB51⟩
      have hT51 := below_then hT50 hB51
      have hn51 := block_below hB51 hn50
      have hV51 := NIs.to hV50 hB51
      have hF51 := FIs.to hF50 hB51
      have hAt51 := fat_to hAt50 hB51
      clear hT50 hn50 hV50 hF50 hAt50 hB51
      have ht_ := hAt51
      obtain ⟨t0, t1, t2, t3, t4⟩ := ht_
      have hln := (Array.getElem?_eq_some_iff.1 hn51).1
      obtain ⟨nc0, nc1, nc2, nc3, nc4, nc5, nc6⟩ := cells7' hn51
      go_wp2_with fail
      clear t0 t1 t2 t3 t4 hln nc0 nc1 nc2 nc3 nc4 nc5 nc6
      obtain ⟨b, hb⟩ : ∃ q, rightC F = q := ⟨_, rfl⟩
      have Hb := Lib.hid hb
      clear hb
      cases b
      · skip
        refine (refFrRight_c hF51 false Hb.out).mono ?_
        rintro e w52 ⟨rfl, hB52⟩
        have hT52 := below_then hT51 hB52
        have hn52 := block_below hB52 hn51
        have hV52 := NIs.to hV51 hB52
        have hF52 := FIs.to hF51 hB52
        have hAt52 := fat_to hAt51 hB52
        clear hT51 hn51 hV51 hF51 hAt51 hB52
        have hln := (Array.getElem?_eq_some_iff.1 hn52).1
        obtain ⟨nc0, nc1, nc2, nc3, nc4, nc5, nc6⟩ := cells7' hn52
        go_wp2_with fail
        go_ret
        exact ⟨rfl, hT52⟩
      refine (refFrRight_c hF51 true Hb.out).mono ?_
      rintro e w52 ⟨rfl, hB52⟩
      have hT52 := below_then hT51 hB52
      have hn52 := block_below hB52 hn51
      have hV52 := NIs.to hV51 hB52
      have hF52 := FIs.to hF51 hB52
      have hAt52 := fat_to hAt51 hB52
      clear hT51 hn51 hV51 hF51 hAt51 hB52
      have ht_ := hAt52
      obtain ⟨t0, t1, t2, t3, t4⟩ := ht_
      have hln := (Array.getElem?_eq_some_iff.1 hn52).1
      obtain ⟨nc0, nc1, nc2, nc3, nc4, nc5, nc6⟩ := cells7' hn52
      go_wp2_with fail
      clear t0 t1 t2 t3 t4 hln nc0 nc1 nc2 nc3 nc4 nc5 nc6
      have Htk := Lib.hid (show Ls.take k ++ [F] = Ls.take (k + 1) by rw [← HFF.out]; exact take_one Hll.out hlt)
      have Hs := Lib.hid (q_send (Q := Ls.take k) Hb.out (by have := Hll.out; simp; omega))
      have Hs2 := Lib.hid (show sendN (qN (Ls.take k)) F = qN (Ls.take (k + 1)) by rw [Hs.out.2, Htk.out])
      have hltn : w2.heap.size < w52.heap.size := (Array.getElem?_eq_some_iff.1 hn52).1
      go_cut [7, 8] from 46 to 54 (fun p q8 wc => ∃ (X : Nat) (m2 : NV), p = .pointer (some ⟨X, 0, none⟩) ∧ q8 = .int .i64 0 ∧ w52.heap.size ≤ X ∧ wc.heap[X]? = some (.cells #[.slice m2.qa m2.qm m2.qc, .slice m2.la m2.lm m2.lc, .int .i64 m2.k.t, .int .i64 m2.k.r, .int .i64 m2.k.s, .int .i64 m2.k.q, .slice m2.ga m2.gm m2.gc] 27) ∧ NIs wc (Out [w2.heap.size]) m2 (qN (Ls.take (k + 1))) ∧ Below w52.heap.size w52 wc)
      case first =>
        refine wp_region_held_drew (S := fun W => (W.cell? ⟨w2.heap.size, 0, none⟩ = some (.slice m.qa m.qm m.qc) ∧ W.cell? ⟨w2.heap.size, 1, none⟩ = some (.slice m.la m.lm m.lc) ∧ W.cell? ⟨w2.heap.size, 2, none⟩ = some (.int .i64 m.k.t) ∧ W.cell? ⟨w2.heap.size, 3, none⟩ = some (.int .i64 m.k.r) ∧ W.cell? ⟨w2.heap.size, 4, none⟩ = some (.int .i64 m.k.s) ∧ W.cell? ⟨w2.heap.size, 5, none⟩ = some (.int .i64 m.k.q) ∧ W.cell? ⟨w2.heap.size, 6, none⟩ = some (.slice m.ga m.gm m.gc)) ∧ (W.cell? (ad.add (k * 5)) = some (.bool f.x) ∧ W.cell? ⟨(ad.add (k * 5)).block, (ad.add (k * 5)).off + 1, none⟩ = some (.int .i64 f.i) ∧ W.cell? ⟨(ad.add (k * 5)).block, (ad.add (k * 5)).off + 2, none⟩ = some (.bool f.r) ∧ W.cell? ⟨(ad.add (k * 5)).block, (ad.add (k * 5)).off + 3, none⟩ = some (.int .i64 f.n) ∧ W.cell? ⟨(ad.add (k * 5)).block, (ad.add (k * 5)).off + 4, none⟩ = some (.slice f.a f.m f.c))) (by kernel_rfl) (by exact ⟨cells7' (block_below (below_drew1 _) hn52), (fat_to hAt52 (below_drew1 _))⟩) (fun hHeld_ => ?_)
        refine wpAnyH_take' (i := 0) (v := ?vm1_0_0_) 47 rfl rfl (by kernel_rfl) (by kernel_rfl) (by kernel_rfl) (fun _ _ _ h => h) (Or.inl ⟨by kernel_rfl, ?hm1_0_0_⟩) (by assumption) ?rm1_0_0_
        case hm1_0_0_ => (intro W_ hS_; (try dsimp only at hS_); go_simp; (try (with_reducible rfl)))
        try simp only [Act.put, List.setIfInBounds_toArray, List.set_cons_zero, List.set_cons_succ]
        refine wpAnyH_take' (i := 1) (v := ?vm1_1_0_) 48 rfl rfl (by kernel_rfl) (by kernel_rfl) (by kernel_rfl) (fun _ _ _ h => h) (Or.inl ⟨by kernel_rfl, ?hm1_1_0_⟩) (by assumption) ?rm1_1_0_
        case hm1_1_0_ => (intro W_ hS_; (try dsimp only at hS_); go_simp; (try (with_reducible rfl)))
        try simp only [Act.put, List.setIfInBounds_toArray, List.set_cons_zero, List.set_cons_succ]
        refine wpAnyH_take' (i := 2) (v := ?vm1_2_0_) 49 rfl rfl (by kernel_rfl) (by kernel_rfl) (by kernel_rfl) (fun _ _ _ h => h) (Or.inl ⟨by kernel_rfl, ?hm1_2_0_⟩) (by assumption) ?rm1_2_0_
        case hm1_2_0_ => (intro W_ hS_; (try dsimp only at hS_); go_simp; (try (with_reducible rfl)))
        try simp only [Act.put, List.setIfInBounds_toArray, List.set_cons_zero, List.set_cons_succ]
        refine wpAnyH_take' (i := 3) (v := ?vm1_3_0_) 50 rfl rfl (by kernel_rfl) (by kernel_rfl) (by kernel_rfl) (fun _ _ _ h => h) (Or.inl ⟨by kernel_rfl, ?hm1_3_0_⟩) (by assumption) ?rm1_3_0_
        case hm1_3_0_ => (intro W_ hS_; (try dsimp only at hS_); go_simp; (try (with_reducible rfl)))
        try simp only [Act.put, List.setIfInBounds_toArray, List.set_cons_zero, List.set_cons_succ]
        refine wpAnyH_take' (i := 4) (v := ?vm1_4_0_) 51 rfl rfl (by kernel_rfl) (by kernel_rfl) (by kernel_rfl) (fun _ _ _ h => h) (Or.inl ⟨by kernel_rfl, ?hm1_4_0_⟩) (by assumption) ?rm1_4_0_
        case hm1_4_0_ => (intro W_ hS_; (try dsimp only at hS_); go_simp; (try (with_reducible rfl)))
        try simp only [Act.put, List.setIfInBounds_toArray, List.set_cons_zero, List.set_cons_succ]
        refine wpAnyH_ready (rs := [5, 9]) (by kernel_rfl) (by simp) ?_
        refine (AllReadyH.cons rfl (fun K_ hK_ => ?_) (AllReadyH.cons rfl (fun K_ hK_ => ?_) AllReadyH.nil))
        · go_simp
          refine (send_c (NIs.to hV52 (below_drew1 _)) (FIs.to hF52 (below_drew1 _)) HokK.out (out_up (lt_cons (Array.getElem?_eq_some_iff.1 (block_below (below_drew1 _) hn52)).1 (fun _ h => by cases h))) 0 Hs.out.1 _ Hs2.out).mono ?_
          rintro e wr5 ⟨m2, rfl, hV2_, hBr5⟩
          go_wp2_with fail
          refine hK_.out _ _ (by exact ⟨cells7' (block_below hBr5 (block_below (below_drew1 _) hn52)), (fat_to (fat_to hAt52 (below_drew1 _)) hBr5)⟩) (fun hHeld_5_0 => ?_)
          clear hK_
          try simp only [Act.put, List.setIfInBounds_toArray, List.set_cons_zero, List.set_cons_succ]
          refine wpAnyH_take' (i := 6) (v := ?vm1_6_1_5) 46 rfl rfl (by kernel_rfl) (by kernel_rfl) (by kernel_rfl) (fun _ _ _ h => h) (Or.inl ⟨by kernel_rfl, ?hm1_6_1_5⟩) (by assumption) ?rm1_6_1_5
          case hm1_6_1_5 => (intro W_ hS_; (try dsimp only at hS_); go_simp; (try (with_reducible rfl)))
          try simp only [Act.put, List.setIfInBounds_toArray, List.set_cons_zero, List.set_cons_succ]
          refine wpAnyH_take' (i := 7) (v := ?vm1_7_1_5) 53 rfl rfl (by kernel_rfl) (by kernel_rfl) (by kernel_rfl) (fun _ _ _ h => h) (Or.inl ⟨by kernel_rfl, ?hm1_7_1_5⟩) (by assumption) ?rm1_7_1_5
          case hm1_7_1_5 => (intro W_ hS_; (try dsimp only at hS_); go_simp; (try (with_reducible rfl)))
          try simp only [Act.put, List.setIfInBounds_toArray, List.set_cons_zero, List.set_cons_succ]
          refine wpAnyH_take' (i := 8) (v := ?vm1_8_1_5) 54 rfl rfl (by kernel_rfl) (by kernel_rfl) (by kernel_rfl) (fun _ _ _ h => h) (Or.inl ⟨by kernel_rfl, ?hm1_8_1_5⟩) (by assumption) ?rm1_8_1_5
          case hm1_8_1_5 => (intro W_ hS_; (try dsimp only at hS_); go_simp; (try (with_reducible rfl)))
          try simp only [Act.put, List.setIfInBounds_toArray, List.set_cons_zero, List.set_cons_succ]
          refine wpAnyH_ready (rs := [9]) (by kernel_rfl) (by simp) ?_
          refine (AllReadyH.cons rfl (fun K_ hK_ => ?_) AllReadyH.nil)
          go_simp
          have hblk9 : (wr5.alloc (.cells #[.slice none 0 0, .slice none 0 0, .int .i64 0, .int .i64 0, .int .i64 0, .int .i64 0, .slice none 0 0] 27)).heap[wr5.heap.size]? = some (.cells #[.slice none 0 0, .slice none 0 0, .int .i64 0, .int .i64 0, .int .i64 0, .int .i64 0, .slice none 0 0] 27) := World.alloc_heap_new _ _
          go_wp2_with fail
          refine hK_.out _ _ (by exact ⟨cells7' (block_below (below_alloc1 _ _) (block_below hBr5 (block_below (below_drew1 _) hn52))), (fat_to (fat_to (fat_to hAt52 (below_drew1 _)) hBr5) (below_alloc1 _ _))⟩) (fun hHeld_9_1 => ?_)
          clear hK_
          try simp only [Act.put, List.setIfInBounds_toArray, List.set_cons_zero, List.set_cons_succ]
          refine wpAnyH_ready (rs := [10]) (by kernel_rfl) (by simp) ?_
          refine (AllReadyH.cons rfl (fun K_ hK_ => ?_) AllReadyH.nil)
          go_simp
          go_wp2_with fail
          refine hK_.out _ _ (by exact ⟨cells7' (block_below (below_alloc1 _ _) (block_below hBr5 (block_below (below_drew1 _) hn52))), (fat_to (fat_to (fat_to hAt52 (below_drew1 _)) hBr5) (below_alloc1 _ _))⟩) (fun hHeld_10_2 => ?_)
          clear hK_
          try simp only [Act.put, List.setIfInBounds_toArray, List.set_cons_zero, List.set_cons_succ]
          refine wpAnyH_take' (i := 11) (v := ?vm1_11_3_5_9_10) 8 rfl rfl (by kernel_rfl) (by kernel_rfl) (by kernel_rfl) (fun _ _ _ h => h) (Or.inl ⟨by kernel_rfl, ?hm1_11_3_5_9_10⟩) (by assumption) ?rm1_11_3_5_9_10
          case hm1_11_3_5_9_10 => (intro W_ hS_; (try dsimp only at hS_); go_simp; (try (with_reducible rfl)))
          try simp only [Act.put, List.setIfInBounds_toArray, List.set_cons_zero, List.set_cons_succ]
          refine wpAnyH_done (by kernel_rfl) ?_ _
          go_wp2_with fail
          go_meet
          exact ⟨wr5.heap.size, m2, rfl, rfl, (below_then (below_drew1 _) hBr5).size, World.alloc_heap_new _ _, NIs.to hV2_ (below_alloc1 _ _), (below_then (below_then (below_drew1 _) hBr5) (below_alloc1 _ _))⟩
        · go_simp
          have hblk9 : (w52.alloc (.cells #[.slice none 0 0, .slice none 0 0, .int .i64 0, .int .i64 0, .int .i64 0, .int .i64 0, .slice none 0 0] 27)).drew.heap[w52.heap.size]? = some (.cells #[.slice none 0 0, .slice none 0 0, .int .i64 0, .int .i64 0, .int .i64 0, .int .i64 0, .slice none 0 0] 27) := World.alloc_heap_new w52 _
          go_wp2_with fail
          refine hK_.out _ _ (by exact ⟨cells7' (block_below (below_drew1 _) (block_below (below_alloc1 _ _) hn52)), (fat_to (fat_to hAt52 (below_alloc1 _ _)) (below_drew1 _))⟩) (fun hHeld_9_0 => ?_)
          clear hK_
          try simp only [Act.put, List.setIfInBounds_toArray, List.set_cons_zero, List.set_cons_succ]
          refine wpAnyH_ready (rs := [5]) (by kernel_rfl) (by simp) ?_
          refine (AllReadyH.cons rfl (fun K_ hK_ => ?_) AllReadyH.nil)
          go_simp
          refine (send_c (NIs.to (NIs.to (hV52.mono (out_cons (L := [w2.heap.size]) (X := w52.heap.size) (Nat.le_refl _))) (below_alloc1 _ _)) (below_drew1 _)) (FIs.to (FIs.to (hF52.mono (out_cons (L := [w2.heap.size]) (X := w52.heap.size) (Nat.le_refl _))) (below_alloc1 _ _)) (below_drew1 _)) HokK.out (out_up (lt_cons (Array.getElem?_eq_some_iff.1 hblk9).1 (lt_cons (Array.getElem?_eq_some_iff.1 (block_below (below_drew1 _) (block_below (below_alloc1 _ _) hn52))).1 (fun _ h => by cases h)))) 0 Hs.out.1 _ Hs2.out).mono ?_
          rintro e wr5 ⟨m2, rfl, hV2_, hBr5⟩
          have hblk5 := block_below hBr5 hblk9
          go_wp2_with fail
          refine hK_.out _ _ (by exact ⟨cells7' (block_below hBr5 (block_below (below_drew1 _) (block_below (below_alloc1 _ _) hn52))), (fat_to (fat_to (fat_to hAt52 (below_alloc1 _ _)) (below_drew1 _)) hBr5)⟩) (fun hHeld_5_1 => ?_)
          clear hK_
          try simp only [Act.put, List.setIfInBounds_toArray, List.set_cons_zero, List.set_cons_succ]
          refine wpAnyH_take' (i := 6) (v := ?vm1_6_2_9_5) 46 rfl rfl (by kernel_rfl) (by kernel_rfl) (by kernel_rfl) (fun _ _ _ h => h) (Or.inl ⟨by kernel_rfl, ?hm1_6_2_9_5⟩) (by assumption) ?rm1_6_2_9_5
          case hm1_6_2_9_5 => (intro W_ hS_; (try dsimp only at hS_); go_simp; (try (with_reducible rfl)))
          try simp only [Act.put, List.setIfInBounds_toArray, List.set_cons_zero, List.set_cons_succ]
          refine wpAnyH_take' (i := 7) (v := ?vm1_7_2_9_5) 53 rfl rfl (by kernel_rfl) (by kernel_rfl) (by kernel_rfl) (fun _ _ _ h => h) (Or.inl ⟨by kernel_rfl, ?hm1_7_2_9_5⟩) (by assumption) ?rm1_7_2_9_5
          case hm1_7_2_9_5 => (intro W_ hS_; (try dsimp only at hS_); go_simp; (try (with_reducible rfl)))
          try simp only [Act.put, List.setIfInBounds_toArray, List.set_cons_zero, List.set_cons_succ]
          refine wpAnyH_take' (i := 8) (v := ?vm1_8_2_9_5) 54 rfl rfl (by kernel_rfl) (by kernel_rfl) (by kernel_rfl) (fun _ _ _ h => h) (Or.inl ⟨by kernel_rfl, ?hm1_8_2_9_5⟩) (by assumption) ?rm1_8_2_9_5
          case hm1_8_2_9_5 => (intro W_ hS_; (try dsimp only at hS_); go_simp; (try (with_reducible rfl)))
          try simp only [Act.put, List.setIfInBounds_toArray, List.set_cons_zero, List.set_cons_succ]
          refine wpAnyH_ready (rs := [10]) (by kernel_rfl) (by simp) ?_
          refine (AllReadyH.cons rfl (fun K_ hK_ => ?_) AllReadyH.nil)
          obtain ⟨⟨z0, z1, z2, z3, z4, z5, z6⟩, y0, y1, y2, y3, y4, y5, y6⟩ := cells7 hblk5
          go_simp
          go_wp2_with fail
          clear z0 z1 z2 z3 z4 z5 z6 y0 y1 y2 y3 y4 y5 y6
          refine hK_.out _ _ (by exact ⟨cells7' (other_g (set7_grown _ _ _ _ _ _ _ _ _) (block_below hBr5 (block_below (below_drew1 _) (block_below (below_alloc1 _ _) hn52))) (by omega)), (fat_gr hAt52 (below_then (below_then (below_alloc1 _ _) (below_drew1 _)) hBr5) (set7_grown _ _ _ _ _ _ _ _ _) (Nat.le_refl _))⟩) (fun hHeld_10_2 => ?_)
          clear hK_
          try simp only [Act.put, List.setIfInBounds_toArray, List.set_cons_zero, List.set_cons_succ]
          refine wpAnyH_take' (i := 11) (v := ?vm1_11_3_9_5_10) 8 rfl rfl (by kernel_rfl) (by kernel_rfl) (by kernel_rfl) (fun _ _ _ h => h) (Or.inl ⟨by kernel_rfl, ?hm1_11_3_9_5_10⟩) (by assumption) ?rm1_11_3_9_5_10
          case hm1_11_3_9_5_10 => (intro W_ hS_; (try dsimp only at hS_); go_simp; (try (with_reducible rfl)))
          try simp only [Act.put, List.setIfInBounds_toArray, List.set_cons_zero, List.set_cons_succ]
          refine wpAnyH_done (by kernel_rfl) ?_ _
          go_wp2_with fail
          go_meet
          exact ⟨w52.heap.size, m2, rfl, rfl, Nat.le_refl _, set7_obj hblk5 _ _ _ _ _ _ _, (NIs.grow hV2_ (set7_grown _ _ _ _ _ _ _ _ _) (out_not (by simp))).mono (fun b _ h => fun Y hY => h Y (List.mem_cons_of_mem _ hY)), below_g (below_then (below_then (below_alloc1 _ _) (below_drew1 _)) hBr5) (set7_grown _ _ _ _ _ _ _ _ _) (Nat.le_refl _)⟩
      case rest =>
      obtain ⟨Xmm, m2, rfl, rfl, hXmm, hmm_, hV2_, hB53⟩ := hcut
      obtain ⟨w53, e_⟩ : ∃ w_, w_ = wc := ⟨_, rfl⟩
      subst e_
      have hXne : Xmm ≠ w2.heap.size := by have h_ := hltn; omega
      clear hltn
      have hT53 := below_then hT52 hB53
      have hn53 := block_below hB53 hn52
      have hV53 := NIs.to hV52 hB53
      have hF53 := FIs.to hF52 hB53
      have hAt53 := fat_to hAt52 hB53
      clear hT52 hn52 hV52 hF52 hAt52 hB53
      have hmm53 := hmm_
      have hV253 := hV2_
      clear hmm_ hV2_
      clear hF53
      clear hAt53
      clear hV53
      have Hmm_n := Lib.hid (show Xmm ≠ w2.heap.size from hXne)
      clear hXne
      have hln := (Array.getElem?_eq_some_iff.1 hn53).1
      obtain ⟨⟨nc0, nc1, nc2, nc3, nc4, nc5, nc6⟩, nf0, nf1, nf2, nf3, nf4, nf5, nf6⟩ := cells7 hn53
      have hlmm := (Array.getElem?_eq_some_iff.1 hmm53).1
      obtain ⟨mmc0, mmc1, mmc2, mmc3, mmc4, mmc5, mmc6⟩ := cells7' hmm53
      go_wp2_with fail
      clear hln nc0 nc1 nc2 nc3 nc4 nc5 nc6 nf0 nf1 nf2 nf3 nf4 nf5 nf6 hlmm mmc0 mmc1 mmc2 mmc3 mmc4 mmc5 mmc6
      obtain ⟨w54, hw54⟩ : ∃ w_, set7 w53 w2.heap.size (.slice m2.qa m2.qm m2.qc) (.slice m2.la m2.lm m2.lc) (.int .i64 m2.k.t) (.int .i64 m2.k.r) (.int .i64 m2.k.s) (.int .i64 m2.k.q) (.slice m2.ga m2.gm m2.gc) = w_ := ⟨_, rfl⟩
      have hG54 : w53.grownBy w54 (some w2.heap.size) := by rw [← hw54]; exact set7_grown _ _ _ _ _ _ _ _ _
      have hT54 := below_g hT53 hG54 hgen
      have hn54 : w54.heap[w2.heap.size]? = some (.cells #[.slice m2.qa m2.qm m2.qc, .slice m2.la m2.lm m2.lc, .int .i64 m2.k.t, .int .i64 m2.k.r, .int .i64 m2.k.s, .int .i64 m2.k.q, .slice m2.ga m2.gm m2.gc] 27) := by rw [← hw54]; exact set7_obj hn53 _ _ _ _ _ _ _
      have hmm54 := other_g hG54 hmm53 Hmm_n.out
      have hV254 := NIs.grow hV253 hG54 (out_not (by simp))
      have Hsz54 := Lib.hid (show w54.heap.size = w53.heap.size by rw [← hw54]; simp [set7, World.setCell])
      unfold set7 at hw54
      rw [hw54]
      clear hw54 hG54 hT53 hn53 hmm53 hV253
      go_round
      case measure => simp [intOf]; omega
      exact ⟨k + 1, m2, by omega, by go_num, (by rw [← Htk.out]; intro G hG; rcases List.mem_append.1 hG with h | h; exact Hrt.out G h; simp at h; subst h; exact Hb.out), hn54, hV254, hT54⟩
    obtain rfl : k = ln := by omega
    have j1 : ¬ (k : Int) < (k : Int) := by omega
    obtain ⟨fs, hrow, hFs⟩ := hl.row
    have Hfl := Lib.hid (show fs.length = k from hFs.1.trans hl.len)
    have Htk := Lib.hid (show Ls.take k = Ls from List.take_of_length_le (by rw [Hll.out]; exact Nat.le_refl _))
    rw [Htk.out] at hV50 Hrt
    clear Htk HokK
    have hsz := hT50.size
    have hnx := (Array.getElem?_eq_some_iff.1 hn50).1
    have hTe : Below w.heap.size w (wr.alloc (.cells #[] 30)) := below_then hT50 (below_alloc1 _ _)
    have hln := (Array.getElem?_eq_some_iff.1 hn50).1
    obtain ⟨nc0, nc1, nc2, nc3, nc4, nc5, nc6⟩ := cells7' hn50
    go_wp2_with (at_builtin; refine wpList_append_fr _ rfl _ _ rfl wr.heap.size _ 0 [] rfl (fown_empty wr _ _ rfl (Nat.le_refl _)) _ k _ w.heap.size fs rfl Hfl.out (hrow.below hTe) (by omega) (by simp) ?_; intro A2 c2 w51 hown51 hc51 hB51)
    clear hln nc0 nc1 nc2 nc3 nc4 nc5 nc6
    simp only [Nat.zero_add, List.nil_append] at hown51 hc51 ⊢
    have hB5 : Below wr.heap.size wr w51 := (below_alloc1 _ _ : Below wr.heap.size wr _).trans hB51
    have hO51 : FOwn w51 (w2.heap.size + 1) A2 k c2 fs := own_mono hown51 (by omega)
    have hV51 := hV50.to hB5
    have hn51 := block_below hB5 hn50
    have hT51 := below_then hT50 hB5
    clear hown51 hc51 hB51 hB5 hV50 hn50 hT50 hTe j1 hlt hnx hsz hrow
    go_loopw [9] (fun v wr => ∃ (n c : Nat) (m : NV) (A : Option Addr) (fs : List FV) (Q : List FC), v = .slice A n c ∧ FOwn wr (w2.heap.size + 1) A n c fs ∧ Q.length = n ∧ n ≤ 16 ∧ FsIs w (fun _ => True) fs Q ∧ (∀ F ∈ Q, rightC F = true) ∧ wr.heap[w2.heap.size]? = some (.cells #[.slice m.qa m.qm m.qc, .slice m.la m.lm m.lc, .int .i64 m.k.t, .int .i64 m.k.r, .int .i64 m.k.s, .int .i64 m.k.q, .slice m.ga m.gm m.gc] 27) ∧ NIs wr (Out [w2.heap.size]) m (qN Q) ∧ Below w.heap.size w wr) (fun v _ => lenV v)
    case atStart => exact ⟨k, c2, m, A2, fs, Ls, rfl, hO51, Hll.out, h1, hFs, Hrt.out, hn51, hV51, hT51⟩
    case round =>
      clear hO51 hn51 hV51 hT51 Hfl hFs Hrt hk Hll
      clear fs m
      obtain ⟨n, c, m, A, fs, Q, rfl, hO60, hQl, hn16, hFs, hrt, hn60, hV60, hT60⟩ := hrel
      have HQl := Lib.hid hQl
      have Hok := Lib.hid (q_ok hrt (by omega))
      have Hrt := Lib.hid hrt
      clear hQl hrt
      by_cases h0 : 0 < n
      · skip
        have j1 : (0 : Int) < (n : Int) := by omega
        have hQ : Q ≠ [] := by intro e; have := HQl.out; rw [e] at this; simp at this; omega
        have HQ := Lib.hid hQ
        clear hQ
        have hln := (Array.getElem?_eq_some_iff.1 hn60).1
        obtain ⟨nc0, nc1, nc2, nc3, nc4, nc5, nc6⟩ := cells7' hn60
        go_wp2_with fail
        clear hln nc0 nc1 nc2 nc3 nc4 nc5 nc6
        obtain ⟨p, hp⟩ : ∃ p, leastTo Q Q.length = p := ⟨_, rfl⟩
        have hpn : p < n := by rw [← hp, ← HQl.out]; exact leastTo_lt (by rw [HQl.out]; exact h0)
        have Hp := Lib.hid hp
        clear hp
        obtain ⟨G, hG⟩ : ∃ G, Q.getD p zeroF = G := ⟨_, rfl⟩
        have HG := Lib.hid hG
        clear hG
        have HGok := Lib.hid (show okC G by rw [← HG.out]; exact okC_of (Hrt.out _ (getD_mem HQl.out hpn)))
        refine (next_c hV60 Hok.out true (q_has HQ.out) G (by rw [q_next HQ.out, Hp.out]; exact HG.out)).mono ?_
        rintro e w61 ⟨f5, rfl, hf5_, hB61⟩
        have hT61 := below_then hT60 hB61
        have hn61 := block_below hB61 hn60
        have hO61 := FOwn9.to hO60 hB61
        have hV61 := NIs.to hV60 hB61
        clear hT60 hn60 hO60 hV60 hB61
        have hf561 := hf5_
        clear hf5_
        have hln := (Array.getElem?_eq_some_iff.1 hn61).1
        obtain ⟨nc0, nc1, nc2, nc3, nc4, nc5, nc6⟩ := cells7' hn61
        go_wp2_with fail
        clear hln nc0 nc1 nc2 nc3 nc4 nc5 nc6
        have hgeff : w.heap.size ≤ w61.heap.size := hT61.size
        have Hn_ff := Lib.hid (show w2.heap.size ≠ w61.heap.size from Nat.ne_of_lt (Array.getElem?_eq_some_iff.1 hn61).1)
        have Hff_n := Lib.hid (show w61.heap.size ≠ w2.heap.size from Ne.symm Hn_ff.out)
        obtain ⟨w62, hw62⟩ : ∃ w62, w61.alloc (.cells #[.bool f5.x, .int .i64 f5.i, .bool f5.r, .int .i64 f5.n, .slice f5.a f5.m f5.c] 30) = w62 := ⟨_, rfl⟩
        have hB62 : Below w61.heap.size w61 w62 := by rw [← hw62]; exact below_alloc1 _ _
        have hff62 : w62.heap[w61.heap.size]? = some (.cells #[.bool f5.x, .int .i64 f5.i, .bool f5.r, .int .i64 f5.n, .slice f5.a f5.m f5.c] 30) := by rw [← hw62]; exact World.alloc_heap_new _ _
        rw [hw62]
        clear hw62
        have hT62 := below_then hT61 hB62
        have hn62 := block_below hB62 hn61
        have hO62 := FOwn9.to hO61 hB62
        have hV62 := NIs.to hV61 hB62
        have hf562 := FIs.to hf561 hB62
        clear hT61 hn61 hO61 hV61 hf561 hB62
        go_loopw [12, 13] (fun a i wr => ∃ (j : Nat) (x : Int), j ≤ n ∧ i = .int .i64 j ∧ a = .int .i64 x ∧ Hid (x = if p < j then (p : Int) else -1) ∧ FOwn wr (w2.heap.size + 1) A n c fs ∧ wr.heap[w2.heap.size]? = some (.cells #[.slice m.qa m.qm m.qc, .slice m.la m.lm m.lc, .int .i64 m.k.t, .int .i64 m.k.r, .int .i64 m.k.s, .int .i64 m.k.q, .slice m.ga m.gm m.gc] 27) ∧ wr.heap[w61.heap.size]? = some (.cells #[.bool f5.x, .int .i64 f5.i, .bool f5.r, .int .i64 f5.n, .slice f5.a f5.m f5.c] 30) ∧ NIs wr (Out [w2.heap.size]) m (qN Q) ∧ FIs wr (Out [w2.heap.size]) f5 G ∧ Below w.heap.size w wr) (fun _ i _ => n - (intOf i).toNat)
        case atStart => exact ⟨0, -1, Nat.zero_le _, rfl, rfl, Lib.hid (by simp), hO62, hn62, hff62, hV62, hf562, hT62⟩
        case round =>
          clear hO62 hn62 hff62 hV62 hf562 hT62
          obtain ⟨j, x, hj, rfl, rfl, Hx, hO70, hn70, hff70, hV70, hf570, hT70⟩ := hrel
          by_cases hlt : j < n
          · skip
            have j2 : (j : Int) < (n : Int) := by omega
            have j3 : decide ((j : Int) < (n : Int)) = true := by simpa using j2
            obtain ⟨ad, g, ea, hAt70, hg_⟩ := own_at hO70 hFs HQl.out hlt
            obtain ⟨H, hH⟩ : ∃ H, Q.getD j zeroF = H := ⟨_, rfl⟩
            rw [hH] at hg_
            have HH := Lib.hid hH
            have hG70 := hg_.to hT70
            clear hg_ hH
            subst ea
            by_cases hjp : j < p
            · skip
              obtain rfl : x = -1 := by rw [Hx.out, if_neg (by omega)]
              clear Hx
              have Hsm := Lib.hid (show sameF H G = false by rw [← HH.out, ← HG.out, ← Hp.out]; exact q_front (by rw [Hp.out]; exact hjp))
              have hln := (Array.getElem?_eq_some_iff.1 hn70).1
              obtain ⟨nc0, nc1, nc2, nc3, nc4, nc5, nc6⟩ := cells7' hn70
              have hlff := (Array.getElem?_eq_some_iff.1 hff70).1
              obtain ⟨ffc0, ffc1, ffc2, ffc3, ffc4⟩ := cells5' hff70
              go_wp2_with fail
              clear hln nc0 nc1 nc2 nc3 nc4 nc5 nc6 hlff ffc0 ffc1 ffc2 ffc3 ffc4
              refine wp_region_held_drew (S := fun W => (W.cell? ⟨w61.heap.size, 0, none⟩ = some (.bool f5.x) ∧ W.cell? ⟨w61.heap.size, 1, none⟩ = some (.int .i64 f5.i) ∧ W.cell? ⟨w61.heap.size, 2, none⟩ = some (.bool f5.r) ∧ W.cell? ⟨w61.heap.size, 3, none⟩ = some (.int .i64 f5.n) ∧ W.cell? ⟨w61.heap.size, 4, none⟩ = some (.slice f5.a f5.m f5.c)) ∧ (W.cell? (ad.add (j * 5)) = some (.bool g.x) ∧ W.cell? ⟨(ad.add (j * 5)).block, (ad.add (j * 5)).off + 1, none⟩ = some (.int .i64 g.i) ∧ W.cell? ⟨(ad.add (j * 5)).block, (ad.add (j * 5)).off + 2, none⟩ = some (.bool g.r) ∧ W.cell? ⟨(ad.add (j * 5)).block, (ad.add (j * 5)).off + 3, none⟩ = some (.int .i64 g.n) ∧ W.cell? ⟨(ad.add (j * 5)).block, (ad.add (j * 5)).off + 4, none⟩ = some (.slice g.a g.m g.c))) (by kernel_rfl) (by exact ⟨cells5' (block_below (below_drew1 _) hff70), (fat_to hAt70 (below_drew1 _))⟩) (fun hHeld_ => ?_)
              refine wpAnyH_take' (i := 0) (v := ?v0_t2) 75 rfl rfl (by kernel_rfl) (by kernel_rfl) (by kernel_rfl) (fun _ _ _ h => h) (Or.inl ⟨by kernel_rfl, ?hy0_t2⟩) (by assumption) ?rest0_t2
              case hy0_t2 => (intro W_ hS_; (try dsimp only at hS_); go_simp; (try (with_reducible rfl)))
              try simp only [Act.put, List.setIfInBounds_toArray, List.set_cons_zero, List.set_cons_succ]
              refine wpAnyH_take' (i := 1) (v := ?v1_t2) 76 rfl rfl (by kernel_rfl) (by kernel_rfl) (by kernel_rfl) (fun _ _ _ h => h) (Or.inl ⟨by kernel_rfl, ?hy1_t2⟩) (by assumption) ?rest1_t2
              case hy1_t2 => (intro W_ hS_; (try dsimp only at hS_); go_simp; (try (with_reducible rfl)))
              try simp only [Act.put, List.setIfInBounds_toArray, List.set_cons_zero, List.set_cons_succ]
              refine wpAnyH_take' (i := 2) (v := ?v2_t2) 77 rfl rfl (by kernel_rfl) (by kernel_rfl) (by kernel_rfl) (fun _ _ _ h => h) (Or.inl ⟨by kernel_rfl, ?hy2_t2⟩) (by assumption) ?rest2_t2
              case hy2_t2 => (intro W_ hS_; (try dsimp only at hS_); go_simp; (try (with_reducible rfl)))
              try simp only [Act.put, List.setIfInBounds_toArray, List.set_cons_zero, List.set_cons_succ]
              refine wpAnyH_take' (i := 3) (v := ?v3_t2) 78 rfl rfl (by kernel_rfl) (by kernel_rfl) (by kernel_rfl) (fun _ _ _ h => h) (Or.inl ⟨by kernel_rfl, ?hy3_t2⟩) (by assumption) ?rest3_t2
              case hy3_t2 => (intro W_ hS_; (try dsimp only at hS_); go_simp; (try (with_reducible rfl)))
              try simp only [Act.put, List.setIfInBounds_toArray, List.set_cons_zero, List.set_cons_succ]
              refine wpAnyH_take' (i := 4) (v := ?v4_t2) 79 rfl rfl (by kernel_rfl) (by kernel_rfl) (by kernel_rfl) (fun _ _ _ h => h) (Or.inl ⟨by kernel_rfl, ?hy4_t2⟩) (by assumption) ?rest4_t2
              case hy4_t2 => (intro W_ hS_; (try dsimp only at hS_); go_simp; (try (with_reducible rfl)))
              try simp only [Act.put, List.setIfInBounds_toArray, List.set_cons_zero, List.set_cons_succ]
              refine wpAnyH_take' (i := 5) (v := ?v5_t2) 80 rfl rfl (by kernel_rfl) (by kernel_rfl) (by kernel_rfl) (fun _ _ _ h => h) (Or.inl ⟨by kernel_rfl, ?hy5_t2⟩) (by assumption) ?rest5_t2
              case hy5_t2 => (intro W_ hS_; (try dsimp only at hS_); go_simp; (try (with_reducible rfl)))
              try simp only [Act.put, List.setIfInBounds_toArray, List.set_cons_zero, List.set_cons_succ]
              refine wpAnyH_take' (i := 6) (v := ?v6_t2) 81 rfl rfl (by kernel_rfl) (by kernel_rfl) (by kernel_rfl) (fun _ _ _ h => h) (Or.inl ⟨by kernel_rfl, ?hy6_t2⟩) (by assumption) ?rest6_t2
              case hy6_t2 => (intro W_ hS_; (try dsimp only at hS_); go_simp; (try (with_reducible rfl)))
              try simp only [Act.put, List.setIfInBounds_toArray, List.set_cons_zero, List.set_cons_succ]
              refine wpAnyH_take' (i := 7) (v := ?v7_t2) 82 rfl rfl (by kernel_rfl) (by kernel_rfl) (by kernel_rfl) (fun _ _ _ h => h) (Or.inl ⟨by kernel_rfl, ?hy7_t2⟩) (by assumption) ?rest7_t2
              case hy7_t2 => (intro W_ hS_; (try dsimp only at hS_); go_simp; (try (with_reducible rfl)))
              try simp only [Act.put, List.setIfInBounds_toArray, List.set_cons_zero, List.set_cons_succ]
              refine wpAnyH_ready (rs := [8]) (by kernel_rfl) (by simp) ?_
              refine AllReadyH.cons rfl (fun K_ hK_ => ?_) AllReadyH.nil
              go_simp
              refine (refFrSame_c (FIs.to hG70 (below_drew1 _)) (FIs.to hf570 (below_drew1 _)) false Hsm.out).mono ?_; rintro e wr8 ⟨rfl, hBr8⟩
              go_wp2_with fail
              refine hK_.out _ _ (by exact ⟨cells5' (block_below hBr8 (block_below (below_drew1 _) hff70)), (fat_to (fat_to hAt70 (below_drew1 _)) hBr8)⟩) (fun hHeld_8 => ?_)
              clear hK_
              try simp only [Act.put, List.setIfInBounds_toArray, List.set_cons_zero, List.set_cons_succ]
              refine wpAnyH_take' (i := 9) (v := ?v9_t2) 84 rfl rfl (by kernel_rfl) (by kernel_rfl) (by kernel_rfl) (fun _ _ _ h => h) (Or.inl ⟨by kernel_rfl, ?hy9_t2⟩) (by assumption) ?rest9_t2
              case hy9_t2 => (intro W_ hS_; (try dsimp only at hS_); go_simp; (try (with_reducible rfl)))
              try simp only [Act.put, List.setIfInBounds_toArray, List.set_cons_zero, List.set_cons_succ]
              refine wpAnyH_done (by kernel_rfl) ?_ _
              obtain ⟨w71, hw71⟩ : ∃ w71, wr8 = w71 := ⟨_, rfl⟩
              have hB71 : Below wr.heap.size wr w71 := by rw [← hw71]; exact (below_then (below_drew1 _) hBr8)
              rw [hw71]
              clear hw71  hBr8
              have hT71 := below_then hT70 hB71
              have hn71 := block_below hB71 hn70
              have hff71 := block_below hB71 hff70
              have hO71 := FOwn9.to hO70 hB71
              have hV71 := NIs.to hV70 hB71
              have hf571 := FIs.to hf570 hB71
              have hG71 := FIs.to hG70 hB71
              have hAt71 := fat_to hAt70 hB71
              clear hT70 hn70 hff70 hO70 hV70 hf570 hG70 hAt70 hB71
              have hln := (Array.getElem?_eq_some_iff.1 hn71).1
              obtain ⟨nc0, nc1, nc2, nc3, nc4, nc5, nc6⟩ := cells7' hn71
              have hlff := (Array.getElem?_eq_some_iff.1 hff71).1
              obtain ⟨ffc0, ffc1, ffc2, ffc3, ffc4⟩ := cells5' hff71
              go_wp2_with fail
              clear hln nc0 nc1 nc2 nc3 nc4 nc5 nc6 hlff ffc0 ffc1 ffc2 ffc3 ffc4
              go_round
              case measure => simp [intOf]; omega
              exact ⟨j + 1, -1, by omega, by go_num, rfl, Lib.hid (by rw [if_neg (by omega)]), hO71, hn71, hff71, hV71, hf571, hT71⟩
            by_cases hje : j = p
            · skip
              obtain rfl : x = -1 := by rw [Hx.out, if_neg (by omega)]
              clear Hx
              have Hsm := Lib.hid (show sameF H G = true by rw [← HH.out, ← HG.out, hje]; simp [sameF])
              have Hje := Lib.hid hje
              clear hje
              have hln := (Array.getElem?_eq_some_iff.1 hn70).1
              obtain ⟨nc0, nc1, nc2, nc3, nc4, nc5, nc6⟩ := cells7' hn70
              have hlff := (Array.getElem?_eq_some_iff.1 hff70).1
              obtain ⟨ffc0, ffc1, ffc2, ffc3, ffc4⟩ := cells5' hff70
              go_wp2_with fail
              clear hln nc0 nc1 nc2 nc3 nc4 nc5 nc6 hlff ffc0 ffc1 ffc2 ffc3 ffc4
              refine wp_region_held_drew (S := fun W => (W.cell? ⟨w61.heap.size, 0, none⟩ = some (.bool f5.x) ∧ W.cell? ⟨w61.heap.size, 1, none⟩ = some (.int .i64 f5.i) ∧ W.cell? ⟨w61.heap.size, 2, none⟩ = some (.bool f5.r) ∧ W.cell? ⟨w61.heap.size, 3, none⟩ = some (.int .i64 f5.n) ∧ W.cell? ⟨w61.heap.size, 4, none⟩ = some (.slice f5.a f5.m f5.c)) ∧ (W.cell? (ad.add (j * 5)) = some (.bool g.x) ∧ W.cell? ⟨(ad.add (j * 5)).block, (ad.add (j * 5)).off + 1, none⟩ = some (.int .i64 g.i) ∧ W.cell? ⟨(ad.add (j * 5)).block, (ad.add (j * 5)).off + 2, none⟩ = some (.bool g.r) ∧ W.cell? ⟨(ad.add (j * 5)).block, (ad.add (j * 5)).off + 3, none⟩ = some (.int .i64 g.n) ∧ W.cell? ⟨(ad.add (j * 5)).block, (ad.add (j * 5)).off + 4, none⟩ = some (.slice g.a g.m g.c))) (by kernel_rfl) (by exact ⟨cells5' (block_below (below_drew1 _) hff70), (fat_to hAt70 (below_drew1 _))⟩) (fun hHeld_ => ?_)
              refine wpAnyH_take' (i := 0) (v := ?v0_t3) 75 rfl rfl (by kernel_rfl) (by kernel_rfl) (by kernel_rfl) (fun _ _ _ h => h) (Or.inl ⟨by kernel_rfl, ?hy0_t3⟩) (by assumption) ?rest0_t3
              case hy0_t3 => (intro W_ hS_; (try dsimp only at hS_); go_simp; (try (with_reducible rfl)))
              try simp only [Act.put, List.setIfInBounds_toArray, List.set_cons_zero, List.set_cons_succ]
              refine wpAnyH_take' (i := 1) (v := ?v1_t3) 76 rfl rfl (by kernel_rfl) (by kernel_rfl) (by kernel_rfl) (fun _ _ _ h => h) (Or.inl ⟨by kernel_rfl, ?hy1_t3⟩) (by assumption) ?rest1_t3
              case hy1_t3 => (intro W_ hS_; (try dsimp only at hS_); go_simp; (try (with_reducible rfl)))
              try simp only [Act.put, List.setIfInBounds_toArray, List.set_cons_zero, List.set_cons_succ]
              refine wpAnyH_take' (i := 2) (v := ?v2_t3) 77 rfl rfl (by kernel_rfl) (by kernel_rfl) (by kernel_rfl) (fun _ _ _ h => h) (Or.inl ⟨by kernel_rfl, ?hy2_t3⟩) (by assumption) ?rest2_t3
              case hy2_t3 => (intro W_ hS_; (try dsimp only at hS_); go_simp; (try (with_reducible rfl)))
              try simp only [Act.put, List.setIfInBounds_toArray, List.set_cons_zero, List.set_cons_succ]
              refine wpAnyH_take' (i := 3) (v := ?v3_t3) 78 rfl rfl (by kernel_rfl) (by kernel_rfl) (by kernel_rfl) (fun _ _ _ h => h) (Or.inl ⟨by kernel_rfl, ?hy3_t3⟩) (by assumption) ?rest3_t3
              case hy3_t3 => (intro W_ hS_; (try dsimp only at hS_); go_simp; (try (with_reducible rfl)))
              try simp only [Act.put, List.setIfInBounds_toArray, List.set_cons_zero, List.set_cons_succ]
              refine wpAnyH_take' (i := 4) (v := ?v4_t3) 79 rfl rfl (by kernel_rfl) (by kernel_rfl) (by kernel_rfl) (fun _ _ _ h => h) (Or.inl ⟨by kernel_rfl, ?hy4_t3⟩) (by assumption) ?rest4_t3
              case hy4_t3 => (intro W_ hS_; (try dsimp only at hS_); go_simp; (try (with_reducible rfl)))
              try simp only [Act.put, List.setIfInBounds_toArray, List.set_cons_zero, List.set_cons_succ]
              refine wpAnyH_take' (i := 5) (v := ?v5_t3) 80 rfl rfl (by kernel_rfl) (by kernel_rfl) (by kernel_rfl) (fun _ _ _ h => h) (Or.inl ⟨by kernel_rfl, ?hy5_t3⟩) (by assumption) ?rest5_t3
              case hy5_t3 => (intro W_ hS_; (try dsimp only at hS_); go_simp; (try (with_reducible rfl)))
              try simp only [Act.put, List.setIfInBounds_toArray, List.set_cons_zero, List.set_cons_succ]
              refine wpAnyH_take' (i := 6) (v := ?v6_t3) 81 rfl rfl (by kernel_rfl) (by kernel_rfl) (by kernel_rfl) (fun _ _ _ h => h) (Or.inl ⟨by kernel_rfl, ?hy6_t3⟩) (by assumption) ?rest6_t3
              case hy6_t3 => (intro W_ hS_; (try dsimp only at hS_); go_simp; (try (with_reducible rfl)))
              try simp only [Act.put, List.setIfInBounds_toArray, List.set_cons_zero, List.set_cons_succ]
              refine wpAnyH_take' (i := 7) (v := ?v7_t3) 82 rfl rfl (by kernel_rfl) (by kernel_rfl) (by kernel_rfl) (fun _ _ _ h => h) (Or.inl ⟨by kernel_rfl, ?hy7_t3⟩) (by assumption) ?rest7_t3
              case hy7_t3 => (intro W_ hS_; (try dsimp only at hS_); go_simp; (try (with_reducible rfl)))
              try simp only [Act.put, List.setIfInBounds_toArray, List.set_cons_zero, List.set_cons_succ]
              refine wpAnyH_ready (rs := [8]) (by kernel_rfl) (by simp) ?_
              refine AllReadyH.cons rfl (fun K_ hK_ => ?_) AllReadyH.nil
              go_simp
              refine (refFrSame_c (FIs.to hG70 (below_drew1 _)) (FIs.to hf570 (below_drew1 _)) true Hsm.out).mono ?_; rintro e wr8 ⟨rfl, hBr8⟩
              go_wp2_with fail
              refine hK_.out _ _ (by exact ⟨cells5' (block_below hBr8 (block_below (below_drew1 _) hff70)), (fat_to (fat_to hAt70 (below_drew1 _)) hBr8)⟩) (fun hHeld_8 => ?_)
              clear hK_
              try simp only [Act.put, List.setIfInBounds_toArray, List.set_cons_zero, List.set_cons_succ]
              refine wpAnyH_take' (i := 9) (v := ?v9_t3) 84 rfl rfl (by kernel_rfl) (by kernel_rfl) (by kernel_rfl) (fun _ _ _ h => h) (Or.inl ⟨by kernel_rfl, ?hy9_t3⟩) (by assumption) ?rest9_t3
              case hy9_t3 => (intro W_ hS_; (try dsimp only at hS_); go_simp; (try (with_reducible rfl)))
              try simp only [Act.put, List.setIfInBounds_toArray, List.set_cons_zero, List.set_cons_succ]
              refine wpAnyH_done (by kernel_rfl) ?_ _
              obtain ⟨w71, hw71⟩ : ∃ w71, wr8 = w71 := ⟨_, rfl⟩
              have hB71 : Below wr.heap.size wr w71 := by rw [← hw71]; exact (below_then (below_drew1 _) hBr8)
              rw [hw71]
              clear hw71  hBr8
              have hT71 := below_then hT70 hB71
              have hn71 := block_below hB71 hn70
              have hff71 := block_below hB71 hff70
              have hO71 := FOwn9.to hO70 hB71
              have hV71 := NIs.to hV70 hB71
              have hf571 := FIs.to hf570 hB71
              have hG71 := FIs.to hG70 hB71
              have hAt71 := fat_to hAt70 hB71
              clear hT70 hn70 hff70 hO70 hV70 hf570 hG70 hAt70 hB71
              have hln := (Array.getElem?_eq_some_iff.1 hn71).1
              obtain ⟨nc0, nc1, nc2, nc3, nc4, nc5, nc6⟩ := cells7' hn71
              have hlff := (Array.getElem?_eq_some_iff.1 hff71).1
              obtain ⟨ffc0, ffc1, ffc2, ffc3, ffc4⟩ := cells5' hff71
              go_wp2_with fail
              clear hln nc0 nc1 nc2 nc3 nc4 nc5 nc6 hlff ffc0 ffc1 ffc2 ffc3 ffc4
              go_round
              case measure => simp [intOf]; omega
              exact ⟨j + 1, (j : Int), by omega, by go_num, rfl, Lib.hid (by have := Hje.out; rw [if_pos (by omega), this]), hO71, hn71, hff71, hV71, hf571, hT71⟩
            obtain rfl : x = (p : Int) := by rw [Hx.out, if_pos (by omega)]
            clear Hx
            have j4 : ¬ (p : Int) < 0 := by omega
            have j5 : decide ((p : Int) < 0) = false := by simp
            have hln := (Array.getElem?_eq_some_iff.1 hn70).1
            obtain ⟨nc0, nc1, nc2, nc3, nc4, nc5, nc6⟩ := cells7' hn70
            have hlff := (Array.getElem?_eq_some_iff.1 hff70).1
            obtain ⟨ffc0, ffc1, ffc2, ffc3, ffc4⟩ := cells5' hff70
            go_wp2_with fail
            clear hln nc0 nc1 nc2 nc3 nc4 nc5 nc6 hlff ffc0 ffc1 ffc2 ffc3 ffc4
            refine wp_region_held_drew (S := fun W => True) (by kernel_rfl) (by exact trivial) (fun hHeld_ => ?_)
            refine wpAnyH_take' (i := 0) (v := ?v0_t4) 75 rfl rfl (by kernel_rfl) (by kernel_rfl) (by kernel_rfl) (fun _ _ _ h => h) (Or.inl ⟨by kernel_rfl, ?hy0_t4⟩) (by assumption) ?rest0_t4
            case hy0_t4 => (intro W_ hS_; (try dsimp only at hS_); go_simp; (try (with_reducible rfl)))
            try simp only [Act.put, List.setIfInBounds_toArray, List.set_cons_zero, List.set_cons_succ]
            refine wpAnyH_take' (i := 1) (v := ?v1_t4) 76 rfl rfl (by kernel_rfl) (by kernel_rfl) (by kernel_rfl) (fun _ _ _ h => h) (Or.inl ⟨by kernel_rfl, ?hy1_t4⟩) (by assumption) ?rest1_t4
            case hy1_t4 => (intro W_ hS_; (try dsimp only at hS_); go_simp; (try (with_reducible rfl)))
            try simp only [Act.put, List.setIfInBounds_toArray, List.set_cons_zero, List.set_cons_succ]
            refine wpAnyH_take' (i := 2) (v := ?v2_t4) 77 rfl rfl (by kernel_rfl) (by kernel_rfl) (by kernel_rfl) (fun _ _ _ h => h) (Or.inl ⟨by kernel_rfl, ?hy2_t4⟩) (by assumption) ?rest2_t4
            case hy2_t4 => (intro W_ hS_; (try dsimp only at hS_); go_simp; (try (with_reducible rfl)))
            try simp only [Act.put, List.setIfInBounds_toArray, List.set_cons_zero, List.set_cons_succ]
            refine wpAnyH_take' (i := 3) (v := undef) 78 rfl rfl (by kernel_rfl) (by kernel_rfl) (by kernel_rfl) (fun _ _ _ h => h) (Or.inr ⟨by kernel_rfl, rfl⟩) (by assumption) ?_
            try simp only [Act.put, List.setIfInBounds_toArray, List.set_cons_zero, List.set_cons_succ]
            refine wpAnyH_take' (i := 4) (v := undef) 79 rfl rfl (by kernel_rfl) (by kernel_rfl) (by kernel_rfl) (fun _ _ _ h => h) (Or.inr ⟨by kernel_rfl, rfl⟩) (by assumption) ?_
            try simp only [Act.put, List.setIfInBounds_toArray, List.set_cons_zero, List.set_cons_succ]
            refine wpAnyH_take' (i := 5) (v := undef) 80 rfl rfl (by kernel_rfl) (by kernel_rfl) (by kernel_rfl) (fun _ _ _ h => h) (Or.inr ⟨by kernel_rfl, rfl⟩) (by assumption) ?_
            try simp only [Act.put, List.setIfInBounds_toArray, List.set_cons_zero, List.set_cons_succ]
            refine wpAnyH_take' (i := 6) (v := undef) 81 rfl rfl (by kernel_rfl) (by kernel_rfl) (by kernel_rfl) (fun _ _ _ h => h) (Or.inr ⟨by kernel_rfl, rfl⟩) (by assumption) ?_
            try simp only [Act.put, List.setIfInBounds_toArray, List.set_cons_zero, List.set_cons_succ]
            refine wpAnyH_take' (i := 7) (v := undef) 82 rfl rfl (by kernel_rfl) (by kernel_rfl) (by kernel_rfl) (fun _ _ _ h => h) (Or.inr ⟨by kernel_rfl, rfl⟩) (by assumption) ?_
            try simp only [Act.put, List.setIfInBounds_toArray, List.set_cons_zero, List.set_cons_succ]
            refine wpAnyH_skip (i := 8) 83 rfl rfl (by kernel_rfl) (by kernel_rfl) (by assumption) ?_
            try simp only [Act.put, List.setIfInBounds_toArray, List.set_cons_zero, List.set_cons_succ]
            refine wpAnyH_take' (i := 9) (v := ?v9_t4) 84 rfl rfl (by kernel_rfl) (by kernel_rfl) (by kernel_rfl) (fun _ _ _ h => h) (Or.inl ⟨by kernel_rfl, ?hy9_t4⟩) (by assumption) ?rest9_t4
            case hy9_t4 => (intro W_ hS_; (try dsimp only at hS_); go_simp; (try (with_reducible rfl)))
            try simp only [Act.put, List.setIfInBounds_toArray, List.set_cons_zero, List.set_cons_succ]
            refine wpAnyH_done (by kernel_rfl) ?_ _
            obtain ⟨w71, hw71⟩ : ∃ w71, wr.drew = w71 := ⟨_, rfl⟩
            have hB71 : Below wr.heap.size wr w71 := by rw [← hw71]; exact (below_drew1 _)
            rw [hw71]
            clear hw71  
            have hT71 := below_then hT70 hB71
            have hn71 := block_below hB71 hn70
            have hff71 := block_below hB71 hff70
            have hO71 := FOwn9.to hO70 hB71
            have hV71 := NIs.to hV70 hB71
            have hf571 := FIs.to hf570 hB71
            have hG71 := FIs.to hG70 hB71
            have hAt71 := fat_to hAt70 hB71
            clear hT70 hn70 hff70 hO70 hV70 hf570 hG70 hAt70 hB71
            have hln := (Array.getElem?_eq_some_iff.1 hn71).1
            obtain ⟨nc0, nc1, nc2, nc3, nc4, nc5, nc6⟩ := cells7' hn71
            have hlff := (Array.getElem?_eq_some_iff.1 hff71).1
            obtain ⟨ffc0, ffc1, ffc2, ffc3, ffc4⟩ := cells5' hff71
            go_wp2_with fail
            clear hln nc0 nc1 nc2 nc3 nc4 nc5 nc6 hlff ffc0 ffc1 ffc2 ffc3 ffc4
            go_round
            case measure => simp [intOf]; omega
            exact ⟨j + 1, (p : Int), by omega, by go_num, rfl, Lib.hid (by rw [if_pos (by omega)]), hO71, hn71, hff71, hV71, hf571, hT71⟩
          obtain rfl : j = n := by omega
          obtain rfl : x = (p : Int) := by rw [Hx.out, if_pos (by omega)]
          clear Hx hlt
          have j2 : ¬ (j : Int) < (j : Int) := by omega
          have j3 : decide ((j : Int) < (j : Int)) = false := by simp
          have j4 : ¬ (p : Int) < 0 := by omega
          have j5 : decide ((p : Int) < 0) = false := by simp
          have hln := (Array.getElem?_eq_some_iff.1 hn70).1
          obtain ⟨nc0, nc1, nc2, nc3, nc4, nc5, nc6⟩ := cells7' hn70
          have hlff := (Array.getElem?_eq_some_iff.1 hff70).1
          obtain ⟨ffc0, ffc1, ffc2, ffc3, ffc4⟩ := cells5' hff70
          go_wp2_with fail
          clear hln nc0 nc1 nc2 nc3 nc4 nc5 nc6 hlff ffc0 ffc1 ffc2 ffc3 ffc4
          clear j2 j3 hj
          go_loopw [14] (fun i wr => ∃ (q : Nat), q ≤ j ∧ i = .int .i64 q ∧ FOwn wr (w2.heap.size + 1) A j c fs ∧ wr.heap[w2.heap.size]? = some (.cells #[.slice m.qa m.qm m.qc, .slice m.la m.lm m.lc, .int .i64 m.k.t, .int .i64 m.k.r, .int .i64 m.k.s, .int .i64 m.k.q, .slice m.ga m.gm m.gc] 27) ∧ wr.heap[w61.heap.size]? = some (.cells #[.bool f5.x, .int .i64 f5.i, .bool f5.r, .int .i64 f5.n, .slice f5.a f5.m f5.c] 30) ∧ NIs wr (Out [w2.heap.size]) m (qN Q) ∧ FIs wr (Out [w2.heap.size]) f5 G ∧ Below w.heap.size w wr) (fun i _ => j - (intOf i).toNat)
          case atStart => exact ⟨0, Nat.zero_le _, rfl, hO70, hn70, hff70, hV70, hf570, hT70⟩
          case round =>
            clear hO70 hn70 hff70 hV70 hf570 hT70
            obtain ⟨q, hq, rfl, hO80, hn80, hff80, hV80, hf580, hT80⟩ := hrel
            by_cases hlt : q < j
            · skip
              have j2 : (q : Int) < (j : Int) := by omega
              have j3 : decide ((q : Int) < (j : Int)) = true := by simpa using j2
              obtain ⟨ad, g, ea, hAt80, hg_⟩ := own_at hO80 hFs HQl.out hlt
              obtain ⟨H, hH⟩ : ∃ H, Q.getD q zeroF = H := ⟨_, rfl⟩
              rw [hH] at hg_
              have HH := Lib.hid hH
              have hG80 := hg_.to hT80
              clear hg_ hH
              subst ea
              have HHok := Lib.hid (show okC H by rw [← HH.out]; exact okC_of (Hrt.out _ (getD_mem HQl.out hlt)))
              have Hmin := Lib.hid (show lessC H G = false by rw [← HH.out, ← HG.out, ← Hp.out]; exact leastTo_min Q _ q (by rw [HQl.out]; exact hlt))
              obtain ⟨n1, hn1_⟩ : ∃ n1, (rankC H).length = n1 := ⟨_, rfl⟩
              obtain ⟨n2, hn2_⟩ : ∃ n2, (rankC G).length = n2 := ⟨_, rfl⟩
              have hl1 := rankC_le H
              have hl2 := rankC_le G
              rw [hn1_] at hl1
              rw [hn2_] at hl2
              have Hn1 := Lib.hid hn1_
              have Hn2 := Lib.hid hn2_
              clear hn1_ hn2_
              have hln := (Array.getElem?_eq_some_iff.1 hn80).1
              obtain ⟨nc0, nc1, nc2, nc3, nc4, nc5, nc6⟩ := cells7' hn80
              have hlff := (Array.getElem?_eq_some_iff.1 hff80).1
              obtain ⟨ffc0, ffc1, ffc2, ffc3, ffc4⟩ := cells5' hff80
              go_wp2_with fail
              clear hln nc0 nc1 nc2 nc3 nc4 nc5 nc6 hlff ffc0 ffc1 ffc2 ffc3 ffc4
              by_cases hqp : q < p
              · skip
                have j6 : (q : Int) < (p : Int) := by omega
                have j7 : decide ((q : Int) < (p : Int)) = true := by simpa using j6
                have Hfr := Lib.hid (show lessC G H = true by rw [← HH.out, ← HG.out, ← Hp.out]; exact leastTo_front Q _ q (by rw [Hp.out]; exact hqp))
                refine wp_region_held_drew (S := fun W => (W.cell? ⟨w61.heap.size, 0, none⟩ = some (.bool f5.x) ∧ W.cell? ⟨w61.heap.size, 1, none⟩ = some (.int .i64 f5.i) ∧ W.cell? ⟨w61.heap.size, 2, none⟩ = some (.bool f5.r) ∧ W.cell? ⟨w61.heap.size, 3, none⟩ = some (.int .i64 f5.n) ∧ W.cell? ⟨w61.heap.size, 4, none⟩ = some (.slice f5.a f5.m f5.c)) ∧ (W.cell? (ad.add (q * 5)) = some (.bool g.x) ∧ W.cell? ⟨(ad.add (q * 5)).block, (ad.add (q * 5)).off + 1, none⟩ = some (.int .i64 g.i) ∧ W.cell? ⟨(ad.add (q * 5)).block, (ad.add (q * 5)).off + 2, none⟩ = some (.bool g.r) ∧ W.cell? ⟨(ad.add (q * 5)).block, (ad.add (q * 5)).off + 3, none⟩ = some (.int .i64 g.n) ∧ W.cell? ⟨(ad.add (q * 5)).block, (ad.add (q * 5)).off + 4, none⟩ = some (.slice g.a g.m g.c))) (by kernel_rfl) (by exact ⟨cells5' (block_below (below_drew1 _) hff80), (fat_to hAt80 (below_drew1 _))⟩) (fun hHeld_ => ?_)
                refine wpAnyH_take' (i := 0) (v := ?v0_t5) 98 rfl rfl (by kernel_rfl) (by kernel_rfl) (by kernel_rfl) (fun _ _ _ h => h) (Or.inl ⟨by kernel_rfl, ?hy0_t5⟩) (by assumption) ?rest0_t5
                case hy0_t5 => (intro W_ hS_; (try dsimp only at hS_); go_simp; (try (with_reducible rfl)))
                try simp only [Act.put, List.setIfInBounds_toArray, List.set_cons_zero, List.set_cons_succ]
                refine wpAnyH_take' (i := 1) (v := ?v1_t5) 99 rfl rfl (by kernel_rfl) (by kernel_rfl) (by kernel_rfl) (fun _ _ _ h => h) (Or.inl ⟨by kernel_rfl, ?hy1_t5⟩) (by assumption) ?rest1_t5
                case hy1_t5 => (intro W_ hS_; (try dsimp only at hS_); go_simp; (try (with_reducible rfl)))
                try simp only [Act.put, List.setIfInBounds_toArray, List.set_cons_zero, List.set_cons_succ]
                refine wpAnyH_take' (i := 2) (v := ?v2_t5) 100 rfl rfl (by kernel_rfl) (by kernel_rfl) (by kernel_rfl) (fun _ _ _ h => h) (Or.inl ⟨by kernel_rfl, ?hy2_t5⟩) (by assumption) ?rest2_t5
                case hy2_t5 => (intro W_ hS_; (try dsimp only at hS_); go_simp; (try (with_reducible rfl)))
                try simp only [Act.put, List.setIfInBounds_toArray, List.set_cons_zero, List.set_cons_succ]
                refine wpAnyH_take' (i := 3) (v := ?v3_t5) 101 rfl rfl (by kernel_rfl) (by kernel_rfl) (by kernel_rfl) (fun _ _ _ h => h) (Or.inl ⟨by kernel_rfl, ?hy3_t5⟩) (by assumption) ?rest3_t5
                case hy3_t5 => (intro W_ hS_; (try dsimp only at hS_); go_simp; (try (with_reducible rfl)))
                try simp only [Act.put, List.setIfInBounds_toArray, List.set_cons_zero, List.set_cons_succ]
                refine wpAnyH_take' (i := 5) (v := ?v5_t5) 103 rfl rfl (by kernel_rfl) (by kernel_rfl) (by kernel_rfl) (fun _ _ _ h => h) (Or.inl ⟨by kernel_rfl, ?hy5_t5⟩) (by assumption) ?rest5_t5
                case hy5_t5 => (intro W_ hS_; (try dsimp only at hS_); go_simp; (try (with_reducible rfl)))
                try simp only [Act.put, List.setIfInBounds_toArray, List.set_cons_zero, List.set_cons_succ]
                refine wpAnyH_ready (rs := [4]) (by kernel_rfl) (by simp) ?_
                refine AllReadyH.cons rfl (fun K_ hK_ => ?_) AllReadyH.nil
                go_simp
                refine (refRank_c (FIs.to hG80 (below_drew1 _)) HHok.out n1 Hn1.out).mono ?_; rintro e wr4 ⟨A4, c4, rfl, hr1_, hc4, hBr4⟩
                go_wp2_with fail
                refine hK_.out _ _ (by exact ⟨cells5' (block_below hBr4 (block_below (below_drew1 _) hff80)), (fat_to (fat_to hAt80 (below_drew1 _)) hBr4)⟩) (fun hHeld_4 => ?_)
                clear hK_
                try simp only [Act.put, List.setIfInBounds_toArray, List.set_cons_zero, List.set_cons_succ]
                refine wpAnyH_ready (rs := [6]) (by kernel_rfl) (by simp) ?_
                refine AllReadyH.cons rfl (fun K_ hK_ => ?_) AllReadyH.nil
                go_simp
                refine (refRank_c (FIs.to (FIs.to hf580 (below_drew1 _)) hBr4) HGok.out n2 Hn2.out).mono ?_; rintro e wr6 ⟨A6, c6, rfl, hr2_, hc6, hBr6⟩
                go_wp2_with fail
                refine hK_.out _ _ (by exact ⟨cells5' (block_below hBr6 (block_below hBr4 (block_below (below_drew1 _) hff80))), (fat_to (fat_to (fat_to hAt80 (below_drew1 _)) hBr4) hBr6)⟩) (fun hHeld_6 => ?_)
                clear hK_
                try simp only [Act.put, List.setIfInBounds_toArray, List.set_cons_zero, List.set_cons_succ]
                refine wpAnyH_ready (rs := [7]) (by kernel_rfl) (by simp) ?_
                refine AllReadyH.cons rfl (fun K_ hK_ => ?_) AllReadyH.nil
                go_simp
                refine (below_any (rankC H) (rankC G) n1 n2 Hn1.out Hn2.out A4 A6 c4 c6 _ (Row.to hr1_ hBr6) hr2_ (by omega) (by omega) false Hmin.out).mono ?_; rintro e wr7 ⟨rfl, hBr7⟩
                go_wp2_with fail
                refine hK_.out _ _ (by exact ⟨cells5' (block_below hBr7 (block_below hBr6 (block_below hBr4 (block_below (below_drew1 _) hff80)))), (fat_to (fat_to (fat_to (fat_to hAt80 (below_drew1 _)) hBr4) hBr6) hBr7)⟩) (fun hHeld_7 => ?_)
                clear hK_
                try simp only [Act.put, List.setIfInBounds_toArray, List.set_cons_zero, List.set_cons_succ]
                refine wpAnyH_take' (i := 8) (v := ?v8_t5) 106 rfl rfl (by kernel_rfl) (by kernel_rfl) (by kernel_rfl) (fun _ _ _ h => h) (Or.inl ⟨by kernel_rfl, ?hy8_t5⟩) (by assumption) ?rest8_t5
                case hy8_t5 => (intro W_ hS_; (try dsimp only at hS_); go_simp; (try (with_reducible rfl)))
                try simp only [Act.put, List.setIfInBounds_toArray, List.set_cons_zero, List.set_cons_succ]
                refine wpAnyH_take' (i := 9) (v := ?v9_t5) 107 rfl rfl (by kernel_rfl) (by kernel_rfl) (by kernel_rfl) (fun _ _ _ h => h) (Or.inl ⟨by kernel_rfl, ?hy9_t5⟩) (by assumption) ?rest9_t5
                case hy9_t5 => (intro W_ hS_; (try dsimp only at hS_); go_simp; (try (with_reducible rfl)))
                try simp only [Act.put, List.setIfInBounds_toArray, List.set_cons_zero, List.set_cons_succ]
                refine wpAnyH_take' (i := 10) (v := ?v10_t5) 108 rfl rfl (by kernel_rfl) (by kernel_rfl) (by kernel_rfl) (fun _ _ _ h => h) (Or.inl ⟨by kernel_rfl, ?hy10_t5⟩) (by assumption) ?rest10_t5
                case hy10_t5 => (intro W_ hS_; (try dsimp only at hS_); go_simp; (try (with_reducible rfl)))
                try simp only [Act.put, List.setIfInBounds_toArray, List.set_cons_zero, List.set_cons_succ]
                refine wpAnyH_take' (i := 11) (v := ?v11_t5) 109 rfl rfl (by kernel_rfl) (by kernel_rfl) (by kernel_rfl) (fun _ _ _ h => h) (Or.inl ⟨by kernel_rfl, ?hy11_t5⟩) (by assumption) ?rest11_t5
                case hy11_t5 => (intro W_ hS_; (try dsimp only at hS_); go_simp; (try (with_reducible rfl)))
                try simp only [Act.put, List.setIfInBounds_toArray, List.set_cons_zero, List.set_cons_succ]
                refine wpAnyH_take' (i := 12) (v := ?v12_t5) 110 rfl rfl (by kernel_rfl) (by kernel_rfl) (by kernel_rfl) (fun _ _ _ h => h) (Or.inl ⟨by kernel_rfl, ?hy12_t5⟩) (by assumption) ?rest12_t5
                case hy12_t5 => (intro W_ hS_; (try dsimp only at hS_); go_simp; (try (with_reducible rfl)))
                try simp only [Act.put, List.setIfInBounds_toArray, List.set_cons_zero, List.set_cons_succ]
                refine wpAnyH_take' (i := 13) (v := ?v13_t5) 111 rfl rfl (by kernel_rfl) (by kernel_rfl) (by kernel_rfl) (fun _ _ _ h => h) (Or.inl ⟨by kernel_rfl, ?hy13_t5⟩) (by assumption) ?rest13_t5
                case hy13_t5 => (intro W_ hS_; (try dsimp only at hS_); go_simp; (try (with_reducible rfl)))
                try simp only [Act.put, List.setIfInBounds_toArray, List.set_cons_zero, List.set_cons_succ]
                refine wpAnyH_take' (i := 15) (v := ?v15_t5) 113 rfl rfl (by kernel_rfl) (by kernel_rfl) (by kernel_rfl) (fun _ _ _ h => h) (Or.inl ⟨by kernel_rfl, ?hy15_t5⟩) (by assumption) ?rest15_t5
                case hy15_t5 => (intro W_ hS_; (try dsimp only at hS_); go_simp; (try (with_reducible rfl)))
                try simp only [Act.put, List.setIfInBounds_toArray, List.set_cons_zero, List.set_cons_succ]
                refine wpAnyH_take' (i := 16) (v := ?v16_t5) 114 rfl rfl (by kernel_rfl) (by kernel_rfl) (by kernel_rfl) (fun _ _ _ h => h) (Or.inl ⟨by kernel_rfl, ?hy16_t5⟩) (by assumption) ?rest16_t5
                case hy16_t5 => (intro W_ hS_; (try dsimp only at hS_); go_simp; (try (with_reducible rfl)))
                try simp only [Act.put, List.setIfInBounds_toArray, List.set_cons_zero, List.set_cons_succ]
                refine wpAnyH_take' (i := 17) (v := ?v17_t5) 115 rfl rfl (by kernel_rfl) (by kernel_rfl) (by kernel_rfl) (fun _ _ _ h => h) (Or.inl ⟨by kernel_rfl, ?hy17_t5⟩) (by assumption) ?rest17_t5
                case hy17_t5 => (intro W_ hS_; (try dsimp only at hS_); go_simp; (try (with_reducible rfl)))
                try simp only [Act.put, List.setIfInBounds_toArray, List.set_cons_zero, List.set_cons_succ]
                refine wpAnyH_take' (i := 18) (v := ?v18_t5) 116 rfl rfl (by kernel_rfl) (by kernel_rfl) (by kernel_rfl) (fun _ _ _ h => h) (Or.inl ⟨by kernel_rfl, ?hy18_t5⟩) (by assumption) ?rest18_t5
                case hy18_t5 => (intro W_ hS_; (try dsimp only at hS_); go_simp; (try (with_reducible rfl)))
                try simp only [Act.put, List.setIfInBounds_toArray, List.set_cons_zero, List.set_cons_succ]
                refine wpAnyH_ready (rs := [14]) (by kernel_rfl) (by simp) ?_
                refine AllReadyH.cons rfl (fun K_ hK_ => ?_) AllReadyH.nil
                go_simp
                refine (refRank_c (FIs.to (FIs.to (FIs.to (FIs.to hf580 (below_drew1 _)) hBr4) hBr6) hBr7) HGok.out n2 Hn2.out).mono ?_; rintro e wr14 ⟨A14, c14, rfl, hr3_, hc14, hBr14⟩
                go_wp2_with fail
                refine hK_.out _ _ (by exact ⟨cells5' (block_below hBr14 (block_below hBr7 (block_below hBr6 (block_below hBr4 (block_below (below_drew1 _) hff80))))), (fat_to (fat_to (fat_to (fat_to (fat_to hAt80 (below_drew1 _)) hBr4) hBr6) hBr7) hBr14)⟩) (fun hHeld_14 => ?_)
                clear hK_
                try simp only [Act.put, List.setIfInBounds_toArray, List.set_cons_zero, List.set_cons_succ]
                refine wpAnyH_ready (rs := [19]) (by kernel_rfl) (by simp) ?_
                refine AllReadyH.cons rfl (fun K_ hK_ => ?_) AllReadyH.nil
                go_simp
                refine (refRank_c (FIs.to (FIs.to (FIs.to (FIs.to (FIs.to hG80 (below_drew1 _)) hBr4) hBr6) hBr7) hBr14) HHok.out n1 Hn1.out).mono ?_; rintro e wr19 ⟨A19, c19, rfl, hr4_, hc19, hBr19⟩
                go_wp2_with fail
                refine hK_.out _ _ (by exact ⟨cells5' (block_below hBr19 (block_below hBr14 (block_below hBr7 (block_below hBr6 (block_below hBr4 (block_below (below_drew1 _) hff80)))))), (fat_to (fat_to (fat_to (fat_to (fat_to (fat_to hAt80 (below_drew1 _)) hBr4) hBr6) hBr7) hBr14) hBr19)⟩) (fun hHeld_19 => ?_)
                clear hK_
                try simp only [Act.put, List.setIfInBounds_toArray, List.set_cons_zero, List.set_cons_succ]
                refine wpAnyH_ready (rs := [20]) (by kernel_rfl) (by simp) ?_
                refine AllReadyH.cons rfl (fun K_ hK_ => ?_) AllReadyH.nil
                go_simp
                refine (below_any (rankC G) (rankC H) n2 n1 Hn2.out Hn1.out A14 A19 c14 c19 _ (Row.to hr3_ hBr19) hr4_ (by omega) (by omega) true Hfr.out).mono ?_; rintro e wr20 ⟨rfl, hBr20⟩
                go_wp2_with fail
                refine hK_.out _ _ (by exact ⟨cells5' (block_below hBr20 (block_below hBr19 (block_below hBr14 (block_below hBr7 (block_below hBr6 (block_below hBr4 (block_below (below_drew1 _) hff80))))))), (fat_to (fat_to (fat_to (fat_to (fat_to (fat_to (fat_to hAt80 (below_drew1 _)) hBr4) hBr6) hBr7) hBr14) hBr19) hBr20)⟩) (fun hHeld_20 => ?_)
                clear hK_
                try simp only [Act.put, List.setIfInBounds_toArray, List.set_cons_zero, List.set_cons_succ]
                refine wpAnyH_take' (i := 21) (v := ?v21_t5) 119 rfl rfl (by kernel_rfl) (by kernel_rfl) (by kernel_rfl) (fun _ _ _ h => h) (Or.inl ⟨by kernel_rfl, ?hy21_t5⟩) (by assumption) ?rest21_t5
                case hy21_t5 => (intro W_ hS_; (try dsimp only at hS_); go_simp; (try (with_reducible rfl)))
                try simp only [Act.put, List.setIfInBounds_toArray, List.set_cons_zero, List.set_cons_succ]
                refine wpAnyH_take' (i := 22) (v := ?v22_t5) 120 rfl rfl (by kernel_rfl) (by kernel_rfl) (by kernel_rfl) (fun _ _ _ h => h) (Or.inl ⟨by kernel_rfl, ?hy22_t5⟩) (by assumption) ?rest22_t5
                case hy22_t5 => (intro W_ hS_; (try dsimp only at hS_); go_simp; (try (with_reducible rfl)))
                try simp only [Act.put, List.setIfInBounds_toArray, List.set_cons_zero, List.set_cons_succ]
                refine wpAnyH_take' (i := 23) (v := ?v23_t5) 121 rfl rfl (by kernel_rfl) (by kernel_rfl) (by kernel_rfl) (fun _ _ _ h => h) (Or.inl ⟨by kernel_rfl, ?hy23_t5⟩) (by assumption) ?rest23_t5
                case hy23_t5 => (intro W_ hS_; (try dsimp only at hS_); go_simp; (try (with_reducible rfl)))
                try simp only [Act.put, List.setIfInBounds_toArray, List.set_cons_zero, List.set_cons_succ]
                refine wpAnyH_done (by kernel_rfl) ?_ _
                obtain ⟨w81, hw81⟩ : ∃ w81, wr20 = w81 := ⟨_, rfl⟩
                have hB81 : Below wr.heap.size wr w81 := by rw [← hw81]; exact (below_then (below_then (below_then (below_then (below_then (below_then (below_drew1 _) hBr4) hBr6) hBr7) hBr14) hBr19) hBr20)
                have hr181 := (Row.to (Row.to (Row.to (Row.to (Row.to hr1_ hBr6) hBr7) hBr14) hBr19) hBr20)
                rw [hw81] at hr181
                have hr281 := (Row.to (Row.to (Row.to (Row.to hr2_ hBr7) hBr14) hBr19) hBr20)
                rw [hw81] at hr281
                have hr381 := (Row.to (Row.to hr3_ hBr19) hBr20)
                rw [hw81] at hr381
                have hr481 := (Row.to hr4_ hBr20)
                rw [hw81] at hr481
                rw [hw81]
                clear hw81 hr1_ hr2_ hr3_ hr4_ hBr4 hBr6 hBr7 hBr14 hBr19 hBr20
                have hT81 := below_then hT80 hB81
                have hn81 := block_below hB81 hn80
                have hff81 := block_below hB81 hff80
                have hO81 := FOwn9.to hO80 hB81
                have hV81 := NIs.to hV80 hB81
                have hf581 := FIs.to hf580 hB81
                have hG81 := FIs.to hG80 hB81
                have hAt81 := fat_to hAt80 hB81
                clear hT80 hn80 hff80 hO80 hV80 hf580 hG80 hAt80 hB81
                clear hr181
                clear hr281
                clear hr381
                clear hr481
                have hln := (Array.getElem?_eq_some_iff.1 hn81).1
                obtain ⟨nc0, nc1, nc2, nc3, nc4, nc5, nc6⟩ := cells7' hn81
                have hlff := (Array.getElem?_eq_some_iff.1 hff81).1
                obtain ⟨ffc0, ffc1, ffc2, ffc3, ffc4⟩ := cells5' hff81
                go_wp2_with fail
                clear hln nc0 nc1 nc2 nc3 nc4 nc5 nc6 hlff ffc0 ffc1 ffc2 ffc3 ffc4
                go_round
                case measure => simp [intOf]; omega
                exact ⟨q + 1, by omega, by go_num, hO81, hn81, hff81, hV81, hf581, hT81⟩
              have j6 : ¬ (q : Int) < (p : Int) := by omega
              have j7 : decide ((q : Int) < (p : Int)) = false := by simpa using hqp
              refine wp_region_held_drew (S := fun W => (W.cell? ⟨w61.heap.size, 0, none⟩ = some (.bool f5.x) ∧ W.cell? ⟨w61.heap.size, 1, none⟩ = some (.int .i64 f5.i) ∧ W.cell? ⟨w61.heap.size, 2, none⟩ = some (.bool f5.r) ∧ W.cell? ⟨w61.heap.size, 3, none⟩ = some (.int .i64 f5.n) ∧ W.cell? ⟨w61.heap.size, 4, none⟩ = some (.slice f5.a f5.m f5.c)) ∧ (W.cell? (ad.add (q * 5)) = some (.bool g.x) ∧ W.cell? ⟨(ad.add (q * 5)).block, (ad.add (q * 5)).off + 1, none⟩ = some (.int .i64 g.i) ∧ W.cell? ⟨(ad.add (q * 5)).block, (ad.add (q * 5)).off + 2, none⟩ = some (.bool g.r) ∧ W.cell? ⟨(ad.add (q * 5)).block, (ad.add (q * 5)).off + 3, none⟩ = some (.int .i64 g.n) ∧ W.cell? ⟨(ad.add (q * 5)).block, (ad.add (q * 5)).off + 4, none⟩ = some (.slice g.a g.m g.c))) (by kernel_rfl) (by exact ⟨cells5' (block_below (below_drew1 _) hff80), (fat_to hAt80 (below_drew1 _))⟩) (fun hHeld_ => ?_)
              refine wpAnyH_take' (i := 0) (v := ?v0_t6) 98 rfl rfl (by kernel_rfl) (by kernel_rfl) (by kernel_rfl) (fun _ _ _ h => h) (Or.inl ⟨by kernel_rfl, ?hy0_t6⟩) (by assumption) ?rest0_t6
              case hy0_t6 => (intro W_ hS_; (try dsimp only at hS_); go_simp; (try (with_reducible rfl)))
              try simp only [Act.put, List.setIfInBounds_toArray, List.set_cons_zero, List.set_cons_succ]
              refine wpAnyH_take' (i := 1) (v := ?v1_t6) 99 rfl rfl (by kernel_rfl) (by kernel_rfl) (by kernel_rfl) (fun _ _ _ h => h) (Or.inl ⟨by kernel_rfl, ?hy1_t6⟩) (by assumption) ?rest1_t6
              case hy1_t6 => (intro W_ hS_; (try dsimp only at hS_); go_simp; (try (with_reducible rfl)))
              try simp only [Act.put, List.setIfInBounds_toArray, List.set_cons_zero, List.set_cons_succ]
              refine wpAnyH_take' (i := 2) (v := ?v2_t6) 100 rfl rfl (by kernel_rfl) (by kernel_rfl) (by kernel_rfl) (fun _ _ _ h => h) (Or.inl ⟨by kernel_rfl, ?hy2_t6⟩) (by assumption) ?rest2_t6
              case hy2_t6 => (intro W_ hS_; (try dsimp only at hS_); go_simp; (try (with_reducible rfl)))
              try simp only [Act.put, List.setIfInBounds_toArray, List.set_cons_zero, List.set_cons_succ]
              refine wpAnyH_take' (i := 3) (v := ?v3_t6) 101 rfl rfl (by kernel_rfl) (by kernel_rfl) (by kernel_rfl) (fun _ _ _ h => h) (Or.inl ⟨by kernel_rfl, ?hy3_t6⟩) (by assumption) ?rest3_t6
              case hy3_t6 => (intro W_ hS_; (try dsimp only at hS_); go_simp; (try (with_reducible rfl)))
              try simp only [Act.put, List.setIfInBounds_toArray, List.set_cons_zero, List.set_cons_succ]
              refine wpAnyH_take' (i := 5) (v := ?v5_t6) 103 rfl rfl (by kernel_rfl) (by kernel_rfl) (by kernel_rfl) (fun _ _ _ h => h) (Or.inl ⟨by kernel_rfl, ?hy5_t6⟩) (by assumption) ?rest5_t6
              case hy5_t6 => (intro W_ hS_; (try dsimp only at hS_); go_simp; (try (with_reducible rfl)))
              try simp only [Act.put, List.setIfInBounds_toArray, List.set_cons_zero, List.set_cons_succ]
              refine wpAnyH_ready (rs := [4]) (by kernel_rfl) (by simp) ?_
              refine AllReadyH.cons rfl (fun K_ hK_ => ?_) AllReadyH.nil
              go_simp
              refine (refRank_c (FIs.to hG80 (below_drew1 _)) HHok.out n1 Hn1.out).mono ?_; rintro e wr4 ⟨A4, c4, rfl, hr1_, hc4, hBr4⟩
              go_wp2_with fail
              refine hK_.out _ _ (by exact ⟨cells5' (block_below hBr4 (block_below (below_drew1 _) hff80)), (fat_to (fat_to hAt80 (below_drew1 _)) hBr4)⟩) (fun hHeld_4 => ?_)
              clear hK_
              try simp only [Act.put, List.setIfInBounds_toArray, List.set_cons_zero, List.set_cons_succ]
              refine wpAnyH_ready (rs := [6]) (by kernel_rfl) (by simp) ?_
              refine AllReadyH.cons rfl (fun K_ hK_ => ?_) AllReadyH.nil
              go_simp
              refine (refRank_c (FIs.to (FIs.to hf580 (below_drew1 _)) hBr4) HGok.out n2 Hn2.out).mono ?_; rintro e wr6 ⟨A6, c6, rfl, hr2_, hc6, hBr6⟩
              go_wp2_with fail
              refine hK_.out _ _ (by exact ⟨cells5' (block_below hBr6 (block_below hBr4 (block_below (below_drew1 _) hff80))), (fat_to (fat_to (fat_to hAt80 (below_drew1 _)) hBr4) hBr6)⟩) (fun hHeld_6 => ?_)
              clear hK_
              try simp only [Act.put, List.setIfInBounds_toArray, List.set_cons_zero, List.set_cons_succ]
              refine wpAnyH_ready (rs := [7]) (by kernel_rfl) (by simp) ?_
              refine AllReadyH.cons rfl (fun K_ hK_ => ?_) AllReadyH.nil
              go_simp
              refine (below_any (rankC H) (rankC G) n1 n2 Hn1.out Hn2.out A4 A6 c4 c6 _ (Row.to hr1_ hBr6) hr2_ (by omega) (by omega) false Hmin.out).mono ?_; rintro e wr7 ⟨rfl, hBr7⟩
              go_wp2_with fail
              refine hK_.out _ _ (by exact ⟨cells5' (block_below hBr7 (block_below hBr6 (block_below hBr4 (block_below (below_drew1 _) hff80)))), (fat_to (fat_to (fat_to (fat_to hAt80 (below_drew1 _)) hBr4) hBr6) hBr7)⟩) (fun hHeld_7 => ?_)
              clear hK_
              try simp only [Act.put, List.setIfInBounds_toArray, List.set_cons_zero, List.set_cons_succ]
              refine wpAnyH_take' (i := 8) (v := ?v8_t6) 106 rfl rfl (by kernel_rfl) (by kernel_rfl) (by kernel_rfl) (fun _ _ _ h => h) (Or.inl ⟨by kernel_rfl, ?hy8_t6⟩) (by assumption) ?rest8_t6
              case hy8_t6 => (intro W_ hS_; (try dsimp only at hS_); go_simp; (try (with_reducible rfl)))
              try simp only [Act.put, List.setIfInBounds_toArray, List.set_cons_zero, List.set_cons_succ]
              refine wpAnyH_take' (i := 9) (v := ?v9_t6) 107 rfl rfl (by kernel_rfl) (by kernel_rfl) (by kernel_rfl) (fun _ _ _ h => h) (Or.inl ⟨by kernel_rfl, ?hy9_t6⟩) (by assumption) ?rest9_t6
              case hy9_t6 => (intro W_ hS_; (try dsimp only at hS_); go_simp; (try (with_reducible rfl)))
              try simp only [Act.put, List.setIfInBounds_toArray, List.set_cons_zero, List.set_cons_succ]
              refine wpAnyH_take' (i := 10) (v := ?v10_t6) 108 rfl rfl (by kernel_rfl) (by kernel_rfl) (by kernel_rfl) (fun _ _ _ h => h) (Or.inl ⟨by kernel_rfl, ?hy10_t6⟩) (by assumption) ?rest10_t6
              case hy10_t6 => (intro W_ hS_; (try dsimp only at hS_); go_simp; (try (with_reducible rfl)))
              try simp only [Act.put, List.setIfInBounds_toArray, List.set_cons_zero, List.set_cons_succ]
              refine wpAnyH_take' (i := 11) (v := ?v11_t6) 109 rfl rfl (by kernel_rfl) (by kernel_rfl) (by kernel_rfl) (fun _ _ _ h => h) (Or.inl ⟨by kernel_rfl, ?hy11_t6⟩) (by assumption) ?rest11_t6
              case hy11_t6 => (intro W_ hS_; (try dsimp only at hS_); go_simp; (try (with_reducible rfl)))
              try simp only [Act.put, List.setIfInBounds_toArray, List.set_cons_zero, List.set_cons_succ]
              refine wpAnyH_take' (i := 12) (v := ?v12_t6) 110 rfl rfl (by kernel_rfl) (by kernel_rfl) (by kernel_rfl) (fun _ _ _ h => h) (Or.inl ⟨by kernel_rfl, ?hy12_t6⟩) (by assumption) ?rest12_t6
              case hy12_t6 => (intro W_ hS_; (try dsimp only at hS_); go_simp; (try (with_reducible rfl)))
              try simp only [Act.put, List.setIfInBounds_toArray, List.set_cons_zero, List.set_cons_succ]
              refine wpAnyH_take' (i := 13) (v := undef) 111 rfl rfl (by kernel_rfl) (by kernel_rfl) (by kernel_rfl) (fun _ _ _ h => h) (Or.inr ⟨by kernel_rfl, rfl⟩) (by assumption) ?_
              try simp only [Act.put, List.setIfInBounds_toArray, List.set_cons_zero, List.set_cons_succ]
              refine wpAnyH_take' (i := 15) (v := undef) 113 rfl rfl (by kernel_rfl) (by kernel_rfl) (by kernel_rfl) (fun _ _ _ h => h) (Or.inr ⟨by kernel_rfl, rfl⟩) (by assumption) ?_
              try simp only [Act.put, List.setIfInBounds_toArray, List.set_cons_zero, List.set_cons_succ]
              refine wpAnyH_take' (i := 16) (v := undef) 114 rfl rfl (by kernel_rfl) (by kernel_rfl) (by kernel_rfl) (fun _ _ _ h => h) (Or.inr ⟨by kernel_rfl, rfl⟩) (by assumption) ?_
              try simp only [Act.put, List.setIfInBounds_toArray, List.set_cons_zero, List.set_cons_succ]
              refine wpAnyH_take' (i := 17) (v := undef) 115 rfl rfl (by kernel_rfl) (by kernel_rfl) (by kernel_rfl) (fun _ _ _ h => h) (Or.inr ⟨by kernel_rfl, rfl⟩) (by assumption) ?_
              try simp only [Act.put, List.setIfInBounds_toArray, List.set_cons_zero, List.set_cons_succ]
              refine wpAnyH_take' (i := 18) (v := undef) 116 rfl rfl (by kernel_rfl) (by kernel_rfl) (by kernel_rfl) (fun _ _ _ h => h) (Or.inr ⟨by kernel_rfl, rfl⟩) (by assumption) ?_
              try simp only [Act.put, List.setIfInBounds_toArray, List.set_cons_zero, List.set_cons_succ]
              refine wpAnyH_skip (i := 14) 112 rfl rfl (by kernel_rfl) (by kernel_rfl) (by assumption) ?_
              try simp only [Act.put, List.setIfInBounds_toArray, List.set_cons_zero, List.set_cons_succ]
              refine wpAnyH_skip (i := 19) 117 rfl rfl (by kernel_rfl) (by kernel_rfl) (by assumption) ?_
              try simp only [Act.put, List.setIfInBounds_toArray, List.set_cons_zero, List.set_cons_succ]
              refine wpAnyH_skip (i := 20) 118 rfl rfl (by kernel_rfl) (by kernel_rfl) (by assumption) ?_
              try simp only [Act.put, List.setIfInBounds_toArray, List.set_cons_zero, List.set_cons_succ]
              refine wpAnyH_take' (i := 21) (v := undef) 119 rfl rfl (by kernel_rfl) (by kernel_rfl) (by kernel_rfl) (fun _ _ _ h => h) (Or.inr ⟨by kernel_rfl, rfl⟩) (by assumption) ?_
              try simp only [Act.put, List.setIfInBounds_toArray, List.set_cons_zero, List.set_cons_succ]
              refine wpAnyH_take' (i := 22) (v := ?v22_t6) 120 rfl rfl (by kernel_rfl) (by kernel_rfl) (by kernel_rfl) (fun _ _ _ h => h) (Or.inl ⟨by kernel_rfl, ?hy22_t6⟩) (by assumption) ?rest22_t6
              case hy22_t6 => (intro W_ hS_; (try dsimp only at hS_); go_simp; (try (with_reducible rfl)))
              try simp only [Act.put, List.setIfInBounds_toArray, List.set_cons_zero, List.set_cons_succ]
              refine wpAnyH_take' (i := 23) (v := ?v23_t6) 121 rfl rfl (by kernel_rfl) (by kernel_rfl) (by kernel_rfl) (fun _ _ _ h => h) (Or.inl ⟨by kernel_rfl, ?hy23_t6⟩) (by assumption) ?rest23_t6
              case hy23_t6 => (intro W_ hS_; (try dsimp only at hS_); go_simp; (try (with_reducible rfl)))
              try simp only [Act.put, List.setIfInBounds_toArray, List.set_cons_zero, List.set_cons_succ]
              refine wpAnyH_done (by kernel_rfl) ?_ _
              obtain ⟨w81, hw81⟩ : ∃ w81, wr7 = w81 := ⟨_, rfl⟩
              have hB81 : Below wr.heap.size wr w81 := by rw [← hw81]; exact (below_then (below_then (below_then (below_drew1 _) hBr4) hBr6) hBr7)
              have hr181 := (Row.to (Row.to hr1_ hBr6) hBr7)
              rw [hw81] at hr181
              have hr281 := (Row.to hr2_ hBr7)
              rw [hw81] at hr281
              rw [hw81]
              clear hw81 hr1_ hr2_ hBr4 hBr6 hBr7
              have hT81 := below_then hT80 hB81
              have hn81 := block_below hB81 hn80
              have hff81 := block_below hB81 hff80
              have hO81 := FOwn9.to hO80 hB81
              have hV81 := NIs.to hV80 hB81
              have hf581 := FIs.to hf580 hB81
              have hG81 := FIs.to hG80 hB81
              have hAt81 := fat_to hAt80 hB81
              clear hT80 hn80 hff80 hO80 hV80 hf580 hG80 hAt80 hB81
              clear hr181
              clear hr281
              have hln := (Array.getElem?_eq_some_iff.1 hn81).1
              obtain ⟨nc0, nc1, nc2, nc3, nc4, nc5, nc6⟩ := cells7' hn81
              have hlff := (Array.getElem?_eq_some_iff.1 hff81).1
              obtain ⟨ffc0, ffc1, ffc2, ffc3, ffc4⟩ := cells5' hff81
              go_wp2_with fail
              clear hln nc0 nc1 nc2 nc3 nc4 nc5 nc6 hlff ffc0 ffc1 ffc2 ffc3 ffc4
              go_round
              case measure => simp [intOf]; omega
              exact ⟨q + 1, by omega, by go_num, hO81, hn81, hff81, hV81, hf581, hT81⟩
            obtain rfl : q = j := by omega
            clear hlt hq
            have j2 : ¬ (q : Int) < (q : Int) := by omega
            have j3 : decide ((q : Int) < (q : Int)) = false := by simp
            obtain ⟨ad, g, ea, _, _⟩ := own_at hO80 hFs HQl.out hpn
            subst ea
            have hcap := FOwn.cap hO80
            have hfl := FOwn.len hO80
            have hrow := FRow.own hO80
            have hsl : FRow wr wr.heap.size (some ad) (fs.take p) := by
              have := hrow.sub_ 0 p (Nat.zero_le _) (by rw [hfl]; omega) (A' := some ad) (fun _ => by simp [Addr.add])
              simpa using this
            have hsr : FRow wr wr.heap.size (some (ad.add ((p + 1) * 5))) (fs.drop (p + 1)) := by
              have := hrow.sub_ (p + 1) q (by omega) (by rw [hfl]; exact Nat.le_refl _) (A' := some (ad.add ((p + 1) * 5))) (fun _ => rfl)
              rwa [List.take_of_length_le (by rw [List.length_drop, hfl]; omega)] at this
            have hsr' := hsr
            rw [add_pos _ _ (by omega)] at hsr'
            have Htl := Lib.hid (show (fs.take p).length = p by rw [List.length_take, hfl]; omega)
            have Hdl := Lib.hid (show (fs.drop (p + 1)).length = q - (p + 1) by rw [List.length_drop, hfl])
            have Hde := Lib.hid (show Q.take p ++ Q.drop (p + 1) = Q.eraseIdx p from (List.eraseIdx_eq_take_drop_succ Q p).symm)
            have hFs2 : FsIs w (fun _ => True) (fs.take p ++ fs.drop (p + 1)) (Q.eraseIdx p) := by rw [← Hde.out]; exact (hFs.take p).append (hFs.drop (p + 1))
            have Hlq := Lib.hid (show (Q.eraseIdx p).length = p + (q - (p + 1)) by rw [List.length_eraseIdx, HQl.out, if_pos hpn]; omega)
            have Hrt2 := Lib.hid (show ∀ F ∈ Q.eraseIdx p, rightC F = true from fun F hF => Hrt.out F (List.mem_of_mem_eraseIdx hF))
            have Hse := Lib.hid (show sentN (qN Q) true = qN (Q.eraseIdx p) by rw [q_sent HQ.out, Hp.out])
            have Hfl := Lib.hid hfl
            clear hfl hrow Hde
            have i1 : (p : Int) ≤ (c : Int) := by omega
            have i2 : (p : Int) + 1 ≤ (q : Int) := by omega
            have i3 : (q : Int) ≤ (c : Int) := by omega
            have i6 : (0 : Int) ≤ (p : Int) + 1 := by omega
            have i4 : ((p : Int) + 1).toNat = p + 1 := by omega
            have i5 : IntKind.i64.wrap ((p : Int) + 1) = (p : Int) + 1 := by rw [IntKind.wrap_i64]; omega
            have i7 : (0 : Int) ≤ (p : Int) := by omega
            have hln := (Array.getElem?_eq_some_iff.1 hn80).1
            obtain ⟨nc0, nc1, nc2, nc3, nc4, nc5, nc6⟩ := cells7' hn80
            have hlff := (Array.getElem?_eq_some_iff.1 hff80).1
            obtain ⟨ffc0, ffc1, ffc2, ffc3, ffc4⟩ := cells5' hff80
            go_wp2_with fail
            clear hln nc0 nc1 nc2 nc3 nc4 nc5 nc6 hlff ffc0 ffc1 ffc2 ffc3 ffc4
            by_cases hce : p + 1 = c
            · skip
              have Hdn := Lib.hid (show fs.drop (p + 1) = [] from List.eq_nil_of_length_eq_zero (by rw [Hdl.out]; omega))
              have hBd2 : Below wr.heap.size wr (wr.alloc (.cells #[] 30)).drew := below_then (below_alloc1 _ _) (below_drew1 _)
              refine wp_region_held_drew (S := fun W => True) (by kernel_rfl) (by exact trivial) (fun hHeld_ => ?_)
              refine wpAnyH_take' (i := 1) (v := ?vT7_1_0_) 123 rfl rfl (by kernel_rfl) (by kernel_rfl) (by kernel_rfl) (fun _ _ _ h => h) (Or.inl ⟨by kernel_rfl, ?hyT7_1_0_⟩) (by assumption) ?restT7_1_0_
              case hyT7_1_0_ => (intro W_ hS_; (try dsimp only at hS_); go_simp; (try (with_reducible rfl)))
              try simp only [Act.put, List.setIfInBounds_toArray, List.set_cons_zero, List.set_cons_succ]
              refine wpAnyH_take' (i := 2) (v := ?vT7_2_0_) 124 rfl rfl (by kernel_rfl) (by kernel_rfl) (by kernel_rfl) (fun _ _ _ h => h) (Or.inl ⟨by kernel_rfl, ?hyT7_2_0_⟩) (by assumption) ?restT7_2_0_
              case hyT7_2_0_ => (intro W_ hS_; (try dsimp only at hS_); go_simp; (try (with_reducible rfl)))
              try simp only [Act.put, List.setIfInBounds_toArray, List.set_cons_zero, List.set_cons_succ]
              refine wpAnyH_take' (i := 3) (v := ?vT7_3_0_) 125 rfl rfl (by kernel_rfl) (by kernel_rfl) (by kernel_rfl) (fun _ _ _ h => h) (Or.inl ⟨by kernel_rfl, ?hyT7_3_0_⟩) (by assumption) ?restT7_3_0_
              case hyT7_3_0_ => (intro W_ hS_; (try dsimp only at hS_); go_simp; (try (with_reducible rfl)))
              try simp only [Act.put, List.setIfInBounds_toArray, List.set_cons_zero, List.set_cons_succ]
              refine wpAnyH_take' (i := 5) (v := ?vT7_5_0_) 127 rfl rfl (by kernel_rfl) (by kernel_rfl) (by kernel_rfl) (fun _ _ _ h => h) (Or.inl ⟨by kernel_rfl, ?hyT7_5_0_⟩) (by assumption) ?restT7_5_0_
              case hyT7_5_0_ => (intro W_ hS_; (try dsimp only at hS_); go_simp; (try (with_reducible rfl)))
              try simp only [Act.put, List.setIfInBounds_toArray, List.set_cons_zero, List.set_cons_succ]
              refine wpAnyH_take' (i := 6) (v := ?vT7_6_0_) 128 rfl rfl (by kernel_rfl) (by kernel_rfl) (by kernel_rfl) (fun _ _ _ h => h) (Or.inl ⟨by kernel_rfl, ?hyT7_6_0_⟩) (by assumption) ?restT7_6_0_
              case hyT7_6_0_ => (intro W_ hS_; (try dsimp only at hS_); go_simp; (try (with_reducible rfl)))
              try simp only [Act.put, List.setIfInBounds_toArray, List.set_cons_zero, List.set_cons_succ]
              refine wpAnyH_take' (i := 7) (v := ?vT7_7_0_) 129 rfl rfl (by kernel_rfl) (by kernel_rfl) (by kernel_rfl) (fun _ _ _ h => h) (Or.inl ⟨by kernel_rfl, ?hyT7_7_0_⟩) (by assumption) ?restT7_7_0_
              case hyT7_7_0_ => (intro W_ hS_; (try dsimp only at hS_); go_simp; (try (with_reducible rfl)))
              try simp only [Act.put, List.setIfInBounds_toArray, List.set_cons_zero, List.set_cons_succ]
              refine wpAnyH_take' (i := 8) (v := ?vT7_8_0_) 130 rfl rfl (by kernel_rfl) (by kernel_rfl) (by kernel_rfl) (fun _ _ _ h => h) (Or.inl ⟨by kernel_rfl, ?hyT7_8_0_⟩) (by assumption) ?restT7_8_0_
              case hyT7_8_0_ => (intro W_ hS_; (try dsimp only at hS_); go_simp; (try (with_reducible rfl)))
              try simp only [Act.put, List.setIfInBounds_toArray, List.set_cons_zero, List.set_cons_succ]
              refine wpAnyH_ready (rs := [0]) (by kernel_rfl) (by simp) ?_
              refine (AllReadyH.cons rfl (fun K_ hK_ => ?_) AllReadyH.nil)
              go_simp
              go_wp2_with fail
              refine hK_.out _ _ (by exact trivial) (fun hHeld_0_0 => ?_)
              clear hK_
              try simp only [Act.put, List.setIfInBounds_toArray, List.set_cons_zero, List.set_cons_succ]
              refine wpAnyH_ready (rs := [4]) (by kernel_rfl) (by simp) ?_
              refine (AllReadyH.cons rfl (fun K_ hK_ => ?_) AllReadyH.nil)
              refine step_append_fr rfl _ _ rfl wr.heap.size _ 0 [] rfl (own_to (fown_empty wr _ _ rfl (Nat.le_refl _)) (below_drew1 _)) _ _ _ _ (fs.take p) rfl Htl.out (hsl.below hBd2) (by omega) hBd2.size 126 rfl ?_
              intro A5 c5 w5 hown5 hc5 hB5
              simp only [Nat.zero_add, List.nil_append] at hown5 hc5 ⊢
              have hBk5 : Below wr.heap.size wr w5 := hBd2.trans hB5
              refine hK_.out _ _ (by exact trivial) (fun hHeld_4_1 => ?_)
              clear hK_
              try simp only [Act.put, List.setIfInBounds_toArray, List.set_cons_zero, List.set_cons_succ]
              refine wpAnyH_ready (rs := [9]) (by kernel_rfl) (by simp) ?_
              refine (AllReadyH.cons rfl (fun K_ hK_ => ?_) AllReadyH.nil)
              refine step_append_fr rfl _ _ rfl wr.heap.size _ p (fs.take p) rfl hown5 _ _ _ _ [] rfl rfl (show FRow w5 w.heap.size _ [] from .inl rfl) (by omega) hBk5.size 131 rfl ?_
              intro A6 c6 w6 hown6 hc6 hB6
              have hBk6 : Below wr.heap.size wr w6 := hBk5.trans hB6
              refine hK_.out _ _ (by exact trivial) (fun hHeld_9_2 => ?_)
              clear hK_
              try simp only [Act.put, List.setIfInBounds_toArray, List.set_cons_zero, List.set_cons_succ]
              refine wpAnyH_take' (i := 10) (v := ?vT7_10_3_0_4_9) 9 rfl rfl (by kernel_rfl) (by kernel_rfl) (by kernel_rfl) (fun _ _ _ h => h) (Or.inl ⟨by kernel_rfl, ?hyT7_10_3_0_4_9⟩) (by assumption) ?restT7_10_3_0_4_9
              case hyT7_10_3_0_4_9 => (intro W_ hS_; (try dsimp only at hS_); go_simp; (try (with_reducible rfl)))
              try simp only [Act.put, List.setIfInBounds_toArray, List.set_cons_zero, List.set_cons_succ]
              refine wpAnyH_done (by kernel_rfl) ?_ _
              skip
              have hnx := (Array.getElem?_eq_some_iff.1 hn80).1
              have hT90 := below_then hT80 hBk6
              have hn90 := block_below hBk6 hn80
              have hff90 := block_below hBk6 hff80
              have hV90 := hV80.to hBk6
              have hO90 : FOwn w6 (w2.heap.size + 1) A6 p c6 (fs.take p ++ fs.drop (p + 1)) := own_mono (show FOwn w6 _ A6 _ c6 (fs.take p ++ fs.drop (p + 1)) by rw [Hdn.out]; exact hown6) (by omega)
              clear hown5 hown6 hc5 hc6 hB5 hB6 hBk5 hBk6 hBd2 hn80 hff80 hV80 hO80 hT80 hf580 hnx hsl hsr hsr'
              have hln := (Array.getElem?_eq_some_iff.1 hn90).1
              obtain ⟨nc0, nc1, nc2, nc3, nc4, nc5, nc6⟩ := cells7' hn90
              have hlff := (Array.getElem?_eq_some_iff.1 hff90).1
              obtain ⟨ffc0, ffc1, ffc2, ffc3, ffc4⟩ := cells5' hff90
              go_wp2_with fail
              clear hln nc0 nc1 nc2 nc3 nc4 nc5 nc6 hlff ffc0 ffc1 ffc2 ffc3 ffc4
              refine (sent_c hV90 Hok.out (out_up (lt_cons (Array.getElem?_eq_some_iff.1 hn90).1 (fun _ h => by cases h))) true (qN (Q.eraseIdx p)) Hse.out).mono ?_
              rintro e w91 ⟨m2, rfl, hm2_, hB91⟩
              have hT91 := below_then hT90 hB91
              have hn91 := block_below hB91 hn90
              have hff91 := block_below hB91 hff90
              have hO91 := FOwn9.to hO90 hB91
              have hV91 := NIs.to hV90 hB91
              clear hT90 hn90 hff90 hO90 hV90 hB91
              have hm291 := hm2_
              clear hm2_
              clear hV91
              have hln := (Array.getElem?_eq_some_iff.1 hn91).1
              obtain ⟨⟨nc0, nc1, nc2, nc3, nc4, nc5, nc6⟩, nf0, nf1, nf2, nf3, nf4, nf5, nf6⟩ := cells7 hn91
              have hlff := (Array.getElem?_eq_some_iff.1 hff91).1
              obtain ⟨ffc0, ffc1, ffc2, ffc3, ffc4⟩ := cells5' hff91
              go_wp2_with fail
              clear hln nc0 nc1 nc2 nc3 nc4 nc5 nc6 nf0 nf1 nf2 nf3 nf4 nf5 nf6 hlff ffc0 ffc1 ffc2 ffc3 ffc4
              obtain ⟨w92, hw92⟩ : ∃ w_, set7 w91 w2.heap.size (.slice m2.qa m2.qm m2.qc) (.slice m2.la m2.lm m2.lc) (.int .i64 m2.k.t) (.int .i64 m2.k.r) (.int .i64 m2.k.s) (.int .i64 m2.k.q) (.slice m2.ga m2.gm m2.gc) = w_ := ⟨_, rfl⟩
              have hG92 : w91.grownBy w92 (some w2.heap.size) := by rw [← hw92]; exact set7_grown _ _ _ _ _ _ _ _ _
              have hT92 := below_g hT91 hG92 hgen
              have hn92 : w92.heap[w2.heap.size]? = some (.cells #[.slice m2.qa m2.qm m2.qc, .slice m2.la m2.lm m2.lc, .int .i64 m2.k.t, .int .i64 m2.k.r, .int .i64 m2.k.s, .int .i64 m2.k.q, .slice m2.ga m2.gm m2.gc] 27) := by rw [← hw92]; exact set7_obj hn91 _ _ _ _ _ _ _
              have hff92 := other_g hG92 hff91 Hff_n.out
              have hO92 := FOwn9.grow hO91 hG92 (Nat.lt_succ_self _)
              have hm292 := NIs.grow hm291 hG92 (out_not (by simp))
              have Hsz92 := Lib.hid (show w92.heap.size = w91.heap.size by rw [← hw92]; simp [set7, World.setCell])
              unfold set7 at hw92
              rw [hw92]
              clear hw92 hG92 hT91 hn91 hff91 hO91 hm291
              go_round
              case measure => simp [lenV]; omega
              exact ⟨p, c6, m2, A6, _, Q.eraseIdx p, rfl, hO92, by rw [Hlq.out]; omega, by omega, hFs2, Hrt2.out, hn92, hm292, hT92⟩
            have hBd2 : Below wr.heap.size wr (wr.alloc (.cells #[] 30)).drew := below_then (below_alloc1 _ _) (below_drew1 _)
            refine wp_region_held_drew (S := fun W => True) (by kernel_rfl) (by exact trivial) (fun hHeld_ => ?_)
            refine wpAnyH_take' (i := 1) (v := ?vT8_1_0_) 123 rfl rfl (by kernel_rfl) (by kernel_rfl) (by kernel_rfl) (fun _ _ _ h => h) (Or.inl ⟨by kernel_rfl, ?hyT8_1_0_⟩) (by assumption) ?restT8_1_0_
            case hyT8_1_0_ => (intro W_ hS_; (try dsimp only at hS_); go_simp; (try (with_reducible rfl)))
            try simp only [Act.put, List.setIfInBounds_toArray, List.set_cons_zero, List.set_cons_succ]
            refine wpAnyH_take' (i := 2) (v := ?vT8_2_0_) 124 rfl rfl (by kernel_rfl) (by kernel_rfl) (by kernel_rfl) (fun _ _ _ h => h) (Or.inl ⟨by kernel_rfl, ?hyT8_2_0_⟩) (by assumption) ?restT8_2_0_
            case hyT8_2_0_ => (intro W_ hS_; (try dsimp only at hS_); go_simp; (try (with_reducible rfl)))
            try simp only [Act.put, List.setIfInBounds_toArray, List.set_cons_zero, List.set_cons_succ]
            refine wpAnyH_take' (i := 3) (v := ?vT8_3_0_) 125 rfl rfl (by kernel_rfl) (by kernel_rfl) (by kernel_rfl) (fun _ _ _ h => h) (Or.inl ⟨by kernel_rfl, ?hyT8_3_0_⟩) (by assumption) ?restT8_3_0_
            case hyT8_3_0_ => (intro W_ hS_; (try dsimp only at hS_); go_simp; (try (with_reducible rfl)))
            try simp only [Act.put, List.setIfInBounds_toArray, List.set_cons_zero, List.set_cons_succ]
            refine wpAnyH_take' (i := 5) (v := ?vT8_5_0_) 127 rfl rfl (by kernel_rfl) (by kernel_rfl) (by kernel_rfl) (fun _ _ _ h => h) (Or.inl ⟨by kernel_rfl, ?hyT8_5_0_⟩) (by assumption) ?restT8_5_0_
            case hyT8_5_0_ => (intro W_ hS_; (try dsimp only at hS_); go_simp; (try (with_reducible rfl)))
            try simp only [Act.put, List.setIfInBounds_toArray, List.set_cons_zero, List.set_cons_succ]
            refine wpAnyH_take' (i := 6) (v := ?vT8_6_0_) 128 rfl rfl (by kernel_rfl) (by kernel_rfl) (by kernel_rfl) (fun _ _ _ h => h) (Or.inl ⟨by kernel_rfl, ?hyT8_6_0_⟩) (by assumption) ?restT8_6_0_
            case hyT8_6_0_ => (intro W_ hS_; (try dsimp only at hS_); go_simp; (try (with_reducible rfl)))
            try simp only [Act.put, List.setIfInBounds_toArray, List.set_cons_zero, List.set_cons_succ]
            refine wpAnyH_take' (i := 7) (v := ?vT8_7_0_) 129 rfl rfl (by kernel_rfl) (by kernel_rfl) (by kernel_rfl) (fun _ _ _ h => h) (Or.inl ⟨by kernel_rfl, ?hyT8_7_0_⟩) (by assumption) ?restT8_7_0_
            case hyT8_7_0_ => (intro W_ hS_; (try dsimp only at hS_); go_simp; (try (with_reducible rfl)))
            try simp only [Act.put, List.setIfInBounds_toArray, List.set_cons_zero, List.set_cons_succ]
            refine wpAnyH_take' (i := 8) (v := ?vT8_8_0_) 130 rfl rfl (by kernel_rfl) (by kernel_rfl) (by kernel_rfl) (fun _ _ _ h => h) (Or.inl ⟨by kernel_rfl, ?hyT8_8_0_⟩) (by assumption) ?restT8_8_0_
            case hyT8_8_0_ => (intro W_ hS_; (try dsimp only at hS_); go_simp; (try (with_reducible rfl)))
            try simp only [Act.put, List.setIfInBounds_toArray, List.set_cons_zero, List.set_cons_succ]
            refine wpAnyH_ready (rs := [0]) (by kernel_rfl) (by simp) ?_
            refine (AllReadyH.cons rfl (fun K_ hK_ => ?_) AllReadyH.nil)
            go_simp
            go_wp2_with fail
            refine hK_.out _ _ (by exact trivial) (fun hHeld_0_0 => ?_)
            clear hK_
            try simp only [Act.put, List.setIfInBounds_toArray, List.set_cons_zero, List.set_cons_succ]
            refine wpAnyH_ready (rs := [4]) (by kernel_rfl) (by simp) ?_
            refine (AllReadyH.cons rfl (fun K_ hK_ => ?_) AllReadyH.nil)
            refine step_append_fr rfl _ _ rfl wr.heap.size _ 0 [] rfl (own_to (fown_empty wr _ _ rfl (Nat.le_refl _)) (below_drew1 _)) _ _ _ _ (fs.take p) rfl Htl.out (hsl.below hBd2) (by omega) hBd2.size 126 rfl ?_
            intro A5 c5 w5 hown5 hc5 hB5
            simp only [Nat.zero_add, List.nil_append] at hown5 hc5 ⊢
            have hBk5 : Below wr.heap.size wr w5 := hBd2.trans hB5
            refine hK_.out _ _ (by exact trivial) (fun hHeld_4_1 => ?_)
            clear hK_
            try simp only [Act.put, List.setIfInBounds_toArray, List.set_cons_zero, List.set_cons_succ]
            refine wpAnyH_ready (rs := [9]) (by kernel_rfl) (by simp) ?_
            refine (AllReadyH.cons rfl (fun K_ hK_ => ?_) AllReadyH.nil)
            refine step_append_fr rfl _ _ rfl wr.heap.size _ p (fs.take p) rfl hown5 _ _ _ _ (fs.drop (p + 1)) rfl Hdl.out (by first | exact (hsr.below hBk5) | exact (hsr'.below hBk5)) (by omega) hBk5.size 131 rfl ?_
            intro A6 c6 w6 hown6 hc6 hB6
            have hBk6 : Below wr.heap.size wr w6 := hBk5.trans hB6
            refine hK_.out _ _ (by exact trivial) (fun hHeld_9_2 => ?_)
            clear hK_
            try simp only [Act.put, List.setIfInBounds_toArray, List.set_cons_zero, List.set_cons_succ]
            refine wpAnyH_take' (i := 10) (v := ?vT8_10_3_0_4_9) 9 rfl rfl (by kernel_rfl) (by kernel_rfl) (by kernel_rfl) (fun _ _ _ h => h) (Or.inl ⟨by kernel_rfl, ?hyT8_10_3_0_4_9⟩) (by assumption) ?restT8_10_3_0_4_9
            case hyT8_10_3_0_4_9 => (intro W_ hS_; (try dsimp only at hS_); go_simp; (try (with_reducible rfl)))
            try simp only [Act.put, List.setIfInBounds_toArray, List.set_cons_zero, List.set_cons_succ]
            refine wpAnyH_done (by kernel_rfl) ?_ _
            skip
            have hnx := (Array.getElem?_eq_some_iff.1 hn80).1
            have hT90 := below_then hT80 hBk6
            have hn90 := block_below hBk6 hn80
            have hff90 := block_below hBk6 hff80
            have hV90 := hV80.to hBk6
            have hO90 : FOwn w6 (w2.heap.size + 1) A6 (p + (q - (p + 1))) c6 (fs.take p ++ fs.drop (p + 1)) := own_mono hown6 (by omega)
            clear hown5 hown6 hc5 hc6 hB5 hB6 hBk5 hBk6 hBd2 hn80 hff80 hV80 hO80 hT80 hf580 hnx hsl hsr hsr'
            have hln := (Array.getElem?_eq_some_iff.1 hn90).1
            obtain ⟨nc0, nc1, nc2, nc3, nc4, nc5, nc6⟩ := cells7' hn90
            have hlff := (Array.getElem?_eq_some_iff.1 hff90).1
            obtain ⟨ffc0, ffc1, ffc2, ffc3, ffc4⟩ := cells5' hff90
            go_wp2_with fail
            clear hln nc0 nc1 nc2 nc3 nc4 nc5 nc6 hlff ffc0 ffc1 ffc2 ffc3 ffc4
            refine (sent_c hV90 Hok.out (out_up (lt_cons (Array.getElem?_eq_some_iff.1 hn90).1 (fun _ h => by cases h))) true (qN (Q.eraseIdx p)) Hse.out).mono ?_
            rintro e w91 ⟨m2, rfl, hm2_, hB91⟩
            have hT91 := below_then hT90 hB91
            have hn91 := block_below hB91 hn90
            have hff91 := block_below hB91 hff90
            have hO91 := FOwn9.to hO90 hB91
            have hV91 := NIs.to hV90 hB91
            clear hT90 hn90 hff90 hO90 hV90 hB91
            have hm291 := hm2_
            clear hm2_
            clear hV91
            have hln := (Array.getElem?_eq_some_iff.1 hn91).1
            obtain ⟨⟨nc0, nc1, nc2, nc3, nc4, nc5, nc6⟩, nf0, nf1, nf2, nf3, nf4, nf5, nf6⟩ := cells7 hn91
            have hlff := (Array.getElem?_eq_some_iff.1 hff91).1
            obtain ⟨ffc0, ffc1, ffc2, ffc3, ffc4⟩ := cells5' hff91
            go_wp2_with fail
            clear hln nc0 nc1 nc2 nc3 nc4 nc5 nc6 nf0 nf1 nf2 nf3 nf4 nf5 nf6 hlff ffc0 ffc1 ffc2 ffc3 ffc4
            obtain ⟨w92, hw92⟩ : ∃ w_, set7 w91 w2.heap.size (.slice m2.qa m2.qm m2.qc) (.slice m2.la m2.lm m2.lc) (.int .i64 m2.k.t) (.int .i64 m2.k.r) (.int .i64 m2.k.s) (.int .i64 m2.k.q) (.slice m2.ga m2.gm m2.gc) = w_ := ⟨_, rfl⟩
            have hG92 : w91.grownBy w92 (some w2.heap.size) := by rw [← hw92]; exact set7_grown _ _ _ _ _ _ _ _ _
            have hT92 := below_g hT91 hG92 hgen
            have hn92 : w92.heap[w2.heap.size]? = some (.cells #[.slice m2.qa m2.qm m2.qc, .slice m2.la m2.lm m2.lc, .int .i64 m2.k.t, .int .i64 m2.k.r, .int .i64 m2.k.s, .int .i64 m2.k.q, .slice m2.ga m2.gm m2.gc] 27) := by rw [← hw92]; exact set7_obj hn91 _ _ _ _ _ _ _
            have hff92 := other_g hG92 hff91 Hff_n.out
            have hO92 := FOwn9.grow hO91 hG92 (Nat.lt_succ_self _)
            have hm292 := NIs.grow hm291 hG92 (out_not (by simp))
            have Hsz92 := Lib.hid (show w92.heap.size = w91.heap.size by rw [← hw92]; simp [set7, World.setCell])
            unfold set7 at hw92
            rw [hw92]
            clear hw92 hG92 hT91 hn91 hff91 hO91 hm291
            go_round
            case measure => simp [lenV]; omega
            exact ⟨(p + (q - (p + 1))), c6, m2, A6, _, Q.eraseIdx p, rfl, hO92, Hlq.out, by omega, hFs2, Hrt2.out, hn92, hm292, hT92⟩
      obtain rfl : n = 0 := by omega
      obtain rfl : Q = [] := List.eq_nil_of_length_eq_zero HQl.out
      clear h0
      have hln := (Array.getElem?_eq_some_iff.1 hn60).1
      obtain ⟨nc0, nc1, nc2, nc3, nc4, nc5, nc6⟩ := cells7' hn60
      go_wp2_with fail
      clear hln nc0 nc1 nc2 nc3 nc4 nc5 nc6
      refine (next_c hV60 Hok.out false (by decide) _ rfl).mono ?_
      rintro e w61 ⟨f5, rfl, hf5_, hB61⟩
      have hT61 := below_then hT60 hB61
      have hn61 := block_below hB61 hn60
      have hO61 := FOwn9.to hO60 hB61
      have hV61 := NIs.to hV60 hB61
      clear hT60 hn60 hO60 hV60 hB61
      have hf561 := hf5_
      clear hf5_
      have e0 : m.qm = 0 := hV61.q.len.symm
      clear hf561
      have hln := (Array.getElem?_eq_some_iff.1 hn61).1
      obtain ⟨nc0, nc1, nc2, nc3, nc4, nc5, nc6⟩ := cells7' hn61
      go_wp2_with fail
      go_ret
      exact ⟨rfl, below_then hT61 (below_alloc1 _ _)⟩

end Go.Proofs.Ytlbgilbigcnleaa
