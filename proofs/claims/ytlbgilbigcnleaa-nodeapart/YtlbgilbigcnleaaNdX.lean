/-
  Are two nodes alike? (the document's Same)
-/
import Derived.Test.YtlbgilbigcnleaaNdM
import Derived.Test.YtlbgilbigcnleaaNdS
namespace Go.Proofs.Ytlbgilbigcnleaa
open Go.RowKit
set_option linter.unusedVariables false
set_option linter.unusedSimpArgs false

theorem neq_fl (x : Bool) (k m : Int) (x' : Bool) (k' m' : Int) (w : World) :
    (binOp .neq 61 (.agg #[.bool x, .int .i64 k, .int .i64 m]) (.agg #[.bool x', .int .i64 k', .int .i64 m'])).run Try.prog w = .ok (.bool (!sameL ⟨x, k, m⟩ ⟨x', k', m'⟩)) w := by
  rw [run_neq_struct, eqIn_fl]
  rfl
theorem nc_ext {a b : NC} : a = b ↔ a.q = b.q ∧ a.l = b.l ∧ a.k = b.k ∧ a.g = b.g := by cases a; cases b; simp

set_option maxRecDepth 100000 in
set_option maxHeartbeats 4000000 in
theorem same9_c {w : World} {P P' : Nat → Prop} {a b : NV} {N M : NC} (h : NIs w P a N) (h' : NIs w P' b M) (q : Bool) (hq : sameN N M = q) :
    Calls Try.prog 17 #[a.v, b.v] w fun e w' => e = .returned (.bool q) ∧ Below w.heap.size w w' := by
  have q1 := eqIn_c
  have q2 := eq_c
  have q3 := eqIn_fl
  have q4 := neq_fl
  obtain ⟨aqa, aqm, aqc, ala, alm, alc, ak, aga, agm, agc⟩ := a
  obtain ⟨bqa, bqm, bqc, bla, blm, blc, bk, bga, bgm, bgc⟩ := b
  have hl := h.l
  have hl' := h'.l
  dsimp only at hl hl'
  have hbig := hl.big
  unfold maxLen at hbig
  have Hk := Lib.hid (show ak = N.k from h.k)
  have Hk' := Lib.hid (show bk = M.k from h'.k)
  have Hfin := Lib.hid (show sameN N M = (decide (N.l = M.l) && (sameFs N.q M.q && (sameFs N.g M.g && sameC N.k M.k))) by
    unfold sameN sameFs sameC
    rw [Bool.eq_iff_iff]
    simp only [decide_eq_true_eq, Bool.and_eq_true]
    rw [nc_ext]
    constructor
    · rintro ⟨h1, h2, h3, h4⟩; exact ⟨h2, h1, h4, h3⟩
    · rintro ⟨h1, h2, h3, h4⟩; exact ⟨h2, h1, h4, h3⟩)
  have Hq := Lib.hid hq
  clear hq
  by_cases hlen : alm = blm
  · subst hlen
    have d0 : ((alm : Int) != (alm : Int)) = false := by simp
    have d00 : (alm != alm) = false := by simp
    obtain ⟨w0, hw0⟩ : ∃ w0, ((w.alloc (.cells #[.slice aqa aqm aqc, .slice ala alm alc, .int .i64 ak.t, .int .i64 ak.r, .int .i64 ak.s, .int .i64 ak.q, .slice aga agm agc] 27)).alloc (.cells #[.slice bqa bqm bqc, .slice bla alm blc, .int .i64 bk.t, .int .i64 bk.r, .int .i64 bk.s, .int .i64 bk.q, .slice bga bgm bgc] 27)) = w0 := ⟨_, rfl⟩
    have hT0 : Below w.heap.size w w0 := by rw [← hw0]; exact below_then (below_alloc1 _ _) (below_alloc1 _ _)
    have ha0 : w0.heap[w.heap.size]? = some (.cells #[.slice aqa aqm aqc, .slice ala alm alc, .int .i64 ak.t, .int .i64 ak.r, .int .i64 ak.s, .int .i64 ak.q, .slice aga agm agc] 27) := by rw [← hw0]; exact block_below (below_alloc1 _ _) (World.alloc_heap_new _ _)
    have hb0 : w0.heap[(w.heap.size + 1)]? = some (.cells #[.slice bqa bqm bqc, .slice bla alm blc, .int .i64 bk.t, .int .i64 bk.r, .int .i64 bk.s, .int .i64 bk.q, .slice bga bgm bgc] 27) := by rw [← hw0]; exact alloc_at _ _ (by simp)
    have hs0 : w0.heap.size = w.heap.size + 2 := by rw [← hw0]; simp
    have Hs0 := Lib.hid hs0
    clear hs0
    obtain ⟨ac0, ac1, ac2, ac3, ac4, ac5, ac6⟩ := cells7' ha0
    obtain ⟨bc0, bc1, bc2, bc3, bc4, bc5, bc6⟩ := cells7' hb0
    go_enter Try.func17, Try.ntmps17
    go_wp2_with fail
    clear ac0 ac1 ac2 ac3 ac4 ac5 ac6 bc0 bc1 bc2 bc3 bc4 bc5 bc6
    clear hw0
    have hZ0 := Below.refl w0.heap.size w0
    go_loopw [5] (fun i wr => ∃ k : Nat, k ≤ alm ∧ i = .int .i64 k ∧ Hid (∀ j, j < k → N.l[j]? = M.l[j]?) ∧ wr.heap[w.heap.size]? = some (.cells #[.slice aqa aqm aqc, .slice ala alm alc, .int .i64 ak.t, .int .i64 ak.r, .int .i64 ak.s, .int .i64 ak.q, .slice aga agm agc] 27) ∧ wr.heap[(w.heap.size + 1)]? = some (.cells #[.slice bqa bqm bqc, .slice bla alm blc, .int .i64 bk.t, .int .i64 bk.r, .int .i64 bk.s, .int .i64 bk.q, .slice bga bgm bgc] 27) ∧ Below w.heap.size w wr) (fun i _ => alm - (intOf i).toNat)
    case atStart => exact ⟨0, Nat.zero_le _, rfl, Lib.hid (fun j hj => absurd hj (by omega)), ha0, hb0, hT0⟩
    case round =>
      clear ha0 hb0 hT0 hZ0
      obtain ⟨k, hk, rfl, HR0, ha50, hb50, hT50⟩ := hrel
      by_cases hlt : k < alm
      · skip
        obtain ⟨ad, f, ea, hF, a0, a1, a2⟩ := (hl.to hT50).at_ hlt
        obtain ⟨ad2, g, eb, hG, b0, b1, b2⟩ := (hl'.to hT50).at_ hlt
        subst ea eb
        have HF := Lib.hid hF
        have HG := Lib.hid hG
        clear hF hG
        have i1 : (k : Int) < (alm : Int) := by omega
        obtain ⟨fx, fk, fm⟩ := f
        obtain ⟨gx, gk, gm_⟩ := g
        dsimp only at a0 a1 a2 b0 b1 b2
        obtain ⟨r, hr⟩ : ∃ q, sameL ⟨fx, fk, fm⟩ ⟨gx, gk, gm_⟩ = q := ⟨_, rfl⟩
        have Hr := Lib.hid hr
        clear hr
        skip
        cases r
        · skip
          have r1 : sameL ⟨fx, fk, fm⟩ ⟨gx, gk, gm_⟩ = false := Hr.out
          obtain ⟨ac0, ac1, ac2, ac3, ac4, ac5, ac6⟩ := cells7' ha50
          obtain ⟨bc0, bc1, bc2, bc3, bc4, bc5, bc6⟩ := cells7' hb50
          go_wp2_with fail
          go_quiet (fail)
          go_wp2_with fail
          go_ret
          exact ⟨ret_bool (by rw [← Hq.out, Hfin.out, neq_at HF.out HG.out (by unfold sameL at r1; simpa using r1), Bool.false_and]), below_drewN' hT50 _⟩
        have r1 : sameL ⟨fx, fk, fm⟩ ⟨gx, gk, gm_⟩ = true := Hr.out
        obtain ⟨ac0, ac1, ac2, ac3, ac4, ac5, ac6⟩ := cells7' ha50
        obtain ⟨bc0, bc1, bc2, bc3, bc4, bc5, bc6⟩ := cells7' hb50
        go_wp2_with fail
        go_quiet (fail)
        go_wp2_with fail
        clear ac0 ac1 ac2 ac3 ac4 ac5 ac6 bc0 bc1 bc2 bc3 bc4 bc5 bc6
        go_round
        case measure => simp [intOf]; omega
        refine ⟨k + 1, by omega, by go_num, Lib.hid (fun j hj => ?_), ha50, hb50, below_drewN' hT50 _⟩
        by_cases hjk : j < k
        · exact HR0.out j hjk
        · obtain rfl : j = k := by omega
          rw [HF.out, HG.out]
          unfold sameL at r1
          simp only [decide_eq_true_eq] at r1
          rw [r1]
      obtain rfl : k = alm := by omega
      have i1 : ¬ (k : Int) < (k : Int) := by omega
      have hle : N.l = M.l := eq_all (hl.len.trans hl'.len.symm) (fun j hj => HR0.out j (by rw [hl.len] at hj; exact hj))
      have hq2 := Hq.out
      rw [Hfin.out, decide_eq_true hle, Bool.true_and] at hq2
      have Hq2 := Lib.hid hq2
      clear hq2 hle
      obtain ⟨r1, hr1⟩ : ∃ q, sameFs N.q M.q = q := ⟨_, rfl⟩
      have Hr1 := Lib.hid hr1
      clear hr1
      obtain ⟨r2, hr2⟩ : ∃ q, sameFs N.g M.g = q := ⟨_, rfl⟩
      have Hr2 := Lib.hid hr2
      clear hr2
      obtain ⟨r3, hr3⟩ : ∃ q, sameC N.k M.k = q := ⟨_, rfl⟩
      have Hr3 := Lib.hid hr3
      clear hr3
      have Hr4 := Lib.hid (show sameC ak bk = r3 by rw [Hk.out, Hk'.out]; exact Hr3.out)
      have hr5 : ∀ (t r s q t' r' s' q' : Int), (⟨t, r, s, q⟩ : CV) = ak → (⟨t', r', s', q'⟩ : CV) = bk → True := fun _ _ _ _ _ _ _ _ _ _ => trivial
      clear hr5
      have hq3 : q = (r1 && (r2 && r3)) := by rw [← Hq2.out, Hr1.out, Hr2.out, Hr3.out]
      subst hq3
      obtain ⟨ac0, ac1, ac2, ac3, ac4, ac5, ac6⟩ := cells7' ha50
      obtain ⟨bc0, bc1, bc2, bc3, bc4, bc5, bc6⟩ := cells7' hb50
      go_wp2_with fail
      clear ac0 ac1 ac2 ac3 ac4 ac5 ac6 bc0 bc1 bc2 bc3 bc4 bc5 bc6
      cases r1
      · skip
        refine (sameAll_c (h.q.to hT50) (h'.q.to hT50) false Hr1.out).mono ?_
        rintro e w51 ⟨rfl, hB51⟩
        have hT51 := below_then hT50 hB51
        have ha51 := block_below hB51 ha50
        have hb51 := block_below hB51 hb50
        clear hT50 ha50 hb50  hB51
        obtain ⟨ac0, ac1, ac2, ac3, ac4, ac5, ac6⟩ := cells7' ha51
        obtain ⟨bc0, bc1, bc2, bc3, bc4, bc5, bc6⟩ := cells7' hb51
        go_wp2_with fail
        go_ret
        exact ⟨rfl, hT51⟩
      refine (sameAll_c (h.q.to hT50) (h'.q.to hT50) true Hr1.out).mono ?_
      rintro e w51 ⟨rfl, hB51⟩
      have hT51 := below_then hT50 hB51
      have ha51 := block_below hB51 ha50
      have hb51 := block_below hB51 hb50
      clear hT50 ha50 hb50  hB51
      obtain ⟨ac0, ac1, ac2, ac3, ac4, ac5, ac6⟩ := cells7' ha51
      obtain ⟨bc0, bc1, bc2, bc3, bc4, bc5, bc6⟩ := cells7' hb51
      go_wp2_with fail
      clear ac0 ac1 ac2 ac3 ac4 ac5 ac6 bc0 bc1 bc2 bc3 bc4 bc5 bc6
      cases r2
      · skip
        refine (sameAll_c (h.g.to hT51) (h'.g.to hT51) false Hr2.out).mono ?_
        rintro e w52 ⟨rfl, hB52⟩
        have hT52 := below_then hT51 hB52
        have ha52 := block_below hB52 ha51
        have hb52 := block_below hB52 hb51
        clear hT51 ha51 hb51  hB52
        obtain ⟨ac0, ac1, ac2, ac3, ac4, ac5, ac6⟩ := cells7' ha52
        obtain ⟨bc0, bc1, bc2, bc3, bc4, bc5, bc6⟩ := cells7' hb52
        go_wp2_with fail
        go_ret
        exact ⟨rfl, hT52⟩
      refine (sameAll_c (h.g.to hT51) (h'.g.to hT51) true Hr2.out).mono ?_
      rintro e w52 ⟨rfl, hB52⟩
      have hT52 := below_then hT51 hB52
      have ha52 := block_below hB52 ha51
      have hb52 := block_below hB52 hb51
      clear hT51 ha51 hb51  hB52
      have r4 := Hr4.out
      clear Hk Hk' Hr4 Hr3
      obtain ⟨at_, ar_, as_, aq_⟩ := ak
      obtain ⟨bt_, br_, bs_, bq_⟩ := bk
      obtain ⟨ac0, ac1, ac2, ac3, ac4, ac5, ac6⟩ := cells7' ha52
      obtain ⟨bc0, bc1, bc2, bc3, bc4, bc5, bc6⟩ := cells7' hb52
      go_wp2_with fail
      go_ret
      exact ⟨ret_bool (by simp), hT52⟩
  · skip
    have d0 : ((alm : Int) != (blm : Int)) = true := by simp; omega
    have d00 : (alm != blm) = true := by simp; omega
    have hq2 : false = q := by
      rw [← Hq.out, Hfin.out]
      have : decide (N.l = M.l) = false := by simp only [decide_eq_false_iff_not]; intro e; rw [e] at hl; exact hlen (hl.len.symm.trans hl'.len)
      rw [this]; rfl
    subst hq2
    obtain ⟨w0, hw0⟩ : ∃ w0, ((w.alloc (.cells #[.slice aqa aqm aqc, .slice ala alm alc, .int .i64 ak.t, .int .i64 ak.r, .int .i64 ak.s, .int .i64 ak.q, .slice aga agm agc] 27)).alloc (.cells #[.slice bqa bqm bqc, .slice bla blm blc, .int .i64 bk.t, .int .i64 bk.r, .int .i64 bk.s, .int .i64 bk.q, .slice bga bgm bgc] 27)) = w0 := ⟨_, rfl⟩
    have hT0 : Below w.heap.size w w0 := by rw [← hw0]; exact below_then (below_alloc1 _ _) (below_alloc1 _ _)
    have ha0 : w0.heap[w.heap.size]? = some (.cells #[.slice aqa aqm aqc, .slice ala alm alc, .int .i64 ak.t, .int .i64 ak.r, .int .i64 ak.s, .int .i64 ak.q, .slice aga agm agc] 27) := by rw [← hw0]; exact block_below (below_alloc1 _ _) (World.alloc_heap_new _ _)
    have hb0 : w0.heap[(w.heap.size + 1)]? = some (.cells #[.slice bqa bqm bqc, .slice bla blm blc, .int .i64 bk.t, .int .i64 bk.r, .int .i64 bk.s, .int .i64 bk.q, .slice bga bgm bgc] 27) := by rw [← hw0]; exact alloc_at _ _ (by simp)
    have hs0 : w0.heap.size = w.heap.size + 2 := by rw [← hw0]; simp
    have Hs0 := Lib.hid hs0
    clear hs0
    obtain ⟨ac0, ac1, ac2, ac3, ac4, ac5, ac6⟩ := cells7' ha0
    obtain ⟨bc0, bc1, bc2, bc3, bc4, bc5, bc6⟩ := cells7' hb0
    go_enter Try.func17, Try.ntmps17
    go_wp2_with fail
    clear ac0 ac1 ac2 ac3 ac4 ac5 ac6 bc0 bc1 bc2 bc3 bc4 bc5 bc6
    clear hw0
    have hZ0 := Below.refl w0.heap.size w0
    go_ret
    exact ⟨rfl, hT0⟩

end Go.Proofs.Ytlbgilbigcnleaa
