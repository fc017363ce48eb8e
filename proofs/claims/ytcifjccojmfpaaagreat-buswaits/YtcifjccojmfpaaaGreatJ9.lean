/-
  NpL · NpV.
-/
import Derived.Test.YtcifjccojmfpaaaGreatJ0
import Derived.Test.YtcifjccojmfpaaaGreatJ1
import Derived.Test.YtcifjccojmfpaaaGreatJ2
import Derived.Test.YtcifjccojmfpaaaGreatJ3
import Derived.Test.YtcifjccojmfpaaaGreatJ4
import Derived.Test.YtcifjccojmfpaaaGreatJ5
import Derived.Test.YtcifjccojmfpaaaGreatJ8
set_option maxRecDepth 100000
set_option maxHeartbeats 4000000
namespace Go.Proofs.YtcifjccojmfpaaaGreat
open Go.RowKit
set_option linter.unusedVariables false
set_option linter.unusedSimpArgs false
theorem sentN_g (N : NC) (ok : Bool) : (sentN N ok).g = N.g := by unfold sentN; split <;> (try split) <;> rfl
theorem sentN_l (N : NC) (ok : Bool) : (sentN N ok).l = N.l := by unfold sentN; split <;> (try split) <;> rfl
theorem sentN_q (N : NC) : (sentN N false).q = N.q := by unfold sentN; split <;> rfl
theorem heardN_q (N : NC) (F : FC) (ok long : Bool) : (heardN N F ok long).q = N.q := by unfold heardN; split <;> (try split) <;> rfl
theorem heardN_l (N : NC) (F : FC) (ok long : Bool) : (heardN N F ok long).l = N.l := by unfold heardN; split <;> (try split) <;> rfl
theorem slot_l {Ns : List NC} (H : List Int) {i : Nat} (hi : i < Ns.length) : (nd (slotN Ns H) i).l = (nd Ns i).l := by
  rw [slotN_at H hi]
  split
  · rfl
  · unfold afterN
    split
    · split
      · exact sentN_l _ _
      · rfl
    · exact heardN_l _ _ _ _
theorem slot_got {Ns : List NC} (H : List Int) {i : Nat} (hi : i < Ns.length) (hg : (nd Ns i).g.length < 64) :
    (nd (slotN Ns H) i).g = if gotV Ns H i then (nd Ns i).g ++ [(toldN lenZ Ns H).f] else (nd Ns i).g := by
  rw [slotN_at H hi]
  unfold gotV toldN
  by_cases hw : winN Ns < 0
  · rw [if_pos hw, if_pos hw]; rfl
  · rw [if_neg hw, if_neg hw]
    unfold afterN
    cases hal : alongN Ns i with
    | true =>
      simp only [if_true, Bool.not_true, Bool.false_and, Bool.and_false, Bool.false_eq_true, if_false]
      split
      · exact sentN_g _ _
      · rfl
    | false =>
      simp only [Bool.false_eq_true, if_false, Bool.not_false, Bool.true_and]
      unfold heardN
      by_cases hs : (nd Ns i).k.s = 3
      · rw [if_pos hs, decide_eq_false (fun h => h hs)]
        simp
      · rw [if_neg hs, decide_eq_true hs, Bool.true_and]
        cases hok : okS Ns H with
        | false => simp
        | true =>
          cases hin : inH H i with
          | true => simp
          | false =>
            simp only [Bool.not_false, Bool.true_and, if_true]
            unfold gotN
            rw [decide_eq_true hg, Bool.true_and]
theorem slot_q {Ns : List NC} (H : List Int) {i : Nat} (hi : i < Ns.length) :
    (nd (slotN Ns H) i).q = if (toldN lenZ Ns H).ok && alongN Ns i then (sentN (nd Ns i) true).q else (nd Ns i).q := by
  rw [slotN_at H hi]
  unfold toldN
  by_cases hw : winN Ns < 0
  · rw [if_pos hw, if_pos hw]; rfl
  · rw [if_neg hw, if_neg hw]
    unfold afterN
    cases hal : alongN Ns i with
    | false =>
      simp only [Bool.false_eq_true, if_false, Bool.and_false]
      exact heardN_q _ _ _ _
    | true =>
      simp only [if_true, Bool.and_true]
      cases hok : okS Ns H with
      | true => simp
      | false =>
        simp only [Bool.false_eq_true, if_false]
        split
        · exact sentN_q _
        · rfl
theorem told_w (Ns : List NC) (H : List Int) : (toldN lenZ Ns H).w = winN Ns := by
  unfold toldN
  by_cases hw : winN Ns < 0
  · rw [if_pos hw]
    have := winTo_ge Ns Ns.length
    unfold winN at *
    show (-1 : Int) = _
    omega
  · rw [if_neg hw]
theorem told_none {Ns : List NC} (H : List Int) (h : winN Ns < 0) : toldN lenZ Ns H = ⟨-1, zeroF, false, 11⟩ := by unfold toldN; rw [if_pos h]
theorem told_ok {Ns : List NC} {H : List Int} (h : (toldN lenZ Ns H).ok = true) : 0 ≤ winN Ns ∧ okS Ns H = true := by
  by_cases hw : winN Ns < 0
  · rw [told_none H hw] at h; cases h
  · rw [told_some H (by omega)] at h; exact ⟨by omega, h⟩
theorem along_same {Ns : List NC} {H : List Int} {i : Nat} (hi : i < Ns.length) (hok : (toldN lenZ Ns H).ok = true) (hal : alongN Ns i = true) : nextF (nd Ns i) = (toldN lenZ Ns H).f := by
  obtain ⟨hw, h⟩ := told_ok hok
  rw [told_some H hw]
  unfold okS at h
  simp only [Bool.and_eq_true, Bool.not_eq_true'] at h
  have h1 := h.1
  unfold hitN at h1
  have h2 : hitAt Ns H i = false := by
    cases h3 : hitAt Ns H i with
    | false => rfl
    | true => rw [hitTo_iff.2 ⟨i, hi, h3⟩] at h1; cases h1
  unfold hitAt at h2
  rw [if_pos hal] at h2
  simp only [Bool.or_eq_false_iff, Bool.not_eq_false'] at h2
  have h3 := h2.1
  unfold sameF at h3
  exact of_decide_eq_true h3
theorem along_has {Ns : List NC} {i : Nat} (h : alongN Ns i = true) : hasN (nd Ns i) = true := by
  unfold alongN at h
  simp only [Bool.and_eq_true] at h
  exact h.2.1
theorem inH_add {H : List Int} {k i : Nat} (h : i ≠ k) : inH (H ++ [(k : Int)]) i = inH H i := by
  unfold inH
  apply decide_eq_decide.2
  constructor
  · intro h1
    rcases List.mem_append.1 h1 with h1 | h1
    · exact h1
    · simp at h1; omega
  · intro h1; exact List.mem_append_left _ h1
theorem hit_quiet {Ns : List NC} {H : List Int} {k : Nat} (hs : (nd Ns k).k.s ≠ 1) (hal : alongN Ns k = false) : hitN Ns (H ++ [(k : Int)]) = hitN Ns H := by
  have key : ∀ n, hitTo Ns (H ++ [(k : Int)]) n = hitTo Ns H n := by
    intro n
    induction n with
    | zero => rfl
    | succ n ih =>
      rw [hitTo, hitTo, ih]
      congr 1
      unfold hitAt
      by_cases e : n = k
      · subst e
        rw [hal, decide_eq_false hs]; simp
      · rw [inH_add e]
  exact key _
theorem okS_quiet {Ns : List NC} {H : List Int} {k : Nat} (hs : (nd Ns k).k.s ≠ 1) (hal : alongN Ns k = false) : okS Ns (H ++ [(k : Int)]) = okS Ns H := by unfold okS; rw [hit_quiet hs hal]
theorem told_quiet {Ns : List NC} {H : List Int} {k : Nat} (hs : (nd Ns k).k.s ≠ 1) (hal : alongN Ns k = false) : toldN lenZ Ns (H ++ [(k : Int)]) = toldN lenZ Ns H := by unfold toldN; rw [okS_quiet hs hal]
theorem slot_quiet {Ns : List NC} {H : List Int} {k i : Nat} (hs : (nd Ns k).k.s ≠ 1) (hal : alongN Ns k = false) (hi : i < Ns.length) (hik : i ≠ k) : nd (slotN Ns (H ++ [(k : Int)])) i = nd (slotN Ns H) i := by
  rw [slotN_at _ hi, slotN_at _ hi]
  unfold afterN
  rw [okS_quiet hs hal, hit_quiet hs hal, inH_add hik]
end Go.Proofs.YtcifjccojmfpaaaGreat

namespace Go.Proofs.YtcifjccojmfpaaaGreat
open Go.RowKit
set_option linter.unusedVariables false
set_option linter.unusedSimpArgs false
theorem set0_obj1 {w : World} {F : Nat} {a : Value} {t : TypeId} (h : w.heap[F]? = some (.cells #[a] t)) (a' : Value) : (w.setCell ⟨F, 0, none⟩ a').heap[F]? = some (.cells #[a'] t) := by
  simp [World.setCell, Array.getElem?_modify, h]
theorem hsl_lit10 {W : World} {P : Nat → Prop} {x : HV} {H : List Int} (hx : HIs W P x H) : HSl (W.alloc (.cells #[.slice x.a x.m x.c] 41)) P (some ⟨W.heap.size, 0, none⟩) 1 1 [H] :=
  ⟨rfl, Nat.le_refl _, ⟨[x], GRow.lit W [x] rfl rfl, AllIs.one (hx.to (below_alloc1 _ _))⟩⟩
theorem madeC_id {F : FC} (h : rightC F = true) : madeC F = F := by
  obtain ⟨ID, L, h1, h2, h3, h4, h5⟩ := right_parts10 h
  have hi : idm F.x F.i = F.i := idm_keep_ (f := ⟨F.x, F.i, F.r, F.n, none, 0, 0⟩) ⟨ID, h1, h3⟩
  unfold madeC
  rw [hi]
  cases hr : F.r with
  | true =>
    rw [hr] at h5
    have hd : F.d = [] := List.eq_nil_of_length_eq_zero h5
    have hn : min (bits .and .i64 F.n 15) 8 = F.n := by
      have e : bits .and .i64 F.n 15 = F.n := by rw [h2]; exact and_keep_ L 4 (by decide) (by omega)
      rw [e, h2]; omega
    rw [if_pos rfl, hn]
    apply fc_ext.2
    exact ⟨rfl, rfl, hr.symm, rfl, hd.symm⟩
  | false =>
    rw [hr] at h5
    have hl : F.d.length = L := h5
    rw [if_neg (by decide)]
    apply fc_ext.2
    refine ⟨rfl, rfl, hr.symm, ?_, ?_⟩
    · show ((min F.d.length 8 : Nat) : Int) = F.n
      rw [h2, hl]; omega
    · show F.d.take (min F.d.length 8) = F.d
      rw [show min F.d.length 8 = F.d.length by omega, List.take_length]
end Go.Proofs.YtcifjccojmfpaaaGreat

