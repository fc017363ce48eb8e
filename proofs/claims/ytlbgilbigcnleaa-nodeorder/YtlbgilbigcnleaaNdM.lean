/-
  What layer 9's functions make of what nodes hold: no Go.
-/
import Derived.Test.YtlbgilbigcnleaaNdR
import Derived.Test.YtlbgilbigcnleaaNdC
namespace Go.Proofs.Ytlbgilbigcnleaa
open Go.RowKit
set_option linter.unusedVariables false
set_option linter.unusedSimpArgs false

/-- Does F stand ahead of G? -/
def lessC (F G : FC) : Bool := lexB (rankC F) (rankC G)
/-- The place of the first of the least ones among the first k. -/
def leastTo (Fs : List FC) : Nat → Nat
  | 0 => 0
  | k + 1 => if lessC (Fs.getD k zeroF) (Fs.getD (leastTo Fs k) zeroF) then k else leastTo Fs k
theorem leastTo_le (Fs : List FC) : ∀ k, leastTo Fs (k + 1) ≤ k
  | 0 => by simp [leastTo]
  | k + 1 => by
    rw [leastTo]
    split
    · exact Nat.le_refl _
    · exact Nat.le_succ_of_le (leastTo_le Fs k)
theorem leastTo_lt {Fs : List FC} {k : Nat} (h : 0 < k) : leastTo Fs k < k := by
  obtain ⟨j, rfl⟩ : ∃ j, k = j + 1 := ⟨k - 1, by omega⟩
  exact Nat.lt_succ_of_le (leastTo_le Fs j)
theorem leastTo_first (Fs : List FC) : leastTo Fs 1 = 0 := by simp [leastTo]
theorem lessC_irr (F : FC) : lessC F F = false := lexB_irr _
theorem lessC_trans {F G H : FC} (h : lessC F G = true) (h' : lessC G H = true) : lessC F H = true := lexB_trans _ _ _ h h'
theorem lessC_not {F G H : FC} (h : lessC F G = false) (h' : lessC G H = false) : lessC F H = false := by
  cases e : lessC F H
  · rfl
  · rcases lexB_tri (rankC F) (rankC G) with e1 | e1 | e1
    · unfold lessC at e h'
      rw [e1, h'] at e
      cases e
    · unfold lessC at h; rw [h] at e1; cases e1
    · have := lessC_trans (F := G) (G := F) (H := H) e1 e
      rw [this] at h'; cases h'
/-- Nothing stands ahead of the least one; those in front of it stand behind it. -/
theorem leastTo_min (Fs : List FC) : ∀ k j, j < k → lessC (Fs.getD j zeroF) (Fs.getD (leastTo Fs k) zeroF) = false
  | 0, j, h => absurd h (by omega)
  | k + 1, j, h => by
    rw [leastTo]
    by_cases hjk : j < k
    · have h1 := leastTo_min Fs k j hjk
      split
      · rename_i h2
        cases e : lessC (Fs.getD j zeroF) (Fs.getD k zeroF)
        · rfl
        · rw [lessC_trans e h2] at h1; cases h1
      · exact h1
    · obtain rfl : j = k := by omega
      split
      · exact lessC_irr _
      · rename_i h2
        simpa using h2
theorem leastTo_front (Fs : List FC) : ∀ k j, j < leastTo Fs k → lessC (Fs.getD (leastTo Fs k) zeroF) (Fs.getD j zeroF) = true
  | 0, j, h => absurd h (by simp [leastTo])
  | k + 1, j, h => by
    rw [leastTo] at h ⊢
    split at h
    · rename_i h2
      rw [if_pos h2]
      by_cases hj : j < leastTo Fs k
      · exact lessC_trans h2 (leastTo_front Fs k j hj)
      · cases e : lessC (Fs.getD k zeroF) (Fs.getD j zeroF)
        · have h3 := leastTo_min Fs k j h
          rw [lessC_not e h3] at h2; cases h2
        · rfl
    · rename_i h2
      rw [if_neg h2]
      exact leastTo_front Fs k j h

def hasN (N : NC) : Bool := decide (N.k.s ≠ 3) && decide (N.q ≠ [])
def atN (N : NC) : Nat := leastTo N.q N.q.length
def nextF (N : NC) : FC := if hasN N then N.q.getD (atN N) zeroF else zeroF
def sendE (N : NC) (F : FC) : Int := if rightC F then if N.k.s = 3 then 3 else if 16 ≤ N.q.length then 2 else 0 else 90
def sendN (N : NC) (F : FC) : NC := if sendE N F = 0 then { N with q := N.q ++ [F] } else N
def sentN (N : NC) (ok : Bool) : NC := if hasN N then (if ok then { N with q := N.q.eraseIdx (atN N), k := stepV N.k 1 } else { N with k := stepV N.k 3 }) else N
def gotN (N : NC) (F : FC) : List FC := if decide (N.g.length < 64) && anyV N.l F.x F.i then N.g ++ [F] else N.g
def heardN (N : NC) (F : FC) (ok long : Bool) : NC :=
  if N.k.s = 3 then N else if ok then { N with g := gotN N F, k := stepV N.k 2 } else { N with k := stepV N.k (if long then 5 else 4) }
def quietN (N : NC) : NC := { N with k := stepV N.k 6 }
def takeB (N : NC) : Bool := decide (N.g ≠ [])
def takeF (N : NC) : FC := N.g.getD 0 zeroF
def takeN (N : NC) : NC := { N with g := N.g.eraseIdx 0 }
def rightLk (l : List FL) : Bool := rightLs 8 l
def newE (l : List FL) : Int := if rightLk l then 0 else 1
def newN (l : List FL) : NC := if rightLk l then ⟨[], l, newV, []⟩ else zeroN
def rightN (N : NC) : Bool := rightFs 16 N.q && rightFs 64 N.g && rightLs 8 N.l && rightV_NCn N.k
def sameN (a b : NC) : Bool := decide (a = b)

structure OkN (N : NC) : Prop where
  q : ∀ F ∈ N.q, rightC F = true
  qm : N.q.length ≤ 16
  g : ∀ F ∈ N.g, rightC F = true
  gm : N.g.length ≤ 64
  l : ∀ f ∈ N.l, refRightP f = true
  lm : N.l.length ≤ 8
  k : OkC N.k
theorem rightFs_iff {m : Nat} {Fs : List FC} : rightFs m Fs = true ↔ Fs.length ≤ m ∧ ∀ F ∈ Fs, rightC F = true := by
  unfold rightFs; rw [Bool.and_eq_true, decide_eq_true_eq, List.all_eq_true]
theorem rightLs_iff {m : Nat} {ls : List FL} : rightLs m ls = true ↔ ls.length ≤ m ∧ ∀ f ∈ ls, refRightP f = true := by
  unfold rightLs; rw [Bool.and_eq_true, decide_eq_true_eq, List.all_eq_true]
theorem rightN_iff {N : NC} : rightN N = true ↔ OkN N := by
  unfold rightN rightV_NCn
  rw [Bool.and_eq_true, Bool.and_eq_true, Bool.and_eq_true, rightFs_iff, rightFs_iff, rightLs_iff, decide_eq_true_eq]
  exact ⟨fun ⟨⟨⟨⟨h1, h2⟩, h3, h4⟩, h5, h6⟩, h7⟩ => ⟨h2, h1, h4, h3, h6, h5, h7⟩, fun h => ⟨⟨⟨⟨h.qm, h.q⟩, h.gm, h.g⟩, h.lm, h.l⟩, h.k⟩⟩
theorem OkN.okq {N : NC} (h : OkN N) : ∀ F ∈ N.q, okC F := fun F hF => okC_of (h.q F hF)

theorem ok_send {N : NC} (h : OkN N) (F : FC) : OkN (sendN N F) := by
  unfold sendN
  split
  · rename_i h0
    unfold sendE at h0
    split at h0
    · rename_i hr
      split at h0
      · omega
      · split at h0
        · omega
        · rename_i h16
          refine ⟨fun G hG => ?_, by simp; omega, h.g, h.gm, h.l, h.lm, h.k⟩
          rcases List.mem_append.1 hG with h' | h'
          · exact h.q G h'
          · simp at h'; subst h'; exact hr
    · omega
  · exact h
theorem ok_sent {N : NC} (h : OkN N) (ok : Bool) : OkN (sentN N ok) := by
  unfold sentN
  split
  · split
    · exact ⟨fun F hF => h.q F (List.mem_of_mem_eraseIdx hF), by have := List.length_eraseIdx_le N.q (atN N); have := h.qm; dsimp only; omega, h.g, h.gm, h.l, h.lm, ok_step _ _ h.k⟩
    · exact ⟨h.q, h.qm, h.g, h.gm, h.l, h.lm, ok_step _ _ h.k⟩
  · exact h
theorem ok_quiet {N : NC} (h : OkN N) : OkN (quietN N) := ⟨h.q, h.qm, h.g, h.gm, h.l, h.lm, ok_step _ _ h.k⟩
theorem ok_heard {N : NC} (h : OkN N) {F : FC} (hF : rightC F = true) (ok long : Bool) : OkN (heardN N F ok long) := by
  unfold heardN
  split
  · exact h
  · split
    · refine ⟨h.q, h.qm, ?_, ?_, h.l, h.lm, ok_step _ _ h.k⟩
      · dsimp only; unfold gotN
        split
        · intro G hG
          rcases List.mem_append.1 hG with h' | h'
          · exact h.g G h'
          · simp at h'; subst h'; exact hF
        · exact h.g
      · dsimp only; unfold gotN
        split
        · rename_i h1
          simp only [Bool.and_eq_true, decide_eq_true_eq] at h1
          simp; omega
        · exact h.gm
    · exact ⟨h.q, h.qm, h.g, h.gm, h.l, h.lm, ok_step _ _ h.k⟩
theorem ok_take {N : NC} (h : OkN N) : OkN (takeN N) :=
  ⟨h.q, h.qm, fun F hF => h.g F (List.mem_of_mem_eraseIdx hF), by have := List.length_eraseIdx_le N.g 0; have := h.gm; dsimp only [takeN]; omega, h.l, h.lm, h.k⟩
theorem ok_new_n {l : List FL} (h : rightLk l = true) : OkN ⟨[], l, newV, []⟩ := by
  have := rightLs_iff.1 h
  exact ⟨by simp, by simp, by simp, by simp, this.2, this.1, ok_new⟩
theorem nextF_mem {N : NC} (h : hasN N = true) : atN N < N.q.length ∧ N.q[atN N]? = some (nextF N) := by
  unfold hasN at h
  simp only [Bool.and_eq_true, decide_eq_true_eq] at h
  have h1 : 0 < N.q.length := List.length_pos_iff.2 h.2
  have h2 := leastTo_lt (Fs := N.q) h1
  refine ⟨h2, ?_⟩
  unfold nextF
  rw [if_pos (by unfold hasN; simp [h])]
  have h3 : atN N < N.q.length := h2
  rw [List.getElem?_eq_getElem h3]
  simp [List.getD, List.getElem?_eq_getElem h3]

end Go.Proofs.Ytlbgilbigcnleaa
