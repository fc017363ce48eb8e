/-
  What the small functions on frames answer, told by what frames hold.
-/
import Derived.Test.YtlbgilbigcnleaaNdB
namespace Go.Proofs.Ytlbgilbigcnleaa
open Go.RowKit
set_option linter.unusedVariables false
set_option linter.unusedSimpArgs false

/-- Is it a right frame? Its identifier is one of its kind; its arbitration field. -/
def rightC (F : FC) : Bool := rightV F.x F.i F.r F.n F.d.length
def okC (F : FC) : Prop := ∃ ID : Nat, F.i = ID ∧ idOk F.x ID
def rankC (F : FC) : List Int := rankV F.x F.i.toNat F.r
def sameF (F G : FC) : Bool := decide (F = G)
def sameFs (a b : List FC) : Bool := decide (a = b)
theorem okC_of {F : FC} (h : rightC F = true) : okC F := by
  obtain ⟨ID, L, h1, _, h3, _⟩ := right_ok h
  exact ⟨ID, h1, h3⟩
theorem right_len {F : FC} (h : rightC F = true) : F.d.length ≤ 8 := by
  obtain ⟨ID, L, _, _, _, h4, h5⟩ := right_ok h
  rw [h5]; split <;> omega
theorem rankC_len (F : FC) : (rankC F).length = rn F.x := rankV_len _ _ _
theorem rankC_le (F : FC) : (rankC F).length ≤ 32 := by rw [rankC_len]; cases F.x <;> decide

section
variable {w : World} {P P' : Nat → Prop} {f g : FV} {F G : FC}
theorem frRight_c (h : FIs w P f F) (q : Bool) (hq : rightC F = q) : Calls Try.prog 43 #[f.v] w fun e w' => e = .returned (.bool q) ∧ Below w.heap.size w w' :=
  frRight_q f.x f.i f.r f.n f.a f.m f.c w q (by rw [h.x, h.i, h.r, h.n, ← h.len]; exact hq)
theorem refFrRight_c (h : FIs w P f F) (q : Bool) (hq : rightC F = q) : Calls Try.prog 29 #[f.v] w fun e w' => e = .returned (.bool q) ∧ Below w.heap.size w w' :=
  refFrRight_q f.x f.i f.r f.n f.a f.m f.c w q (by rw [h.x, h.i, h.r, h.n, ← h.len]; exact hq)
theorem great_c (h : FIs w P f F) (q : Bool) (hq : decide (100 < F.d.length) = q) : Calls Try.prog 12 #[f.v] w fun e w' => e = .returned (.bool q) ∧ Below w.heap.size w w' :=
  great_q f.x f.i f.r f.n f.a f.m f.c w q (by rw [← h.len]; exact hq)
theorem fc_ext : F = G ↔ F.x = G.x ∧ F.i = G.i ∧ F.r = G.r ∧ F.n = G.n ∧ F.d = G.d := by cases F; cases G; simp
theorem refFrSame_c (h : FIs w P f F) (h' : FIs w P' g G) (q : Bool) (hq : sameF F G = q) : Calls Try.prog 24 #[f.v, g.v] w fun e w' => e = .returned (.bool q) ∧ Below w.heap.size w w' :=
  refFrSame_at f.x f.i f.r f.n F.d f.m h.len f.a f.c g.x g.i g.r g.n G.d g.m h'.len g.a g.c w h.row h'.row h.byte h'.byte q (by
    rw [← hq, h.x, h.i, h.r, h.n, h'.x, h'.i, h'.r, h'.n]
    unfold sameV sameF
    exact decide_eq_decide.2 fc_ext.symm)
theorem fok_of (h : FIs w P f F) (hok : okC F) : FOk f := by
  obtain ⟨ID, h1, h2⟩ := hok
  exact ⟨ID, h.i.trans h1, by rw [h.x]; exact h2⟩
theorem rankF_eq (h : FIs w P f F) : rankF f = rankC F := by unfold rankF rankC; rw [h.x, h.i, h.r]
theorem rank_c (h : FIs w P f F) (hok : okC F) (n : Nat) (hn : (rankC F).length = n) : Calls Try.prog 70 #[f.v] w fun e w' => ∃ A c', e = .returned (.slice A n c') ∧ Row .i64 w' w'.heap.size A (rankC F) ∧ n ≤ c' ∧ Below w.heap.size w w' :=
  (rankF_at f (fok_of h hok) n (by rw [rankF_eq h]; exact hn) w).mono (by
    rintro e w' ⟨ad, c', h1, h2, h3, h4, _⟩
    exact ⟨some ad, c', h1, by rw [← rankF_eq h]; exact h2, h3, h4⟩)
theorem refRank_c (h : FIs w P f F) (hok : okC F) (n : Nat) (hn : (rankC F).length = n) : Calls Try.prog 33 #[f.v] w fun e w' => ∃ A c', e = .returned (.slice A n c') ∧ Row .i64 w' w'.heap.size A (rankC F) ∧ n ≤ c' ∧ Below w.heap.size w w' :=
  (refRankF_at f (fok_of h hok) n (by rw [rankF_eq h]; exact hn) w).mono (by
    rintro e w' ⟨A, c', h1, h2, h3, h4⟩
    exact ⟨A, c', h1, by rw [← rankF_eq h]; exact h2, h3, h4⟩)
end

end Go.Proofs.Ytlbgilbigcnleaa
