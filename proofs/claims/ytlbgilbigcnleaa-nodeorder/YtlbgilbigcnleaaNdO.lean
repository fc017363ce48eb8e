/-
  Boxes that are stored to; frames and filters that are written out in the text: no function of the program's.
-/
import Derived.Test.YtlbgilbigcnleaaNdH
import Derived.Test.YtlbgilbigcnleaaNdJ
namespace Go.Proofs.Ytlbgilbigcnleaa
open Go.RowKit
set_option linter.unusedVariables false
set_option linter.unusedSimpArgs false

/-- Not one of these blocks. -/
def Out (L : List Nat) : Nat → Prop := fun b => ∀ X ∈ L, b ≠ X
theorem out_cons {L : List Nat} {X s : Nat} (h : s ≤ X) : ∀ b, b < s → Out L b → Out (X :: L) b := fun b hb h1 Y hY => by
  rcases List.mem_cons.1 hY with rfl | h2
  · omega
  · exact h1 Y h2
theorem out_up {L : List Nat} {s : Nat} (h : ∀ X ∈ L, X < s) : ∀ b, s ≤ b → Out L b := fun b hb X hX => by have := h X hX; omega
theorem out_not {L : List Nat} {X : Nat} (h : X ∈ L) : ¬ Out L X := fun h1 => h1 X h rfl
theorem out_le {L : List Nat} {s t : Nat} (h : ∀ X ∈ L, X < s) (hst : s ≤ t) : ∀ X ∈ L, X < t := fun X hX => by have := h X hX; omega
theorem lt_cons {L : List Nat} {X s : Nat} (hX : X < s) (h : ∀ Y ∈ L, Y < s) : ∀ Y ∈ X :: L, Y < s := fun Y hY => by
  rcases List.mem_cons.1 hY with rfl | h2
  · exact hX
  · exact h Y h2
theorem fis_lit {w : World} {P : Nat → Prop} (x : Bool) (i : Int) (r : Bool) (n : Int) : FIs w P ⟨x, i, r, n, none, 0, 0⟩ ⟨x, i, r, n, []⟩ :=
  ⟨rfl, rfl, rfl, rfl, rfl, Nat.le_refl _, Nat.zero_le _, (fun _ h => by cases h), .inl rfl, fun h => absurd h (Nat.lt_irrefl 0)⟩
theorem lsl_lit1 {w : World} {P : Nat → Prop} (f : FL) (hf : -9223372036854775808 ≤ f.m ∧ f.m < 9223372036854775808) (hP : P w.heap.size) {k : Nat} (hk : k = w.heap.size) :
    LSl (w.alloc (.cells #[.bool f.x, .int .i64 f.k, .int .i64 f.m] 61)) P (some ⟨k, 0, none⟩) 1 1 [f] := by
  subst hk
  exact ⟨rfl, Nat.le_refl _, by decide, by simpa using hf, LRow.lit1 w f rfl, fun _ ad e => by obtain rfl := Option.some.inj e; exact hP⟩
theorem okN_of {N : NC} (h : rightN N = true) : OkN N := rightN_iff.1 h

end Go.Proofs.Ytlbgilbigcnleaa
