/-
  Whether a frame is right, whether two are alike, whether one is too long: the program's and the document's; a flag's bit.
-/
import Derived.Test.YtmapkjjglhpamaaNamed
namespace Go.Proofs.Ytmapkjjglhpamaa
open Go.RowKit

theorem dec (p : Prop) [Decidable p] : (decide p = true ∧ p) ∨ (decide p = false ∧ ¬ p) := by
  by_cases h : p <;> simp [h]

/-- A right frame? -/
def rightV (x : Bool) (i : Int) (r : Bool) (n : Int) (m : Nat) : Bool := decide (0 ≤ i ∧ i < (if x then 536870912 else 2048) ∧ 0 ≤ n ∧ n ≤ 8 ∧ (m : Int) = if r then 0 else n)
/-- Alike frames? -/
def sameV (x : Bool) (i : Int) (r : Bool) (n : Int) (a : List Int) (x' : Bool) (i' : Int) (r' : Bool) (n' : Int) (b : List Int) : Bool := decide (x = x' ∧ i = i' ∧ r = r' ∧ n = n' ∧ a = b)

abbrev frV (x : Bool) (i : Int) (r : Bool) (n : Int) (A : Option Addr) (m c : Nat) : Value := .agg #[.bool x, .int .i64 i, .bool r, .int .i64 n, .slice A m c]

theorem below_alloc_drewN {w : World} (o : Obj) (k : Nat) : Below w.heap.size w ((w.alloc o).drewN k) := below_drewN' ((Below.refl _ w).alloc (Nat.le_refl _) o) k

set_option maxRecDepth 100000 in
set_option maxHeartbeats 2000000 in
theorem frRight_at (x : Bool) (i : Int) (r : Bool) (n : Int) (A : Option Addr) (m c : Nat) (w : World) :
    Calls Try.prog 27 #[.agg #[.bool x, .int .i64 i, .bool r, .int .i64 n, .slice A m c]] w fun e w' => e = .returned (.bool (rightV x i r n m)) ∧ Below w.heap.size w w' := by
  have Hfin := Lib.hid (fun k => below_alloc_drewN (w := w) (.cells #[.bool x, .int .i64 i, .bool r, .int .i64 n, .slice A m c] 24) k)
  rcases dec (0 ≤ i) with ⟨d1, h1⟩ | ⟨d1, h1⟩
  · cases x
    · rcases dec (i < 2048) with ⟨d2, h2⟩ | ⟨d2, h2⟩
      · rcases dec (0 ≤ n) with ⟨d3, h3⟩ | ⟨d3, h3⟩
        · rcases dec (n ≤ 8) with ⟨d4, h4⟩ | ⟨d4, h4⟩
          all_goals
            cases r
            all_goals
              go_enter Try.func27, Try.ntmps27
              go_wp2_with fail
              go_quiet (fail)
              go_wp2_with fail
              go_ret
              exact ⟨ret_bool (by rw [Bool.eq_iff_iff]; simp [rightV]; omega), Hfin.out _⟩
        · cases r
          all_goals
            go_enter Try.func27, Try.ntmps27
            go_wp2_with fail
            go_quiet (fail)
            go_wp2_with fail
            go_ret
            exact ⟨ret_bool (by rw [Bool.eq_iff_iff]; simp [rightV]; omega), Hfin.out _⟩
      · cases r
        all_goals
          go_enter Try.func27, Try.ntmps27
          go_wp2_with fail
          go_quiet (fail)
          go_wp2_with fail
          go_ret
          exact ⟨ret_bool (by rw [Bool.eq_iff_iff]; simp [rightV]; omega), Hfin.out _⟩
    · rcases dec (i < 536870912) with ⟨d2, h2⟩ | ⟨d2, h2⟩
      · rcases dec (0 ≤ n) with ⟨d3, h3⟩ | ⟨d3, h3⟩
        · rcases dec (n ≤ 8) with ⟨d4, h4⟩ | ⟨d4, h4⟩
          all_goals
            cases r
            all_goals
              go_enter Try.func27, Try.ntmps27
              go_wp2_with fail
              go_quiet (fail)
              go_wp2_with fail
              go_ret
              exact ⟨ret_bool (by rw [Bool.eq_iff_iff]; simp [rightV]; omega), Hfin.out _⟩
        · cases r
          all_goals
            go_enter Try.func27, Try.ntmps27
            go_wp2_with fail
            go_quiet (fail)
            go_wp2_with fail
            go_ret
            exact ⟨ret_bool (by rw [Bool.eq_iff_iff]; simp [rightV]; omega), Hfin.out _⟩
      · cases r
        all_goals
          go_enter Try.func27, Try.ntmps27
          go_wp2_with fail
          go_quiet (fail)
          go_wp2_with fail
          go_ret
          exact ⟨ret_bool (by rw [Bool.eq_iff_iff]; simp [rightV]; omega), Hfin.out _⟩
  · cases x
    all_goals
      cases r
      all_goals
        go_enter Try.func27, Try.ntmps27
        go_wp2_with fail
        go_quiet (fail)
        go_wp2_with fail
        go_ret
        exact ⟨ret_bool (by rw [Bool.eq_iff_iff]; simp [rightV]; omega), Hfin.out _⟩

end Go.Proofs.Ytmapkjjglhpamaa
