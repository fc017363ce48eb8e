/-
  RankN: what this seat needs of them.
-/
import Derived.Test.YtlbgilbigcnleaaNBi
import Derived.Test.YtlbgilbigcnleaaNFr
namespace Go.Proofs.Ytlbgilbigcnleaa
open Go.RowKit
set_option linter.unusedVariables false
set_option linter.unusedSimpArgs false

/-- What lies there was made behind block B. -/
def fresh (B : Nat) (A : Option Addr) : Prop := ∀ ad, A = some ad → B ≤ ad.block

theorem fresh.mono {B B' : Nat} {A : Option Addr} (h : fresh B A) (hB : B' ≤ B) : fresh B' A := fun ad e => Nat.le_trans hB (h ad e)

theorem fresh_own {w : World} {base : Nat} {e : TypeId} {size : Nat} {A : Option Addr} {m c n : Nat} {xs : List Value} (h : w.ownsRow base e size (.slice A m c) n xs) : fresh base A := by
  intro ad hA
  rcases h.2 with ⟨e1, _⟩ | ⟨g, cap, cur, e1, hb, _⟩
  · injection e1 with e1; rw [e1] at hA; cases hA
  · injection e1 with e1; rw [e1] at hA; obtain rfl := Option.some.inj hA; exact hb

theorem concat4_new (A1 A2 A3 A4 : Option Addr) (n1 n2 n3 n4 c1 c2 c3 c4 : Nat) (l1 l2 l3 l4 : List Int) (e1 : l1.length = n1) (e2 : l2.length = n2) (e3 : l3.length = n3) (e4 : l4.length = n4) (W : World) (t : TypeId)
    (h1 : Row .i64 W W.heap.size A1 l1) (h2 : Row .i64 W W.heap.size A2 l2) (h3 : Row .i64 W W.heap.size A3 l3) (h4 : Row .i64 W W.heap.size A4 l4) (N : Nat) (hN : n1 + (n2 + (n3 + n4)) = N) (hN2 : N ≤ 100000) {S : Nat} (hS : S = W.heap.size) :
    Calls Try.prog 82 #[.slice (some ⟨S, 0, none⟩) 4 4] (W.alloc (.cells #[.slice A1 n1 c1, .slice A2 n2 c2, .slice A3 n3 c3, .slice A4 n4 c4] t)) fun e w' =>
      ∃ A c, e = .returned (.slice A N c) ∧ Row .i64 w' w'.heap.size A (l1 ++ (l2 ++ (l3 ++ l4))) ∧ N ≤ c ∧ Below W.heap.size W w' ∧ fresh W.heap.size A := by
  subst e1 e2 e3 e4 hN hS
  refine (concat_at [(.slice A1 l1.length c1, l1), (.slice A2 l2.length c2, l2), (.slice A3 l3.length c3, l3), (.slice A4 l4.length c4, l4)] 4 rfl _ 4 _ (Parts.lit W _ t rfl ?_) (by omega) _ (by simp [cat]) hN2 (by omega)).mono ?_
  · intro p hp
    simp only [List.mem_cons, List.not_mem_nil, or_false] at hp
    rcases hp with rfl | rfl | rfl | rfl
    · exact ⟨_, _, rfl, h1⟩
    · exact ⟨_, _, rfl, h2⟩
    · exact ⟨_, _, rfl, h3⟩
    · exact ⟨_, _, rfl, h4⟩
  · rintro e w' ⟨A, c, rfl, hown, hB⟩
    have hr := Row.own hown
    simp only [cat, List.flatMap_cons, List.flatMap_nil, List.append_nil] at hr
    exact ⟨A, c, rfl, hr, own_cap hown, below_lit hB, (fresh_own hown).mono (by simp)⟩

set_option maxRecDepth 100000 in
set_option maxHeartbeats 2000000 in
theorem rankS_new (ID : Nat) (r : Bool) (n : Int) (A : Option Addr) (m c : Nat) (hID : ID < 2048) (w : World) :
    Calls Try.prog 70 #[.agg #[.bool false, .int .i64 ID, .bool r, .int .i64 n, .slice A m c]] w fun e w' => ∃ A' c', e = .returned (.slice A' 13 c') ∧ Row .i64 w' w'.heap.size A' (rankS ID r) ∧ 13 ≤ c' ∧ Below w.heap.size w w' ∧ fresh w.heap.size A' := by
  obtain ⟨i0, hi, hz0, hz1, hz2⟩ := info_parts Try.infoInt
  obtain ⟨w0, hw0⟩ : ∃ w0, w.alloc (.cells #[.bool false, .int .i64 ID, .bool r, .int .i64 n, .slice A m c] 30) = w0 := ⟨_, rfl⟩
  have hB0 := below_lits hw0
  have hF0 : w0.heap[w.heap.size]? = some (.cells #[.bool false, .int .i64 ID, .bool r, .int .i64 n, .slice A m c] 30) := by rw [← hw0]; exact World.alloc_heap_new _ _
  have hlt0 : w.heap.size < w0.heap.size := (Array.getElem?_eq_some_iff.1 hF0).1
  have HW := Lib.hid hw0
  clear hw0
  go_enter Try.func70, Try.ntmps70
  go_wp2_with fail
  rw [HW.out]
  go_region_held3 (fun W => W.cell? ⟨w.heap.size, 0, none⟩ = some (.bool false) ∧ W.cell? ⟨w.heap.size, 1, none⟩ = some (.int .i64 ID) ∧ W.cell? ⟨w.heap.size, 2, none⟩ = some (.bool r) ∧ W.cell? ⟨w.heap.size, 3, none⟩ = some (.int .i64 n) ∧ W.cell? ⟨w.heap.size, 4, none⟩ = some (.slice A m c))
    (exact cells5' (by repeat (first | assumption | exact Below.refl _ _ | ((with_reducible refine lit2 _ _ _ _ _ ?_); (first | (with_reducible rfl) | (simp; done))) | ((with_reducible refine lit1 _ _ _ _ ?_); (first | (with_reducible rfl) | (simp; done))) | refine row_step (by first | assumption | exact below_alloc1 _ _ | exact below_drew1 _ | exact below_drewN0 _ _) ?_ | refine block_below (by first | assumption | exact below_alloc1 _ _ | exact below_drew1 _ | exact below_drewN0 _ _) ?_ | refine below_then ?_ (by first | assumption | exact below_alloc1 _ _ | exact below_drew1 _ | exact below_drewN0 _ _))))
    (first
      | (go_at_call 80; refine (frPut_at _ ID 11 rfl (by omega) (by omega) _).mono ?_; rintro e w1 ⟨rfl, hown1, hB1⟩)
      | (go_at_call 81; refine (bitOf_at r _).mono ?_; rintro e w' ⟨rfl, rfl⟩; have l1 := Row.lit w1 .i64 [flag r, 0] 3 (cs := #[.int .i64 (flag r), .int .i64 0]) rfl; have own1 := own_to hown1 (below_alloc1 w1 (.cells #[.int .i64 (flag r), .int .i64 0] 3)); have hs1 : w0.heap.size ≤ w1.heap.size := hB1.size)
      | (refine step_append_row .i64 rfl _ _ 50 rfl w0.heap.size 3 i0 (.int .i64 0) 8 Try.underlying50 hi hz0 hz1 hz2 rfl _ 11 (bitRow ID 11 11) rfl own1 _ 2 2 _ [flag r, 0] rfl rfl l1 (by unfold maxLen; omega) (by omega) (by simp; omega) ?_; intro A3 c3 w3 hown3 hc3 hB3; have hF3 : w3.heap[w.heap.size]? = some (.cells #[.bool false, .int .i64 ID, .bool r, .int .i64 n, .slice A m c] 30) := (hB3.block w.heap.size hlt0).trans (by repeat (first | assumption | exact Below.refl _ _ | ((with_reducible refine lit2 _ _ _ _ _ ?_); (first | (with_reducible rfl) | (simp; done))) | ((with_reducible refine lit1 _ _ _ _ ?_); (first | (with_reducible rfl) | (simp; done))) | refine row_step (by first | assumption | exact below_alloc1 _ _ | exact below_drew1 _ | exact below_drewN0 _ _) ?_ | refine block_below (by first | assumption | exact below_alloc1 _ _ | exact below_drew1 _ | exact below_drewN0 _ _) ?_ | refine below_then ?_ (by first | assumption | exact below_alloc1 _ _ | exact below_drew1 _ | exact below_drewN0 _ _)))))
  go_wp2_with fail
  go_ret
  refine ⟨A3, c3, rfl, Row.own hown3, hc3, hB0.trans (Below.trans ?_ (hB3.mono (by omega))), (fresh_own hown3).mono (by omega)⟩
  exact ((below_drew1 w0).trans (hB1.trans ((below_alloc1 w1 _).mono hs1))).mono (by omega)

set_option maxRecDepth 100000 in
set_option maxHeartbeats 1000000 in
theorem rankX_new (ID : Nat) (r : Bool) (n : Int) (A : Option Addr) (m c : Nat) (hID : ID < 536870912) (w : World) :
    Calls Try.prog 70 #[.agg #[.bool true, .int .i64 ID, .bool r, .int .i64 n, .slice A m c]] w fun e w' => ∃ A' c', e = .returned (.slice A' 32 c') ∧ Row .i64 w' w'.heap.size A' (rankX ID r) ∧ 32 ≤ c' ∧ Below w.heap.size w w' ∧ fresh w.heap.size A' := by
  obtain ⟨w0, hw0⟩ : ∃ w0, w.alloc (.cells #[.bool true, .int .i64 ID, .bool r, .int .i64 n, .slice A m c] 30) = w0 := ⟨_, rfl⟩
  have hB0 := below_lits hw0
  have hF0 : w0.heap[w.heap.size]? = some (.cells #[.bool true, .int .i64 ID, .bool r, .int .i64 n, .slice A m c] 30) := by rw [← hw0]; exact World.alloc_heap_new _ _
  have hlt0 : w.heap.size < w0.heap.size := (Array.getElem?_eq_some_iff.1 hF0).1
  have HW := Lib.hid hw0
  have HF0 := Lib.hid hF0
  have hand := and_low ID (by omega)
  obtain ⟨V, hV⟩ : ∃ V, ID % 262144 = V := ⟨_, rfl⟩
  obtain ⟨U, hU⟩ : ∃ U, ID / 262144 = U := ⟨_, rfl⟩
  rw [hV] at hand
  have hsh : (ID : Int) / 262144 = (U : Int) := by omega
  have hsh2 : (ID : Int) / 2 ^ 18 = (U : Int) := hsh
  clear hw0 hF0
  go_enter Try.func70, Try.ntmps70
  go_wp2_with fail
  rw [HW.out]
  obtain ⟨c0, c1, c2, c3, c4⟩ := cells5' HF0.out
  go_quiet (fail)
  have hF1 : (w0.drewN nq).heap[w.heap.size]? = some (.cells #[.bool true, .int .i64 ID, .bool r, .int .i64 n, .slice A m c] 30) := HF0.out
  have hB1 : Below w.heap.size w (w0.drewN nq) := below_drewN' hB0 nq
  generalize w0.drewN nq = w1 at hF1 hB1 ⊢
  have hUb : U < 2 ^ 11 := by omega
  have hVb : V < 2 ^ 18 := by omega
  have HV := Lib.hid hV
  have HU := Lib.hid hU
  clear c0 c1 c2 c3 c4 hand hsh hsh2 HF0 HW hV hU hB0 hlt0
  go_wp2_with fail
  go_region_held3 (fun W => W.cell? ⟨w.heap.size, 0, none⟩ = some (.bool true) ∧ W.cell? ⟨w.heap.size, 1, none⟩ = some (.int .i64 ID) ∧ W.cell? ⟨w.heap.size, 2, none⟩ = some (.bool r) ∧ W.cell? ⟨w.heap.size, 3, none⟩ = some (.int .i64 n) ∧ W.cell? ⟨w.heap.size, 4, none⟩ = some (.slice A m c))
    (exact cells5' (by repeat (first | assumption | exact Below.refl _ _ | ((with_reducible refine lit2 _ _ _ _ _ ?_); (first | (with_reducible rfl) | (simp; done))) | ((with_reducible refine lit1 _ _ _ _ ?_); (first | (with_reducible rfl) | (simp; done))) | refine row_step (by first | assumption | exact below_alloc1 _ _ | exact below_drew1 _ | exact below_drewN0 _ _) ?_ | refine block_below (by first | assumption | exact below_alloc1 _ _ | exact below_drew1 _ | exact below_drewN0 _ _) ?_ | refine below_then ?_ (by first | assumption | exact below_alloc1 _ _ | exact below_drew1 _ | exact below_drewN0 _ _))))
    (first
      | (go_at_call_of 80 (Value.int IntKind.i64 ↑U); refine (frPut_ex _ U 11 rfl (by omega) hUb _).mono ?_; rintro e w2 ⟨A2, rfl, hr2, hB2⟩)
      | (go_at_call_of 80 (Value.int IntKind.i64 ↑V); refine (frPut_ex _ V 18 rfl (by omega) hVb _).mono ?_; rintro e w3 ⟨A3, rfl, hr3, hB3⟩)
      | (go_at_call 81; refine (bitOf_at r _).mono ?_; rintro e w' ⟨rfl, rfl⟩)
      | (go_at_call 82; refine (concat4_new A2 _ A3 _ 11 2 18 1 _ _ _ _ (bitRow U 11 11) [1, 1] (bitRow V 18 18) [flag r] (bitRow_len _ _ _) rfl (bitRow_len _ _ _) rfl _ _ (by repeat (first | assumption | exact Below.refl _ _ | ((with_reducible refine lit2 _ _ _ _ _ ?_); (first | (with_reducible rfl) | (simp; done))) | ((with_reducible refine lit1 _ _ _ _ ?_); (first | (with_reducible rfl) | (simp; done))) | refine row_step (by first | assumption | exact below_alloc1 _ _ | exact below_drew1 _ | exact below_drewN0 _ _) ?_ | refine block_below (by first | assumption | exact below_alloc1 _ _ | exact below_drew1 _ | exact below_drewN0 _ _) ?_ | refine below_then ?_ (by first | assumption | exact below_alloc1 _ _ | exact below_drew1 _ | exact below_drewN0 _ _))) (by repeat (first | assumption | exact Below.refl _ _ | ((with_reducible refine lit2 _ _ _ _ _ ?_); (first | (with_reducible rfl) | (simp; done))) | ((with_reducible refine lit1 _ _ _ _ ?_); (first | (with_reducible rfl) | (simp; done))) | refine row_step (by first | assumption | exact below_alloc1 _ _ | exact below_drew1 _ | exact below_drewN0 _ _) ?_ | refine block_below (by first | assumption | exact below_alloc1 _ _ | exact below_drew1 _ | exact below_drewN0 _ _) ?_ | refine below_then ?_ (by first | assumption | exact below_alloc1 _ _ | exact below_drew1 _ | exact below_drewN0 _ _))) (by repeat (first | assumption | exact Below.refl _ _ | ((with_reducible refine lit2 _ _ _ _ _ ?_); (first | (with_reducible rfl) | (simp; done))) | ((with_reducible refine lit1 _ _ _ _ ?_); (first | (with_reducible rfl) | (simp; done))) | refine row_step (by first | assumption | exact below_alloc1 _ _ | exact below_drew1 _ | exact below_drewN0 _ _) ?_ | refine block_below (by first | assumption | exact below_alloc1 _ _ | exact below_drew1 _ | exact below_drewN0 _ _) ?_ | refine below_then ?_ (by first | assumption | exact below_alloc1 _ _ | exact below_drew1 _ | exact below_drewN0 _ _))) (by repeat (first | assumption | exact Below.refl _ _ | ((with_reducible refine lit2 _ _ _ _ _ ?_); (first | (with_reducible rfl) | (simp; done))) | ((with_reducible refine lit1 _ _ _ _ ?_); (first | (with_reducible rfl) | (simp; done))) | refine row_step (by first | assumption | exact below_alloc1 _ _ | exact below_drew1 _ | exact below_drewN0 _ _) ?_ | refine block_below (by first | assumption | exact below_alloc1 _ _ | exact below_drew1 _ | exact below_drewN0 _ _) ?_ | refine below_then ?_ (by first | assumption | exact below_alloc1 _ _ | exact below_drew1 _ | exact below_drewN0 _ _))) 32 rfl (by omega) (by simp)).mono ?_; rintro e w5 ⟨A5, c5, rfl, hr5, hc5, hB5, hf5⟩))
  all_goals
    go_wp2_with fail
    go_ret
    refine ⟨A5, c5, rfl, ?_, hc5, hB1.trans (Below.mono (B := w1.heap.size) (by repeat (first | assumption | exact Below.refl _ _ | ((with_reducible refine lit2 _ _ _ _ _ ?_); (first | (with_reducible rfl) | (simp; done))) | ((with_reducible refine lit1 _ _ _ _ ?_); (first | (with_reducible rfl) | (simp; done))) | refine row_step (by first | assumption | exact below_alloc1 _ _ | exact below_drew1 _ | exact below_drewN0 _ _) ?_ | refine block_below (by first | assumption | exact below_alloc1 _ _ | exact below_drew1 _ | exact below_drewN0 _ _) ?_ | refine below_then ?_ (by first | assumption | exact below_alloc1 _ _ | exact below_drew1 _ | exact below_drewN0 _ _))) hB1.size), hf5.mono (Nat.le_trans hB1.size (Below.size (B := w1.heap.size) (by clear hB5; repeat (first | assumption | exact Below.refl _ _ | ((with_reducible refine lit2 _ _ _ _ _ ?_); (first | (with_reducible rfl) | (simp; done))) | ((with_reducible refine lit1 _ _ _ _ ?_); (first | (with_reducible rfl) | (simp; done))) | refine row_step (by first | assumption | exact below_alloc1 _ _ | exact below_drew1 _ | exact below_drewN0 _ _) ?_ | refine block_below (by first | assumption | exact below_alloc1 _ _ | exact below_drew1 _ | exact below_drewN0 _ _) ?_ | refine below_then ?_ (by first | assumption | exact below_alloc1 _ _ | exact below_drew1 _ | exact below_drewN0 _ _)))))⟩
    unfold rankX
    rw [HU.out, HV.out]
    exact hr5

theorem rank_new (x : Bool) (ID : Nat) (r : Bool) (n : Int) (A : Option Addr) (m c : Nat) (hID : idOk x ID) (k : Nat) (hk : rn x = k) (w : World) :
    Calls Try.prog 70 #[.agg #[.bool x, .int .i64 ID, .bool r, .int .i64 n, .slice A m c]] w fun e w' => ∃ A' c', e = .returned (.slice A' k c') ∧ Row .i64 w' w'.heap.size A' (rankV x ID r) ∧ k ≤ c' ∧ Below w.heap.size w w' ∧ fresh w.heap.size A' := by
  subst hk
  cases x
  · exact rankS_new ID r n A m c hID w
  · exact rankX_new ID r n A m c hID w

end Go.Proofs.Ytlbgilbigcnleaa
