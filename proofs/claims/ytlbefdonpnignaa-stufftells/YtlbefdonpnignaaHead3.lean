/-
  Contracts that hand what lies below on; and the live question 'head' of layer 3.
-/
import Derived.Test.YtlbefdonpnignaaRuns
import Derived.Test.YtlbefdonpnignaaRef3
namespace Go.Proofs.Ytlbefdonpnignaa
open Go.RowKit

theorem own_cap {w : World} {base : Nat} {e : TypeId} {A : Option Addr} {m c : Nat} {xs : List Value} (h : w.ownsRow base e 1 (.slice A m c) m xs) : m ≤ c := by
  rcases h.2 with ⟨e1, e2⟩ | ⟨g, cap, cur, e1, _, _, hc, _⟩
  · omega
  · cases e1; exact hc
theorem lit_named (w : World) (l : List Int) {cs : Array Value} (hcs : cs = (l.map (Value.int .i64)).toArray) : ∃ W, w.alloc (.cells cs 3) = W ∧ Row .i64 W W.heap.size (some ⟨w.heap.size, 0, none⟩) l ∧ Below w.heap.size w W := by
  refine ⟨_, rfl, ?_, (Below.refl _ w).alloc (Nat.le_refl _) _⟩
  rw [World.size_alloc]
  exact Row.lit w .i64 l 3 hcs
theorem same_yes (a : List Int) : sameB a a = true := by simp [sameB]

section
variable {w : World} {A : Option Addr} {l : List Int} {n : Nat} (c : Nat)
theorem bits_at (hn : l.length = n) (h : Row .i64 w w.heap.size A l) (hm : n ≤ maxLen) :
    Calls Try.prog 12 #[.slice A n c, .int .i64 300] w fun e w' => ∃ A' c' m, e = .returned (.slice A' m c') ∧ (lowL l).length = m ∧ m ≤ 300 ∧ m ≤ c' ∧ Row .i64 w' w'.heap.size A' (lowL l) ∧ Below w.heap.size w w' := by
  subst hn
  exact (refBits_any l A c w h hm).mono fun e w' ⟨A', c', m, h1, h2, h3, h4, h5⟩ => ⟨A', c', m, h1, h2, by rw [← h2]; exact lowL_len l, h3, Row.own h4, h5⟩
theorem stuff_at (hn : l.length = n) (h : Row .i64 w w.heap.size A l) (hr : rightB l = true) (hm : n ≤ 100000) {r : List Int} (hR : stuffL l = r) {m : Nat} (hl : r.length = m) :
    Calls Try.prog 16 #[.slice A n c] w fun e w' => ∃ A' c', e = .returned (.slice A' m c') ∧ m ≤ c' ∧ Row .i64 w' w'.heap.size A' r ∧ Below w.heap.size w w' := by
  subst hn hR hl
  exact (stuff_any l A c w h hr hm).mono fun e w' ⟨c', h1, h2, h3⟩ => ⟨_, c', h1, own_cap h2, Row.own h2, h3⟩
theorem strip_at (hn : l.length = n) (h : Row .i64 w w.heap.size A l) (hm : n ≤ 100000) {r : List Int} {p : Option Nat} (hR : stripL l = (r, p)) {m : Nat} (hl : r.length = m) {v : Int} (hv : placeI p = v) :
    Calls Try.prog 13 #[.slice A n c] w fun e w' => ∃ A' c', e = .returned (.tuple #[.slice A' m c', .int .i64 v]) ∧ m ≤ c' ∧ Row .i64 w' w'.heap.size A' r ∧ Below w.heap.size w w' := by
  subst hn hl hv
  have := strip_any l A c w h hm
  rw [hR] at this
  exact this.mono fun e w' ⟨c', h1, h2, h3⟩ => ⟨_, c', h1, own_cap h2, Row.own h2, h3⟩
theorem runs_at (hn : l.length = n) (h : Row .i64 w w.heap.size A l) (hm : n ≤ 100000) {v : Nat} (hv : runsL l = v) :
    Calls Try.prog 18 #[.slice A n c] w fun e w' => e = .returned (.int .i64 v) ∧ Below w.heap.size w w' := by
  subst hn hv
  exact runs_any l A c hm w h
theorem turned_at (hn : l.length = n) (h : Row .i64 w w.heap.size A l) (hr : rightB l = true) (hm : n ≤ 100000) :
    Calls Try.prog 20 #[.slice A n c] w fun e w' => ∃ A' c', e = .returned (.slice A' n c') ∧ n ≤ c' ∧ Row .i64 w' w'.heap.size A' (turned l) ∧ Below w.heap.size w w' := by
  subst hn
  exact (turned_any l A c w h hr hm).mono fun e w' ⟨A', c', h1, h2, h3, h4⟩ => ⟨A', c', h1, h2, Row.own h3, h4⟩
theorem ints_at {b : List Int} {A' : Option Addr} (c' : Nat) {n' : Nat} (hn : l.length = n) (hn' : b.length = n') (h : Row .i64 w w.heap.size A l) (h' : Row .i64 w w.heap.size A' b) (hm : n ≤ 1000000) (hm' : n' ≤ 1000000) {r : Bool} (hr : sameB l b = r) :
    Calls Try.prog 15 #[.slice A n c, .slice A' n' c'] w fun e w' => e = .returned (.bool r) ∧ Below w.heap.size w w' := by
  subst hn hn' hr
  refine (ints_any l b A A' c c' _ _ w h h' (by unfold maxLen; omega) (by unfold maxLen; omega)).mono ?_
  rintro e w' ⟨h1, k, rfl⟩
  exact ⟨h1, below_drewN0 w k⟩
end

set_option maxRecDepth 100000 in
set_option maxHeartbeats 2000000 in
theorem head_any (w : World) : Calls Try.prog 11 #[] w fun e w' => e = .returned (.bool true) ∧ Below w.heap.size w w' := by
  go_enter Try.func11, Try.ntmps11
  obtain ⟨w1, hw1, l1, b1⟩ := lit_named w [0, 0, 0, 0, 0] (cs := #[.int .i64 0, .int .i64 0, .int .i64 0, .int .i64 0, .int .i64 0]) rfl
  have t1 := b1
  go_wp2_with fail
  refine (stuff_at _ rfl l1 rfl (by decide) (r := [0, 0, 0, 0, 0, 1]) rfl (m := 6) rfl).mono ?_
  rintro e w2 ⟨A2, c2, rfl, -, ra, b2⟩
  have t2 := below_then t1 b2
  obtain ⟨w3, hw3, l3, b3⟩ := lit_named w2 [1, 1, 1, 1, 1, 0, 0, 0, 0, 1] (cs := #[.int .i64 1, .int .i64 1, .int .i64 1, .int .i64 1, .int .i64 1, .int .i64 0, .int .i64 0, .int .i64 0, .int .i64 0, .int .i64 1]) rfl
  replace ra := ra.to b3
  have t3 := below_then t2 b3
  go_wp2_with fail
  refine (stuff_at _ rfl l3 rfl (by decide) (r := [1, 1, 1, 1, 1, 0, 0, 0, 0, 0, 1, 1]) rfl (m := 12) rfl).mono ?_
  rintro e w4 ⟨A4, c4, rfl, -, rb, b4⟩
  replace ra := ra.to b4
  have t4 := below_then t3 b4
  obtain ⟨w5, hw5, l5, b5⟩ := lit_named w4 [0, 0, 0, 0, 0, 1, 1] (cs := #[.int .i64 0, .int .i64 0, .int .i64 0, .int .i64 0, .int .i64 0, .int .i64 1, .int .i64 1]) rfl
  replace ra := ra.to b5
  replace rb := rb.to b5
  have t5 := below_then t4 b5
  go_wp2_with fail
  refine (strip_at _ rfl l5 (by decide) (r := [0, 0, 0, 0, 0, 1]) (p := none) rfl (m := 6) rfl (v := -1) rfl).mono ?_
  rintro e w6 ⟨A6, c6, rfl, -, rc, b6⟩
  replace ra := ra.to b6
  replace rb := rb.to b6
  have t6 := below_then t5 b6
  obtain ⟨w7, hw7, l7, b7⟩ := lit_named w6 [1, 0, 0, 0, 0, 0, 0] (cs := #[.int .i64 1, .int .i64 0, .int .i64 0, .int .i64 0, .int .i64 0, .int .i64 0, .int .i64 0]) rfl
  replace ra := ra.to b7
  replace rb := rb.to b7
  replace rc := rc.to b7
  have t7 := below_then t6 b7
  go_wp2_with fail
  refine (strip_at _ rfl l7 (by decide) (r := [1, 0, 0, 0, 0, 0]) (p := some 6) rfl (m := 6) rfl (v := 6) rfl).mono ?_
  rintro e w8 ⟨A8, c8, rfl, -, re, b8⟩
  replace ra := ra.to b8
  replace rb := rb.to b8
  replace rc := rc.to b8
  have t8 := below_then t7 b8
  obtain ⟨w9, hw9, l9, b9⟩ := lit_named w8 [0, 0, 0, 0, 0] (cs := #[.int .i64 0, .int .i64 0, .int .i64 0, .int .i64 0, .int .i64 0]) rfl
  replace ra := ra.to b9
  replace rb := rb.to b9
  replace rc := rc.to b9
  replace re := re.to b9
  have t9 := below_then t8 b9
  go_wp2_with fail
  refine (strip_at _ rfl l9 (by decide) (r := [0, 0, 0, 0, 0]) (p := some 5) rfl (m := 5) rfl (v := 5) rfl).mono ?_
  rintro e w10 ⟨A10, c10, rfl, -, rg, b10⟩
  replace ra := ra.to b10
  replace rb := rb.to b10
  replace rc := rc.to b10
  replace re := re.to b10
  have t10 := below_then t9 b10
  go_wp2_with fail
  refine (strip_at (A := none) (l := []) _ rfl (.inl rfl) (by decide) (r := []) (p := none) rfl (m := 0) rfl (v := -1) rfl).mono ?_
  rintro e w11 ⟨A11, c11, rfl, -, -, b11⟩
  replace ra := ra.to b11
  replace rb := rb.to b11
  replace rc := rc.to b11
  replace re := re.to b11
  replace rg := rg.to b11
  have t11 := below_then t10 b11
  obtain ⟨w12, hw12, l12, b12⟩ := lit_named w11 [0, 0, 0, 0, 0, 1] (cs := #[.int .i64 0, .int .i64 0, .int .i64 0, .int .i64 0, .int .i64 0, .int .i64 1]) rfl
  replace ra := ra.to b12
  replace rb := rb.to b12
  replace rc := rc.to b12
  replace re := re.to b12
  replace rg := rg.to b12
  have t12 := below_then t11 b12
  go_wp2_with fail
  refine (ints_at _ _ rfl rfl ra l12 (by decide) (by decide) (r := true) rfl).mono ?_
  rintro e w13 ⟨rfl, b13⟩
  replace ra := ra.to b13
  replace rb := rb.to b13
  replace rc := rc.to b13
  replace re := re.to b13
  replace rg := rg.to b13
  have t13 := below_then t12 b13
  obtain ⟨w14, hw14, l14, b14⟩ := lit_named w13 [1, 1, 1, 1, 1, 0, 0, 0, 0, 0, 1, 1] (cs := #[.int .i64 1, .int .i64 1, .int .i64 1, .int .i64 1, .int .i64 1, .int .i64 0, .int .i64 0, .int .i64 0, .int .i64 0, .int .i64 0, .int .i64 1, .int .i64 1]) rfl
  replace rb := rb.to b14
  replace rc := rc.to b14
  replace re := re.to b14
  replace rg := rg.to b14
  have t14 := below_then t13 b14
  go_wp2_with fail
  refine (ints_at _ _ rfl rfl rb l14 (by decide) (by decide) (r := true) rfl).mono ?_
  rintro e w15 ⟨rfl, b15⟩
  replace rb := rb.to b15
  replace rc := rc.to b15
  replace re := re.to b15
  replace rg := rg.to b15
  have t15 := below_then t14 b15
  obtain ⟨w16, hw16, l16, b16⟩ := lit_named w15 [0, 0, 0, 0, 0, 1] (cs := #[.int .i64 0, .int .i64 0, .int .i64 0, .int .i64 0, .int .i64 0, .int .i64 1]) rfl
  replace rc := rc.to b16
  replace re := re.to b16
  replace rg := rg.to b16
  have t16 := below_then t15 b16
  go_wp2_with fail
  refine (ints_at _ _ rfl rfl rc l16 (by decide) (by decide) (r := true) rfl).mono ?_
  rintro e w17 ⟨rfl, b17⟩
  replace rc := rc.to b17
  replace re := re.to b17
  replace rg := rg.to b17
  have t17 := below_then t16 b17
  obtain ⟨w18, hw18, l18, b18⟩ := lit_named w17 [1, 0, 0, 0, 0, 0] (cs := #[.int .i64 1, .int .i64 0, .int .i64 0, .int .i64 0, .int .i64 0, .int .i64 0]) rfl
  replace re := re.to b18
  replace rg := rg.to b18
  have t18 := below_then t17 b18
  go_wp2_with fail
  refine (ints_at _ _ rfl rfl re l18 (by decide) (by decide) (r := true) rfl).mono ?_
  rintro e w19 ⟨rfl, b19⟩
  replace re := re.to b19
  replace rg := rg.to b19
  have t19 := below_then t18 b19
  obtain ⟨w20, hw20, l20, b20⟩ := lit_named w19 [0, 0, 0, 0, 0] (cs := #[.int .i64 0, .int .i64 0, .int .i64 0, .int .i64 0, .int .i64 0]) rfl
  replace rg := rg.to b20
  have t20 := below_then t19 b20
  go_wp2_with fail
  refine (ints_at _ _ rfl rfl rg l20 (by decide) (by decide) (r := true) rfl).mono ?_
  rintro e w21 ⟨rfl, b21⟩
  replace rg := rg.to b21
  have t21 := below_then t20 b21
  go_wp2_with fail
  refine (stuff_at (A := none) (l := []) _ rfl (.inl rfl) rfl (by decide) (r := []) rfl (m := 0) rfl).mono ?_
  rintro e w22 ⟨A22, c22, rfl, -, -, b22⟩
  have t22 := below_then t21 b22
  obtain ⟨w23, hw23, l23, b23⟩ := lit_named w22 [1, 0, 0, 1, 1, 1] (cs := #[.int .i64 1, .int .i64 0, .int .i64 0, .int .i64 1, .int .i64 1, .int .i64 1]) rfl
  have t23 := below_then t22 b23
  go_wp2_with fail
  refine (runs_at _ rfl l23 (by decide) (v := 3) rfl).mono ?_
  rintro e w24 ⟨rfl, b24⟩
  have t24 := below_then t23 b24
  go_wp2_with fail
  refine (runs_at (A := none) (l := []) _ rfl (.inl rfl) (by decide) (v := 0) rfl).mono ?_
  rintro e w25 ⟨rfl, b25⟩
  have t25 := below_then t24 b25
  go_wp2_with fail
  go_ret
  exact ⟨rfl, t25⟩

end Go.Proofs.Ytlbefdonpnignaa
