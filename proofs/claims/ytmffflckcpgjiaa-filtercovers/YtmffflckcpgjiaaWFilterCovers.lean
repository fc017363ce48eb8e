/-
  FilterCovers.
-/
import Derived.Test.YtmffflckcpgjiaaFilLaw
import Derived.Test.YtmffflckcpgjiaaHead7
import Derived.Test.YtmffflckcpgjiaaAny7
namespace Go.Proofs.Ytmffflckcpgjiaa
open Go.RowKit
set_option linter.unusedVariables false
set_option linter.unusedSimpArgs false

set_option maxRecDepth 100000 in
set_option maxHeartbeats 1000000 in
theorem filterCovers_false (a : FL) (bk bm : Int) (T : Nat) (hT : T < 4294967296) (w : World) :
    Calls Try.prog 4 #[a.v, .agg #[.bool false, .int .i64 bk, .int .i64 bm], .int .u32 T] w fun e w' => e = .returned (.bool true) ∧ Below w.heap.size w w' := by
  go_enter Try.func4, Try.ntmps4
  go_wp2_with fail
  obtain ⟨w0, hw0⟩ : ∃ w0, ((w.alloc (.cells #[.bool a.x, .int .i64 a.k, .int .i64 a.m] 23)).alloc (.cells #[.bool false, .int .i64 bk, .int .i64 bm] 23)) = w0 := ⟨_, rfl⟩
  have hT0 : Below w.heap.size w w0 := by rw [← hw0]; exact below_two _ _ _
  have ha0 : HasL w0 w.heap.size ⟨a.x, a.k, a.m⟩ := by rw [← hw0]; exact blk1 _ _ _
  have hb0 : HasL w0 (w.heap.size + 1) ⟨false, bk, bm⟩ := by rw [← hw0]; exact blk2 _ _ _
  rw [hw0]
  clear hw0
  refine (head7_any w0).mono ?_
  rintro e w1 ⟨rfl, hB1⟩
  have hT1 := below_then hT0 hB1
  have ha1 := block_below hB1 ha0
  have hb1 := block_below hB1 hb0
  clear hT0 ha0 hb0  hB1
  obtain ⟨ac0, ac1, ac2⟩ := cells3' ha1
  obtain ⟨bc0, bc1, bc2⟩ := cells3' hb1
  go_wp2_with fail
  clear ac0 ac1 ac2 bc0 bc1 bc2
  obtain ⟨qa, hqa⟩ : ∃ q, refRightP a = q := ⟨_, rfl⟩
  have Hqa := Lib.hid hqa
  clear hqa
  cases qa
  · skip
    refine (refRight_q a w1 false Hqa.out).mono ?_
    rintro e w2 ⟨rfl, hB2⟩
    have hT2 := below_then hT1 hB2
    have ha2 := block_below hB2 ha1
    have hb2 := block_below hB2 hb1
    clear hT1 ha1 hb1  hB2
    obtain ⟨ac0, ac1, ac2⟩ := cells3' ha2
    obtain ⟨bc0, bc1, bc2⟩ := cells3' hb2
    go_wp2_with fail
    go_ret
    exact ⟨rfl, hT2⟩
  refine (refRight_q a w1 true Hqa.out).mono ?_
  rintro e w2 ⟨rfl, hB2⟩
  have hT2 := below_then hT1 hB2
  have ha2 := block_below hB2 ha1
  have hb2 := block_below hB2 hb1
  clear hT1 ha1 hb1  hB2
  obtain ⟨ac0, ac1, ac2⟩ := cells3' ha2
  obtain ⟨bc0, bc1, bc2⟩ := cells3' hb2
  go_wp2_with fail
  clear ac0 ac1 ac2 bc0 bc1 bc2
  obtain ⟨qb, hqb⟩ : ∃ q, refRightP ⟨false, bk, bm⟩ = q := ⟨_, rfl⟩
  have Hqb := Lib.hid hqb
  clear hqb
  cases qb
  · skip
    refine (refRight_q ⟨false, bk, bm⟩ w2 false Hqb.out).mono ?_
    rintro e w3 ⟨rfl, hB3⟩
    have hT3 := below_then hT2 hB3
    have ha3 := block_below hB3 ha2
    have hb3 := block_below hB3 hb2
    clear hT2 ha2 hb2  hB3
    obtain ⟨ac0, ac1, ac2⟩ := cells3' ha3
    obtain ⟨bc0, bc1, bc2⟩ := cells3' hb3
    go_wp2_with fail
    go_ret
    exact ⟨rfl, hT3⟩
  refine (refRight_q ⟨false, bk, bm⟩ w2 true Hqb.out).mono ?_
  rintro e w3 ⟨rfl, hB3⟩
  have hT3 := below_then hT2 hB3
  have ha3 := block_below hB3 ha2
  have hb3 := block_below hB3 hb2
  clear hT2 ha2 hb2  hB3
  obtain ⟨K, M, ha⟩ := okL_of Hqa.out
  obtain ⟨K2, M2, hb⟩ := okL_of Hqb.out
  have HA := Lib.hid ha
  have HB := Lib.hid hb
  have hbk : bk = (K2 : Int) := hb.k
  have hbm : bm = (M2 : Int) := hb.m
  have hall : K2 &&& allN false = K2 := hb.all
  have l1 := hb.kl
  have l2 := hb.ml
  obtain ⟨R, hR⟩ : ∃ R, allN false ^^^ K2 = R := ⟨_, rfl⟩
  have lR : R < 536870912 := by rw [← hR]; exact free_lt l1
  have hfree := free_nat hall l1
  rw [hR, show ((allN false : Nat) : Int) = 2047 from by decide] at hfree
  obtain ⟨P, hP⟩ : ∃ P, T &&& R = P := ⟨_, rfl⟩
  have lP : P < 536870912 := by rw [← hP]; exact Nat.and_lt_two_pow (n := 29) _ (by omega)
  have hand : bits .and .i64 (T : Int) (R : Int) = (P : Int) := by rw [and_nat (by omega) (by omega), hP]
  obtain ⟨Q, hQ⟩ : ∃ Q, M2 ||| P = Q := ⟨_, rfl⟩
  have lQ : Q < 4611686018427387904 := by have : M2 ||| P < 2 ^ 29 := Nat.or_lt_two_pow (by omega) (by omega); omega
  have hor : bits .or .i64 (M2 : Int) (P : Int) = (Q : Int) := by rw [or_nat (by omega) (by omega), hQ]
  obtain ⟨Q2, hQ2⟩ : ∃ Q, M2 ||| R = Q := ⟨_, rfl⟩
  have hor2 : bits .or .i64 (M2 : Int) (R : Int) = (Q2 : Int) := by rw [or_nat (by omega) (by omega), hQ2]
  have htk : takesV ⟨false, bk, bm⟩ false (Q : Int) = true := (takes_iff hb lQ).2 ⟨rfl, by rw [← hQ, ← hP, ← hR]; exact takes_free hb T⟩
  have hmiss : coversV a ⟨false, bk, bm⟩ = false → takesV a false (M2 : Int) = true → takesV a false (Q2 : Int) = false := fun h1 h2 => by rw [← hQ2, ← hR]; exact covers_miss ha hb h1 h2
  have HT := Lib.hid htk
  have HMi := Lib.hid hmiss
  have HQ := Lib.hid lQ
  clear htk hmiss hQ2 hQ hP hR hall l1 l2 lR lP lQ ha hb
  subst hbk hbm
  obtain ⟨ac0, ac1, ac2⟩ := cells3' ha3
  obtain ⟨bc0, bc1, bc2⟩ := cells3' hb3
  go_wp2_with fail
  clear ac0 ac1 ac2 bc0 bc1 bc2
  clear hfree hand hor
  refine (frame_any false Q w3).mono ?_
  rintro e w4 ⟨rfl, hB4⟩
  have hT4 := below_then hT3 hB4
  have ha4 := block_below hB4 ha3
  have hb4 := block_below hB4 hb3
  clear hT3 ha3 hb3  hB4
  obtain ⟨ac0, ac1, ac2⟩ := cells3' ha4
  obtain ⟨bc0, bc1, bc2⟩ := cells3' hb4
  have hla := (Array.getElem?_eq_some_iff.1 ha4).1
  have hlb := (Array.getElem?_eq_some_iff.1 hb4).1
  go_wp2_with fail
  clear ac0 ac1 ac2 bc0 bc1 bc2 hla hlb
  obtain ⟨w5, hw5⟩ : ∃ w5, w4.alloc (.cells #[.bool false, .int .i64 (Q : Int), .bool false, .int .i64 0, .slice none 0 0] 27) = w5 := ⟨_, rfl⟩
  have hB5 : Below w4.heap.size w4 w5 := by rw [← hw5]; exact below_alloc1 _ _
  have hx5 : HasF w5 w4.heap.size ⟨false, (Q : Int), false, 0, none, 0, 0⟩ := by rw [← hw5]; exact World.alloc_heap_new _ _
  rw [hw5]
  clear hw5
  have hT5 := below_then hT4 hB5
  have ha5 := block_below hB5 ha4
  have hb5 := block_below hB5 hb4
  clear hT4 ha4 hb4  hB5
  refine (takes_q ⟨false, (K2 : Int), (M2 : Int)⟩ ⟨false, (Q : Int), false, 0, none, 0, 0⟩ w5 true HT.out).mono ?_
  rintro e w6 ⟨rfl, hB6⟩
  have hT6 := below_then hT5 hB6
  have ha6 := block_below hB6 ha5
  have hb6 := block_below hB6 hb5
  have hx6 := block_below hB6 hx5
  clear hT5 ha5 hb5 hx5  hB6
  obtain ⟨ac0, ac1, ac2⟩ := cells3' ha6
  obtain ⟨bc0, bc1, bc2⟩ := cells3' hb6
  obtain ⟨xc0, xc1, xc2, xc3, xc4⟩ := cells5' hx6
  go_wp2_with fail
  clear ac0 ac1 ac2 bc0 bc1 bc2 xc0 xc1 xc2 xc3 xc4
  obtain ⟨c, hc⟩ : ∃ q, coversV a ⟨false, (K2 : Int), (M2 : Int)⟩ = q := ⟨_, rfl⟩
  have Hc := Lib.hid hc
  clear hc
  cases c
  · skip
    refine (covers_q a ⟨false, (K2 : Int), (M2 : Int)⟩ w6 false Hc.out).mono ?_
    rintro e w7 ⟨rfl, hB7⟩
    have hT7 := below_then hT6 hB7
    have ha7 := block_below hB7 ha6
    have hb7 := block_below hB7 hb6
    have hx7 := block_below hB7 hx6
    clear hT6 ha6 hb6 hx6  hB7
    obtain ⟨t, ht⟩ : ∃ q, takesV a false (M2 : Int) = q := ⟨_, rfl⟩
    have Ht := Lib.hid ht
    clear ht
    obtain ⟨ac0, ac1, ac2⟩ := cells3' ha7
    obtain ⟨bc0, bc1, bc2⟩ := cells3' hb7
    obtain ⟨xc0, xc1, xc2, xc3, xc4⟩ := cells5' hx7
    go_wp2_with fail
    clear ac0 ac1 ac2 bc0 bc1 bc2 xc0 xc1 xc2 xc3 xc4
    cases t
    · skip
      refine wp_region_held_drew (S := fun W => (W.cell? ⟨w.heap.size, 0, none⟩ = some (.bool a.x) ∧ W.cell? ⟨w.heap.size, 1, none⟩ = some (.int .i64 a.k) ∧ W.cell? ⟨w.heap.size, 2, none⟩ = some (.int .i64 a.m)) ∧ (W.cell? ⟨(w.heap.size + 1), 0, none⟩ = some (.bool false) ∧ W.cell? ⟨(w.heap.size + 1), 1, none⟩ = some (.int .i64 (K2 : Int)) ∧ W.cell? ⟨(w.heap.size + 1), 2, none⟩ = some (.int .i64 (M2 : Int)))) (by kernel_rfl) (by exact ⟨HasL.cl (f := ⟨a.x, a.k, a.m⟩) (block_below (below_drew1 _) ha7), HasL.cl (f := ⟨false, (K2 : Int), (M2 : Int)⟩) (block_below (below_drew1 _) hb7)⟩) (fun hHeld_ => ?_)
      refine wpAnyH_take' (i := 0) (v := ?v0_t5) 50 rfl rfl (by kernel_rfl) (by kernel_rfl) (by kernel_rfl) (fun _ _ _ h => h) (Or.inl ⟨by kernel_rfl, ?hy0_t5⟩) (by assumption) ?rest0_t5
      case hy0_t5 => (intro W_ hS_; (try dsimp only at hS_); go_simp; (try (with_reducible rfl)))
      try simp only [Act.put, List.setIfInBounds_toArray, List.set_cons_zero, List.set_cons_succ]
      refine wpAnyH_take' (i := 1) (v := ?v1_t5) 51 rfl rfl (by kernel_rfl) (by kernel_rfl) (by kernel_rfl) (fun _ _ _ h => h) (Or.inl ⟨by kernel_rfl, ?hy1_t5⟩) (by assumption) ?rest1_t5
      case hy1_t5 => (intro W_ hS_; (try dsimp only at hS_); go_simp; (try (with_reducible rfl)))
      try simp only [Act.put, List.setIfInBounds_toArray, List.set_cons_zero, List.set_cons_succ]
      refine wpAnyH_take' (i := 2) (v := ?v2_t5) 52 rfl rfl (by kernel_rfl) (by kernel_rfl) (by kernel_rfl) (fun _ _ _ h => h) (Or.inl ⟨by kernel_rfl, ?hy2_t5⟩) (by assumption) ?rest2_t5
      case hy2_t5 => (intro W_ hS_; (try dsimp only at hS_); go_simp; (try (with_reducible rfl)))
      try simp only [Act.put, List.setIfInBounds_toArray, List.set_cons_zero, List.set_cons_succ]
      refine wpAnyH_take' (i := 3) (v := ?v3_t5) 53 rfl rfl (by kernel_rfl) (by kernel_rfl) (by kernel_rfl) (fun _ _ _ h => h) (Or.inl ⟨by kernel_rfl, ?hy3_t5⟩) (by assumption) ?rest3_t5
      case hy3_t5 => (intro W_ hS_; (try dsimp only at hS_); go_simp; (try (with_reducible rfl)))
      try simp only [Act.put, List.setIfInBounds_toArray, List.set_cons_zero, List.set_cons_succ]
      refine wpAnyH_take' (i := 4) (v := ?v4_t5) 54 rfl rfl (by kernel_rfl) (by kernel_rfl) (by kernel_rfl) (fun _ _ _ h => h) (Or.inl ⟨by kernel_rfl, ?hy4_t5⟩) (by assumption) ?rest4_t5
      case hy4_t5 => (intro W_ hS_; (try dsimp only at hS_); go_simp; (try (with_reducible rfl)))
      try simp only [Act.put, List.setIfInBounds_toArray, List.set_cons_zero, List.set_cons_succ]
      refine wpAnyH_take' (i := 5) (v := ?v5_t5) 55 rfl rfl (by kernel_rfl) (by kernel_rfl) (by kernel_rfl) (fun _ _ _ h => h) (Or.inl ⟨by kernel_rfl, ?hy5_t5⟩) (by assumption) ?rest5_t5
      case hy5_t5 => (intro W_ hS_; (try dsimp only at hS_); go_simp; (try (with_reducible rfl)))
      try simp only [Act.put, List.setIfInBounds_toArray, List.set_cons_zero, List.set_cons_succ]
      refine wpAnyH_take' (i := 6) (v := ?v6_t5) 56 rfl rfl (by kernel_rfl) (by kernel_rfl) (by kernel_rfl) (fun _ _ _ h => h) (Or.inl ⟨by kernel_rfl, ?hy6_t5⟩) (by assumption) ?rest6_t5
      case hy6_t5 => (intro W_ hS_; (try dsimp only at hS_); go_simp; (try (with_reducible rfl)))
      try simp only [Act.put, List.setIfInBounds_toArray, List.set_cons_zero, List.set_cons_succ]
      refine wpAnyH_ready (rs := [7]) (by kernel_rfl) (by simp) ?_
      refine AllReadyH.cons rfl (fun K_ hK_ => ?_) AllReadyH.nil
      go_simp
      refine (frame_any false (M2 : Int) _).mono ?_; rintro e wr7 ⟨rfl, hBr7⟩
      go_wp2_with fail
      refine hK_.out _ _ (by exact ⟨HasL.cl (f := ⟨a.x, a.k, a.m⟩) (block_below hBr7 (block_below (below_drew1 _) ha7)), HasL.cl (f := ⟨false, (K2 : Int), (M2 : Int)⟩) (block_below hBr7 (block_below (below_drew1 _) hb7))⟩) (fun hHeld_7 => ?_)
      clear hK_
      try simp only [Act.put, List.setIfInBounds_toArray, List.set_cons_zero, List.set_cons_succ]
      refine wpAnyH_ready (rs := [8]) (by kernel_rfl) (by simp) ?_
      refine AllReadyH.cons rfl (fun K_ hK_ => ?_) AllReadyH.nil
      go_simp
      refine (takes_q a ⟨false, (M2 : Int), false, 0, none, 0, 0⟩ _ false Ht.out).mono ?_; rintro e wr8 ⟨rfl, hBr8⟩
      go_wp2_with fail
      refine hK_.out _ _ (by exact ⟨HasL.cl (f := ⟨a.x, a.k, a.m⟩) (block_below hBr8 (block_below hBr7 (block_below (below_drew1 _) ha7))), HasL.cl (f := ⟨false, (K2 : Int), (M2 : Int)⟩) (block_below hBr8 (block_below hBr7 (block_below (below_drew1 _) hb7)))⟩) (fun hHeld_8 => ?_)
      clear hK_
      try simp only [Act.put, List.setIfInBounds_toArray, List.set_cons_zero, List.set_cons_succ]
      refine wpAnyH_take' (i := 9) (v := ?v9_t5) 59 rfl rfl (by kernel_rfl) (by kernel_rfl) (by kernel_rfl) (fun _ _ _ h => h) (Or.inl ⟨by kernel_rfl, ?hy9_t5⟩) (by assumption) ?rest9_t5
      case hy9_t5 => (intro W_ hS_; (try dsimp only at hS_); go_simp; (try (with_reducible rfl)))
      try simp only [Act.put, List.setIfInBounds_toArray, List.set_cons_zero, List.set_cons_succ]
      refine wpAnyH_take' (i := 10) (v := ?v10_t5) 60 rfl rfl (by kernel_rfl) (by kernel_rfl) (by kernel_rfl) (fun _ _ _ h => h) (Or.inl ⟨by kernel_rfl, ?hy10_t5⟩) (by assumption) ?rest10_t5
      case hy10_t5 => (intro W_ hS_; (try dsimp only at hS_); go_simp; (try (with_reducible rfl)))
      try simp only [Act.put, List.setIfInBounds_toArray, List.set_cons_zero, List.set_cons_succ]
      refine wpAnyH_take' (i := 11) (v := undef) 61 rfl rfl (by kernel_rfl) (by kernel_rfl) (by kernel_rfl) (fun _ _ _ h => h) (Or.inr ⟨by kernel_rfl, rfl⟩) (by assumption) ?_
      try simp only [Act.put, List.setIfInBounds_toArray, List.set_cons_zero, List.set_cons_succ]
      refine wpAnyH_take' (i := 12) (v := undef) 62 rfl rfl (by kernel_rfl) (by kernel_rfl) (by kernel_rfl) (fun _ _ _ h => h) (Or.inr ⟨by kernel_rfl, rfl⟩) (by assumption) ?_
      try simp only [Act.put, List.setIfInBounds_toArray, List.set_cons_zero, List.set_cons_succ]
      refine wpAnyH_take' (i := 13) (v := undef) 63 rfl rfl (by kernel_rfl) (by kernel_rfl) (by kernel_rfl) (fun _ _ _ h => h) (Or.inr ⟨by kernel_rfl, rfl⟩) (by assumption) ?_
      try simp only [Act.put, List.setIfInBounds_toArray, List.set_cons_zero, List.set_cons_succ]
      refine wpAnyH_take' (i := 14) (v := undef) 64 rfl rfl (by kernel_rfl) (by kernel_rfl) (by kernel_rfl) (fun _ _ _ h => h) (Or.inr ⟨by kernel_rfl, rfl⟩) (by assumption) ?_
      try simp only [Act.put, List.setIfInBounds_toArray, List.set_cons_zero, List.set_cons_succ]
      refine wpAnyH_take' (i := 15) (v := undef) 65 rfl rfl (by kernel_rfl) (by kernel_rfl) (by kernel_rfl) (fun _ _ _ h => h) (Or.inr ⟨by kernel_rfl, rfl⟩) (by assumption) ?_
      try simp only [Act.put, List.setIfInBounds_toArray, List.set_cons_zero, List.set_cons_succ]
      refine wpAnyH_take' (i := 16) (v := undef) 66 rfl rfl (by kernel_rfl) (by kernel_rfl) (by kernel_rfl) (fun _ _ _ h => h) (Or.inr ⟨by kernel_rfl, rfl⟩) (by assumption) ?_
      try simp only [Act.put, List.setIfInBounds_toArray, List.set_cons_zero, List.set_cons_succ]
      refine wpAnyH_take' (i := 17) (v := undef) 67 rfl rfl (by kernel_rfl) (by kernel_rfl) (by kernel_rfl) (fun _ _ _ h => h) (Or.inr ⟨by kernel_rfl, rfl⟩) (by assumption) ?_
      try simp only [Act.put, List.setIfInBounds_toArray, List.set_cons_zero, List.set_cons_succ]
      refine wpAnyH_skip (i := 18) 68 rfl rfl (by kernel_rfl) (by kernel_rfl) (by assumption) ?_
      try simp only [Act.put, List.setIfInBounds_toArray, List.set_cons_zero, List.set_cons_succ]
      refine wpAnyH_skip (i := 19) 69 rfl rfl (by kernel_rfl) (by kernel_rfl) (by assumption) ?_
      try simp only [Act.put, List.setIfInBounds_toArray, List.set_cons_zero, List.set_cons_succ]
      refine wpAnyH_take' (i := 20) (v := undef) 70 rfl rfl (by kernel_rfl) (by kernel_rfl) (by kernel_rfl) (fun _ _ _ h => h) (Or.inr ⟨by kernel_rfl, rfl⟩) (by assumption) ?_
      try simp only [Act.put, List.setIfInBounds_toArray, List.set_cons_zero, List.set_cons_succ]
      refine wpAnyH_take' (i := 21) (v := ?v21_t5) 71 rfl rfl (by kernel_rfl) (by kernel_rfl) (by kernel_rfl) (fun _ _ _ h => h) (Or.inl ⟨by kernel_rfl, ?hy21_t5⟩) (by assumption) ?rest21_t5
      case hy21_t5 => (intro W_ hS_; (try dsimp only at hS_); go_simp; (try (with_reducible rfl)))
      try simp only [Act.put, List.setIfInBounds_toArray, List.set_cons_zero, List.set_cons_succ]
      refine wpAnyH_take' (i := 22) (v := ?v22_t5) 72 rfl rfl (by kernel_rfl) (by kernel_rfl) (by kernel_rfl) (fun _ _ _ h => h) (Or.inl ⟨by kernel_rfl, ?hy22_t5⟩) (by assumption) ?rest22_t5
      case hy22_t5 => (intro W_ hS_; (try dsimp only at hS_); go_simp; (try (with_reducible rfl)))
      try simp only [Act.put, List.setIfInBounds_toArray, List.set_cons_zero, List.set_cons_succ]
      refine wpAnyH_take' (i := 23) (v := ?v23_t5) 6 rfl rfl (by kernel_rfl) (by kernel_rfl) (by kernel_rfl) (fun _ _ _ h => h) (Or.inl ⟨by kernel_rfl, ?hy23_t5⟩) (by assumption) ?rest23_t5
      case hy23_t5 => (intro W_ hS_; (try dsimp only at hS_); go_simp; (try (with_reducible rfl)))
      try simp only [Act.put, List.setIfInBounds_toArray, List.set_cons_zero, List.set_cons_succ]
      refine wpAnyH_done (by kernel_rfl) ?_ _
      go_wp2_with fail
      go_ret
      exact ⟨rfl, below_then hT7 (below_then (below_then (below_drew1 _) hBr7) hBr8)⟩
    · skip
      refine wp_region_held_drew (S := fun W => (W.cell? ⟨w.heap.size, 0, none⟩ = some (.bool a.x) ∧ W.cell? ⟨w.heap.size, 1, none⟩ = some (.int .i64 a.k) ∧ W.cell? ⟨w.heap.size, 2, none⟩ = some (.int .i64 a.m)) ∧ (W.cell? ⟨(w.heap.size + 1), 0, none⟩ = some (.bool false) ∧ W.cell? ⟨(w.heap.size + 1), 1, none⟩ = some (.int .i64 (K2 : Int)) ∧ W.cell? ⟨(w.heap.size + 1), 2, none⟩ = some (.int .i64 (M2 : Int)))) (by kernel_rfl) (by exact ⟨HasL.cl (f := ⟨a.x, a.k, a.m⟩) (block_below (below_drew1 _) ha7), HasL.cl (f := ⟨false, (K2 : Int), (M2 : Int)⟩) (block_below (below_drew1 _) hb7)⟩) (fun hHeld_ => ?_)
      refine wpAnyH_take' (i := 0) (v := ?v0_t6) 50 rfl rfl (by kernel_rfl) (by kernel_rfl) (by kernel_rfl) (fun _ _ _ h => h) (Or.inl ⟨by kernel_rfl, ?hy0_t6⟩) (by assumption) ?rest0_t6
      case hy0_t6 => (intro W_ hS_; (try dsimp only at hS_); go_simp; (try (with_reducible rfl)))
      try simp only [Act.put, List.setIfInBounds_toArray, List.set_cons_zero, List.set_cons_succ]
      refine wpAnyH_take' (i := 1) (v := ?v1_t6) 51 rfl rfl (by kernel_rfl) (by kernel_rfl) (by kernel_rfl) (fun _ _ _ h => h) (Or.inl ⟨by kernel_rfl, ?hy1_t6⟩) (by assumption) ?rest1_t6
      case hy1_t6 => (intro W_ hS_; (try dsimp only at hS_); go_simp; (try (with_reducible rfl)))
      try simp only [Act.put, List.setIfInBounds_toArray, List.set_cons_zero, List.set_cons_succ]
      refine wpAnyH_take' (i := 2) (v := ?v2_t6) 52 rfl rfl (by kernel_rfl) (by kernel_rfl) (by kernel_rfl) (fun _ _ _ h => h) (Or.inl ⟨by kernel_rfl, ?hy2_t6⟩) (by assumption) ?rest2_t6
      case hy2_t6 => (intro W_ hS_; (try dsimp only at hS_); go_simp; (try (with_reducible rfl)))
      try simp only [Act.put, List.setIfInBounds_toArray, List.set_cons_zero, List.set_cons_succ]
      refine wpAnyH_take' (i := 3) (v := ?v3_t6) 53 rfl rfl (by kernel_rfl) (by kernel_rfl) (by kernel_rfl) (fun _ _ _ h => h) (Or.inl ⟨by kernel_rfl, ?hy3_t6⟩) (by assumption) ?rest3_t6
      case hy3_t6 => (intro W_ hS_; (try dsimp only at hS_); go_simp; (try (with_reducible rfl)))
      try simp only [Act.put, List.setIfInBounds_toArray, List.set_cons_zero, List.set_cons_succ]
      refine wpAnyH_take' (i := 4) (v := ?v4_t6) 54 rfl rfl (by kernel_rfl) (by kernel_rfl) (by kernel_rfl) (fun _ _ _ h => h) (Or.inl ⟨by kernel_rfl, ?hy4_t6⟩) (by assumption) ?rest4_t6
      case hy4_t6 => (intro W_ hS_; (try dsimp only at hS_); go_simp; (try (with_reducible rfl)))
      try simp only [Act.put, List.setIfInBounds_toArray, List.set_cons_zero, List.set_cons_succ]
      refine wpAnyH_take' (i := 5) (v := ?v5_t6) 55 rfl rfl (by kernel_rfl) (by kernel_rfl) (by kernel_rfl) (fun _ _ _ h => h) (Or.inl ⟨by kernel_rfl, ?hy5_t6⟩) (by assumption) ?rest5_t6
      case hy5_t6 => (intro W_ hS_; (try dsimp only at hS_); go_simp; (try (with_reducible rfl)))
      try simp only [Act.put, List.setIfInBounds_toArray, List.set_cons_zero, List.set_cons_succ]
      refine wpAnyH_take' (i := 6) (v := ?v6_t6) 56 rfl rfl (by kernel_rfl) (by kernel_rfl) (by kernel_rfl) (fun _ _ _ h => h) (Or.inl ⟨by kernel_rfl, ?hy6_t6⟩) (by assumption) ?rest6_t6
      case hy6_t6 => (intro W_ hS_; (try dsimp only at hS_); go_simp; (try (with_reducible rfl)))
      try simp only [Act.put, List.setIfInBounds_toArray, List.set_cons_zero, List.set_cons_succ]
      refine wpAnyH_ready (rs := [7]) (by kernel_rfl) (by simp) ?_
      refine AllReadyH.cons rfl (fun K_ hK_ => ?_) AllReadyH.nil
      go_simp
      refine (frame_any false (M2 : Int) _).mono ?_; rintro e wr7 ⟨rfl, hBr7⟩
      go_wp2_with fail
      refine hK_.out _ _ (by exact ⟨HasL.cl (f := ⟨a.x, a.k, a.m⟩) (block_below hBr7 (block_below (below_drew1 _) ha7)), HasL.cl (f := ⟨false, (K2 : Int), (M2 : Int)⟩) (block_below hBr7 (block_below (below_drew1 _) hb7))⟩) (fun hHeld_7 => ?_)
      clear hK_
      try simp only [Act.put, List.setIfInBounds_toArray, List.set_cons_zero, List.set_cons_succ]
      refine wpAnyH_ready (rs := [8]) (by kernel_rfl) (by simp) ?_
      refine AllReadyH.cons rfl (fun K_ hK_ => ?_) AllReadyH.nil
      go_simp
      refine (takes_q a ⟨false, (M2 : Int), false, 0, none, 0, 0⟩ _ true Ht.out).mono ?_; rintro e wr8 ⟨rfl, hBr8⟩
      go_wp2_with fail
      refine hK_.out _ _ (by exact ⟨HasL.cl (f := ⟨a.x, a.k, a.m⟩) (block_below hBr8 (block_below hBr7 (block_below (below_drew1 _) ha7))), HasL.cl (f := ⟨false, (K2 : Int), (M2 : Int)⟩) (block_below hBr8 (block_below hBr7 (block_below (below_drew1 _) hb7)))⟩) (fun hHeld_8 => ?_)
      clear hK_
      try simp only [Act.put, List.setIfInBounds_toArray, List.set_cons_zero, List.set_cons_succ]
      refine wpAnyH_take' (i := 9) (v := ?v9_t6) 59 rfl rfl (by kernel_rfl) (by kernel_rfl) (by kernel_rfl) (fun _ _ _ h => h) (Or.inl ⟨by kernel_rfl, ?hy9_t6⟩) (by assumption) ?rest9_t6
      case hy9_t6 => (intro W_ hS_; (try dsimp only at hS_); go_simp; (try (with_reducible rfl)))
      try simp only [Act.put, List.setIfInBounds_toArray, List.set_cons_zero, List.set_cons_succ]
      refine wpAnyH_take' (i := 10) (v := ?v10_t6) 60 rfl rfl (by kernel_rfl) (by kernel_rfl) (by kernel_rfl) (fun _ _ _ h => h) (Or.inl ⟨by kernel_rfl, ?hy10_t6⟩) (by assumption) ?rest10_t6
      case hy10_t6 => (intro W_ hS_; (try dsimp only at hS_); go_simp; (try (with_reducible rfl)))
      try simp only [Act.put, List.setIfInBounds_toArray, List.set_cons_zero, List.set_cons_succ]
      refine wpAnyH_take' (i := 11) (v := ?v11_t6) 61 rfl rfl (by kernel_rfl) (by kernel_rfl) (by kernel_rfl) (fun _ _ _ h => h) (Or.inl ⟨by kernel_rfl, ?hy11_t6⟩) (by assumption) ?rest11_t6
      case hy11_t6 => (intro W_ hS_; (try dsimp only at hS_); go_simp; (try (with_reducible rfl)))
      try simp only [Act.put, List.setIfInBounds_toArray, List.set_cons_zero, List.set_cons_succ]
      refine wpAnyH_take' (i := 12) (v := ?v12_t6) 62 rfl rfl (by kernel_rfl) (by kernel_rfl) (by kernel_rfl) (fun _ _ _ h => h) (Or.inl ⟨by kernel_rfl, ?hy12_t6⟩) (by assumption) ?rest12_t6
      case hy12_t6 => (intro W_ hS_; (try dsimp only at hS_); go_simp; (try (with_reducible rfl)))
      try simp only [Act.put, List.setIfInBounds_toArray, List.set_cons_zero, List.set_cons_succ]
      refine wpAnyH_take' (i := 13) (v := ?v13_t6) 63 rfl rfl (by kernel_rfl) (by kernel_rfl) (by kernel_rfl) (fun _ _ _ h => h) (Or.inl ⟨by kernel_rfl, ?hy13_t6⟩) (by assumption) ?rest13_t6
      case hy13_t6 => (intro W_ hS_; (try dsimp only at hS_); go_simp; (try (with_reducible rfl)))
      try simp only [Act.put, List.setIfInBounds_toArray, List.set_cons_zero, List.set_cons_succ]
      refine wpAnyH_take' (i := 14) (v := ?v14_t6) 64 rfl rfl (by kernel_rfl) (by kernel_rfl) (by kernel_rfl) (fun _ _ _ h => h) (Or.inl ⟨by kernel_rfl, ?hy14_t6⟩) (by assumption) ?rest14_t6
      case hy14_t6 => (intro W_ hS_; (try dsimp only at hS_); go_simp; (try (with_reducible rfl)))
      try simp only [Act.put, List.setIfInBounds_toArray, List.set_cons_zero, List.set_cons_succ]
      refine wpAnyH_take' (i := 15) (v := ?v15_t6) 65 rfl rfl (by kernel_rfl) (by kernel_rfl) (by kernel_rfl) (fun _ _ _ h => h) (Or.inl ⟨by kernel_rfl, ?hy15_t6⟩) (by assumption) ?rest15_t6
      case hy15_t6 => (intro W_ hS_; (try dsimp only at hS_); go_simp; (try (with_reducible rfl)))
      try simp only [Act.put, List.setIfInBounds_toArray, List.set_cons_zero, List.set_cons_succ]
      refine wpAnyH_take' (i := 16) (v := ?v16_t6) 66 rfl rfl (by kernel_rfl) (by kernel_rfl) (by kernel_rfl) (fun _ _ _ h => h) (Or.inl ⟨by kernel_rfl, ?hy16_t6⟩) (by assumption) ?rest16_t6
      case hy16_t6 => (intro W_ hS_; (try dsimp only at hS_); go_simp; (try (with_reducible rfl)))
      try simp only [Act.put, List.setIfInBounds_toArray, List.set_cons_zero, List.set_cons_succ]
      refine wpAnyH_take' (i := 17) (v := ?v17_t6) 67 rfl rfl (by kernel_rfl) (by kernel_rfl) (by kernel_rfl) (fun _ _ _ h => h) (Or.inl ⟨by kernel_rfl, ?hy17_t6⟩) (by assumption) ?rest17_t6
      case hy17_t6 => (intro W_ hS_; (try dsimp only at hS_); go_simp; (try (with_reducible rfl)))
      try simp only [Act.put, List.setIfInBounds_toArray, List.set_cons_zero, List.set_cons_succ]
      refine wpAnyH_ready (rs := [18]) (by kernel_rfl) (by simp) ?_
      refine AllReadyH.cons rfl (fun K_ hK_ => ?_) AllReadyH.nil
      go_simp
      refine (frame_any false (Q2 : Int) _).mono ?_; rintro e wr18 ⟨rfl, hBr18⟩
      go_wp2_with fail
      refine hK_.out _ _ (by exact ⟨HasL.cl (f := ⟨a.x, a.k, a.m⟩) (block_below hBr18 (block_below hBr8 (block_below hBr7 (block_below (below_drew1 _) ha7)))), HasL.cl (f := ⟨false, (K2 : Int), (M2 : Int)⟩) (block_below hBr18 (block_below hBr8 (block_below hBr7 (block_below (below_drew1 _) hb7))))⟩) (fun hHeld_18 => ?_)
      clear hK_
      try simp only [Act.put, List.setIfInBounds_toArray, List.set_cons_zero, List.set_cons_succ]
      refine wpAnyH_ready (rs := [19]) (by kernel_rfl) (by simp) ?_
      refine AllReadyH.cons rfl (fun K_ hK_ => ?_) AllReadyH.nil
      go_simp
      refine (takes_q a ⟨false, (Q2 : Int), false, 0, none, 0, 0⟩ _ false (HMi.out Hc.out Ht.out)).mono ?_; rintro e wr19 ⟨rfl, hBr19⟩
      go_wp2_with fail
      refine hK_.out _ _ (by exact ⟨HasL.cl (f := ⟨a.x, a.k, a.m⟩) (block_below hBr19 (block_below hBr18 (block_below hBr8 (block_below hBr7 (block_below (below_drew1 _) ha7))))), HasL.cl (f := ⟨false, (K2 : Int), (M2 : Int)⟩) (block_below hBr19 (block_below hBr18 (block_below hBr8 (block_below hBr7 (block_below (below_drew1 _) hb7)))))⟩) (fun hHeld_19 => ?_)
      clear hK_
      try simp only [Act.put, List.setIfInBounds_toArray, List.set_cons_zero, List.set_cons_succ]
      refine wpAnyH_take' (i := 20) (v := ?v20_t6) 70 rfl rfl (by kernel_rfl) (by kernel_rfl) (by kernel_rfl) (fun _ _ _ h => h) (Or.inl ⟨by kernel_rfl, ?hy20_t6⟩) (by assumption) ?rest20_t6
      case hy20_t6 => (intro W_ hS_; (try dsimp only at hS_); go_simp; (try (with_reducible rfl)))
      try simp only [Act.put, List.setIfInBounds_toArray, List.set_cons_zero, List.set_cons_succ]
      refine wpAnyH_take' (i := 21) (v := ?v21_t6) 71 rfl rfl (by kernel_rfl) (by kernel_rfl) (by kernel_rfl) (fun _ _ _ h => h) (Or.inl ⟨by kernel_rfl, ?hy21_t6⟩) (by assumption) ?rest21_t6
      case hy21_t6 => (intro W_ hS_; (try dsimp only at hS_); go_simp; (try (with_reducible rfl)))
      try simp only [Act.put, List.setIfInBounds_toArray, List.set_cons_zero, List.set_cons_succ]
      refine wpAnyH_take' (i := 22) (v := ?v22_t6) 72 rfl rfl (by kernel_rfl) (by kernel_rfl) (by kernel_rfl) (fun _ _ _ h => h) (Or.inl ⟨by kernel_rfl, ?hy22_t6⟩) (by assumption) ?rest22_t6
      case hy22_t6 => (intro W_ hS_; (try dsimp only at hS_); go_simp; (try (with_reducible rfl)))
      try simp only [Act.put, List.setIfInBounds_toArray, List.set_cons_zero, List.set_cons_succ]
      refine wpAnyH_take' (i := 23) (v := ?v23_t6) 6 rfl rfl (by kernel_rfl) (by kernel_rfl) (by kernel_rfl) (fun _ _ _ h => h) (Or.inl ⟨by kernel_rfl, ?hy23_t6⟩) (by assumption) ?rest23_t6
      case hy23_t6 => (intro W_ hS_; (try dsimp only at hS_); go_simp; (try (with_reducible rfl)))
      try simp only [Act.put, List.setIfInBounds_toArray, List.set_cons_zero, List.set_cons_succ]
      refine wpAnyH_done (by kernel_rfl) ?_ _
      go_wp2_with fail
      go_ret
      exact ⟨rfl, below_then hT7 (below_then (below_then (below_then (below_then (below_drew1 _) hBr7) hBr8) hBr18) hBr19)⟩
  · skip
    refine (covers_q a ⟨false, (K2 : Int), (M2 : Int)⟩ w6 true Hc.out).mono ?_
    rintro e w7 ⟨rfl, hB7⟩
    have hT7 := below_then hT6 hB7
    have ha7 := block_below hB7 ha6
    have hb7 := block_below hB7 hb6
    have hx7 := block_below hB7 hx6
    clear hT6 ha6 hb6 hx6  hB7
    obtain ⟨ac0, ac1, ac2⟩ := cells3' ha7
    obtain ⟨bc0, bc1, bc2⟩ := cells3' hb7
    obtain ⟨xc0, xc1, xc2, xc3, xc4⟩ := cells5' hx7
    go_wp2_with fail
    clear ac0 ac1 ac2 bc0 bc1 bc2 xc0 xc1 xc2 xc3 xc4
    refine (takes_q a ⟨false, (Q : Int), false, 0, none, 0, 0⟩ w7 true (covers_takes HA.out HB.out Hc.out HQ.out HT.out)).mono ?_
    rintro e w8 ⟨rfl, hB8⟩
    have hT8 := below_then hT7 hB8
    have ha8 := block_below hB8 ha7
    have hb8 := block_below hB8 hb7
    have hx8 := block_below hB8 hx7
    clear hT7 ha7 hb7 hx7  hB8
    obtain ⟨ac0, ac1, ac2⟩ := cells3' ha8
    obtain ⟨bc0, bc1, bc2⟩ := cells3' hb8
    obtain ⟨xc0, xc1, xc2, xc3, xc4⟩ := cells5' hx8
    go_wp2_with fail
    go_ret
    exact ⟨rfl, hT8⟩

set_option maxRecDepth 100000 in
set_option maxHeartbeats 1000000 in
theorem filterCovers_true (a : FL) (bk bm : Int) (T : Nat) (hT : T < 4294967296) (w : World) :
    Calls Try.prog 4 #[a.v, .agg #[.bool true, .int .i64 bk, .int .i64 bm], .int .u32 T] w fun e w' => e = .returned (.bool true) ∧ Below w.heap.size w w' := by
  go_enter Try.func4, Try.ntmps4
  go_wp2_with fail
  obtain ⟨w0, hw0⟩ : ∃ w0, ((w.alloc (.cells #[.bool a.x, .int .i64 a.k, .int .i64 a.m] 23)).alloc (.cells #[.bool true, .int .i64 bk, .int .i64 bm] 23)) = w0 := ⟨_, rfl⟩
  have hT0 : Below w.heap.size w w0 := by rw [← hw0]; exact below_two _ _ _
  have ha0 : HasL w0 w.heap.size ⟨a.x, a.k, a.m⟩ := by rw [← hw0]; exact blk1 _ _ _
  have hb0 : HasL w0 (w.heap.size + 1) ⟨true, bk, bm⟩ := by rw [← hw0]; exact blk2 _ _ _
  rw [hw0]
  clear hw0
  refine (head7_any w0).mono ?_
  rintro e w1 ⟨rfl, hB1⟩
  have hT1 := below_then hT0 hB1
  have ha1 := block_below hB1 ha0
  have hb1 := block_below hB1 hb0
  clear hT0 ha0 hb0  hB1
  obtain ⟨ac0, ac1, ac2⟩ := cells3' ha1
  obtain ⟨bc0, bc1, bc2⟩ := cells3' hb1
  go_wp2_with fail
  clear ac0 ac1 ac2 bc0 bc1 bc2
  obtain ⟨qa, hqa⟩ : ∃ q, refRightP a = q := ⟨_, rfl⟩
  have Hqa := Lib.hid hqa
  clear hqa
  cases qa
  · skip
    refine (refRight_q a w1 false Hqa.out).mono ?_
    rintro e w2 ⟨rfl, hB2⟩
    have hT2 := below_then hT1 hB2
    have ha2 := block_below hB2 ha1
    have hb2 := block_below hB2 hb1
    clear hT1 ha1 hb1  hB2
    obtain ⟨ac0, ac1, ac2⟩ := cells3' ha2
    obtain ⟨bc0, bc1, bc2⟩ := cells3' hb2
    go_wp2_with fail
    go_ret
    exact ⟨rfl, hT2⟩
  refine (refRight_q a w1 true Hqa.out).mono ?_
  rintro e w2 ⟨rfl, hB2⟩
  have hT2 := below_then hT1 hB2
  have ha2 := block_below hB2 ha1
  have hb2 := block_below hB2 hb1
  clear hT1 ha1 hb1  hB2
  obtain ⟨ac0, ac1, ac2⟩ := cells3' ha2
  obtain ⟨bc0, bc1, bc2⟩ := cells3' hb2
  go_wp2_with fail
  clear ac0 ac1 ac2 bc0 bc1 bc2
  obtain ⟨qb, hqb⟩ : ∃ q, refRightP ⟨true, bk, bm⟩ = q := ⟨_, rfl⟩
  have Hqb := Lib.hid hqb
  clear hqb
  cases qb
  · skip
    refine (refRight_q ⟨true, bk, bm⟩ w2 false Hqb.out).mono ?_
    rintro e w3 ⟨rfl, hB3⟩
    have hT3 := below_then hT2 hB3
    have ha3 := block_below hB3 ha2
    have hb3 := block_below hB3 hb2
    clear hT2 ha2 hb2  hB3
    obtain ⟨ac0, ac1, ac2⟩ := cells3' ha3
    obtain ⟨bc0, bc1, bc2⟩ := cells3' hb3
    go_wp2_with fail
    go_ret
    exact ⟨rfl, hT3⟩
  refine (refRight_q ⟨true, bk, bm⟩ w2 true Hqb.out).mono ?_
  rintro e w3 ⟨rfl, hB3⟩
  have hT3 := below_then hT2 hB3
  have ha3 := block_below hB3 ha2
  have hb3 := block_below hB3 hb2
  clear hT2 ha2 hb2  hB3
  obtain ⟨K, M, ha⟩ := okL_of Hqa.out
  obtain ⟨K2, M2, hb⟩ := okL_of Hqb.out
  have HA := Lib.hid ha
  have HB := Lib.hid hb
  have hbk : bk = (K2 : Int) := hb.k
  have hbm : bm = (M2 : Int) := hb.m
  have hall : K2 &&& allN true = K2 := hb.all
  have l1 := hb.kl
  have l2 := hb.ml
  obtain ⟨R, hR⟩ : ∃ R, allN true ^^^ K2 = R := ⟨_, rfl⟩
  have lR : R < 536870912 := by rw [← hR]; exact free_lt l1
  have hfree := free_nat hall l1
  rw [hR, show ((allN true : Nat) : Int) = 536870911 from by decide] at hfree
  obtain ⟨P, hP⟩ : ∃ P, T &&& R = P := ⟨_, rfl⟩
  have lP : P < 536870912 := by rw [← hP]; exact Nat.and_lt_two_pow (n := 29) _ (by omega)
  have hand : bits .and .i64 (T : Int) (R : Int) = (P : Int) := by rw [and_nat (by omega) (by omega), hP]
  obtain ⟨Q, hQ⟩ : ∃ Q, M2 ||| P = Q := ⟨_, rfl⟩
  have lQ : Q < 4611686018427387904 := by have : M2 ||| P < 2 ^ 29 := Nat.or_lt_two_pow (by omega) (by omega); omega
  have hor : bits .or .i64 (M2 : Int) (P : Int) = (Q : Int) := by rw [or_nat (by omega) (by omega), hQ]
  obtain ⟨Q2, hQ2⟩ : ∃ Q, M2 ||| R = Q := ⟨_, rfl⟩
  have hor2 : bits .or .i64 (M2 : Int) (R : Int) = (Q2 : Int) := by rw [or_nat (by omega) (by omega), hQ2]
  have htk : takesV ⟨true, bk, bm⟩ true (Q : Int) = true := (takes_iff hb lQ).2 ⟨rfl, by rw [← hQ, ← hP, ← hR]; exact takes_free hb T⟩
  have hmiss : coversV a ⟨true, bk, bm⟩ = false → takesV a true (M2 : Int) = true → takesV a true (Q2 : Int) = false := fun h1 h2 => by rw [← hQ2, ← hR]; exact covers_miss ha hb h1 h2
  have HT := Lib.hid htk
  have HMi := Lib.hid hmiss
  have HQ := Lib.hid lQ
  clear htk hmiss hQ2 hQ hP hR hall l1 l2 lR lP lQ ha hb
  subst hbk hbm
  obtain ⟨ac0, ac1, ac2⟩ := cells3' ha3
  obtain ⟨bc0, bc1, bc2⟩ := cells3' hb3
  go_wp2_with fail
  clear ac0 ac1 ac2 bc0 bc1 bc2
  clear hfree hand hor
  refine (frame_any true Q w3).mono ?_
  rintro e w4 ⟨rfl, hB4⟩
  have hT4 := below_then hT3 hB4
  have ha4 := block_below hB4 ha3
  have hb4 := block_below hB4 hb3
  clear hT3 ha3 hb3  hB4
  obtain ⟨ac0, ac1, ac2⟩ := cells3' ha4
  obtain ⟨bc0, bc1, bc2⟩ := cells3' hb4
  have hla := (Array.getElem?_eq_some_iff.1 ha4).1
  have hlb := (Array.getElem?_eq_some_iff.1 hb4).1
  go_wp2_with fail
  clear ac0 ac1 ac2 bc0 bc1 bc2 hla hlb
  obtain ⟨w5, hw5⟩ : ∃ w5, w4.alloc (.cells #[.bool true, .int .i64 (Q : Int), .bool false, .int .i64 0, .slice none 0 0] 27) = w5 := ⟨_, rfl⟩
  have hB5 : Below w4.heap.size w4 w5 := by rw [← hw5]; exact below_alloc1 _ _
  have hx5 : HasF w5 w4.heap.size ⟨true, (Q : Int), false, 0, none, 0, 0⟩ := by rw [← hw5]; exact World.alloc_heap_new _ _
  rw [hw5]
  clear hw5
  have hT5 := below_then hT4 hB5
  have ha5 := block_below hB5 ha4
  have hb5 := block_below hB5 hb4
  clear hT4 ha4 hb4  hB5
  refine (takes_q ⟨true, (K2 : Int), (M2 : Int)⟩ ⟨true, (Q : Int), false, 0, none, 0, 0⟩ w5 true HT.out).mono ?_
  rintro e w6 ⟨rfl, hB6⟩
  have hT6 := below_then hT5 hB6
  have ha6 := block_below hB6 ha5
  have hb6 := block_below hB6 hb5
  have hx6 := block_below hB6 hx5
  clear hT5 ha5 hb5 hx5  hB6
  obtain ⟨ac0, ac1, ac2⟩ := cells3' ha6
  obtain ⟨bc0, bc1, bc2⟩ := cells3' hb6
  obtain ⟨xc0, xc1, xc2, xc3, xc4⟩ := cells5' hx6
  go_wp2_with fail
  clear ac0 ac1 ac2 bc0 bc1 bc2 xc0 xc1 xc2 xc3 xc4
  obtain ⟨c, hc⟩ : ∃ q, coversV a ⟨true, (K2 : Int), (M2 : Int)⟩ = q := ⟨_, rfl⟩
  have Hc := Lib.hid hc
  clear hc
  cases c
  · skip
    refine (covers_q a ⟨true, (K2 : Int), (M2 : Int)⟩ w6 false Hc.out).mono ?_
    rintro e w7 ⟨rfl, hB7⟩
    have hT7 := below_then hT6 hB7
    have ha7 := block_below hB7 ha6
    have hb7 := block_below hB7 hb6
    have hx7 := block_below hB7 hx6
    clear hT6 ha6 hb6 hx6  hB7
    obtain ⟨t, ht⟩ : ∃ q, takesV a true (M2 : Int) = q := ⟨_, rfl⟩
    have Ht := Lib.hid ht
    clear ht
    obtain ⟨ac0, ac1, ac2⟩ := cells3' ha7
    obtain ⟨bc0, bc1, bc2⟩ := cells3' hb7
    obtain ⟨xc0, xc1, xc2, xc3, xc4⟩ := cells5' hx7
    go_wp2_with fail
    clear ac0 ac1 ac2 bc0 bc1 bc2 xc0 xc1 xc2 xc3 xc4
    cases t
    · skip
      refine wp_region_held_drew (S := fun W => (W.cell? ⟨w.heap.size, 0, none⟩ = some (.bool a.x) ∧ W.cell? ⟨w.heap.size, 1, none⟩ = some (.int .i64 a.k) ∧ W.cell? ⟨w.heap.size, 2, none⟩ = some (.int .i64 a.m)) ∧ (W.cell? ⟨(w.heap.size + 1), 0, none⟩ = some (.bool true) ∧ W.cell? ⟨(w.heap.size + 1), 1, none⟩ = some (.int .i64 (K2 : Int)) ∧ W.cell? ⟨(w.heap.size + 1), 2, none⟩ = some (.int .i64 (M2 : Int)))) (by kernel_rfl) (by exact ⟨HasL.cl (f := ⟨a.x, a.k, a.m⟩) (block_below (below_drew1 _) ha7), HasL.cl (f := ⟨true, (K2 : Int), (M2 : Int)⟩) (block_below (below_drew1 _) hb7)⟩) (fun hHeld_ => ?_)
      refine wpAnyH_take' (i := 0) (v := ?v0_t7) 50 rfl rfl (by kernel_rfl) (by kernel_rfl) (by kernel_rfl) (fun _ _ _ h => h) (Or.inl ⟨by kernel_rfl, ?hy0_t7⟩) (by assumption) ?rest0_t7
      case hy0_t7 => (intro W_ hS_; (try dsimp only at hS_); go_simp; (try (with_reducible rfl)))
      try simp only [Act.put, List.setIfInBounds_toArray, List.set_cons_zero, List.set_cons_succ]
      refine wpAnyH_take' (i := 1) (v := ?v1_t7) 51 rfl rfl (by kernel_rfl) (by kernel_rfl) (by kernel_rfl) (fun _ _ _ h => h) (Or.inl ⟨by kernel_rfl, ?hy1_t7⟩) (by assumption) ?rest1_t7
      case hy1_t7 => (intro W_ hS_; (try dsimp only at hS_); go_simp; (try (with_reducible rfl)))
      try simp only [Act.put, List.setIfInBounds_toArray, List.set_cons_zero, List.set_cons_succ]
      refine wpAnyH_take' (i := 2) (v := ?v2_t7) 52 rfl rfl (by kernel_rfl) (by kernel_rfl) (by kernel_rfl) (fun _ _ _ h => h) (Or.inl ⟨by kernel_rfl, ?hy2_t7⟩) (by assumption) ?rest2_t7
      case hy2_t7 => (intro W_ hS_; (try dsimp only at hS_); go_simp; (try (with_reducible rfl)))
      try simp only [Act.put, List.setIfInBounds_toArray, List.set_cons_zero, List.set_cons_succ]
      refine wpAnyH_take' (i := 3) (v := ?v3_t7) 53 rfl rfl (by kernel_rfl) (by kernel_rfl) (by kernel_rfl) (fun _ _ _ h => h) (Or.inl ⟨by kernel_rfl, ?hy3_t7⟩) (by assumption) ?rest3_t7
      case hy3_t7 => (intro W_ hS_; (try dsimp only at hS_); go_simp; (try (with_reducible rfl)))
      try simp only [Act.put, List.setIfInBounds_toArray, List.set_cons_zero, List.set_cons_succ]
      refine wpAnyH_take' (i := 4) (v := ?v4_t7) 54 rfl rfl (by kernel_rfl) (by kernel_rfl) (by kernel_rfl) (fun _ _ _ h => h) (Or.inl ⟨by kernel_rfl, ?hy4_t7⟩) (by assumption) ?rest4_t7
      case hy4_t7 => (intro W_ hS_; (try dsimp only at hS_); go_simp; (try (with_reducible rfl)))
      try simp only [Act.put, List.setIfInBounds_toArray, List.set_cons_zero, List.set_cons_succ]
      refine wpAnyH_take' (i := 5) (v := ?v5_t7) 55 rfl rfl (by kernel_rfl) (by kernel_rfl) (by kernel_rfl) (fun _ _ _ h => h) (Or.inl ⟨by kernel_rfl, ?hy5_t7⟩) (by assumption) ?rest5_t7
      case hy5_t7 => (intro W_ hS_; (try dsimp only at hS_); go_simp; (try (with_reducible rfl)))
      try simp only [Act.put, List.setIfInBounds_toArray, List.set_cons_zero, List.set_cons_succ]
      refine wpAnyH_take' (i := 6) (v := ?v6_t7) 56 rfl rfl (by kernel_rfl) (by kernel_rfl) (by kernel_rfl) (fun _ _ _ h => h) (Or.inl ⟨by kernel_rfl, ?hy6_t7⟩) (by assumption) ?rest6_t7
      case hy6_t7 => (intro W_ hS_; (try dsimp only at hS_); go_simp; (try (with_reducible rfl)))
      try simp only [Act.put, List.setIfInBounds_toArray, List.set_cons_zero, List.set_cons_succ]
      refine wpAnyH_ready (rs := [7]) (by kernel_rfl) (by simp) ?_
      refine AllReadyH.cons rfl (fun K_ hK_ => ?_) AllReadyH.nil
      go_simp
      refine (frame_any true (M2 : Int) _).mono ?_; rintro e wr7 ⟨rfl, hBr7⟩
      go_wp2_with fail
      refine hK_.out _ _ (by exact ⟨HasL.cl (f := ⟨a.x, a.k, a.m⟩) (block_below hBr7 (block_below (below_drew1 _) ha7)), HasL.cl (f := ⟨true, (K2 : Int), (M2 : Int)⟩) (block_below hBr7 (block_below (below_drew1 _) hb7))⟩) (fun hHeld_7 => ?_)
      clear hK_
      try simp only [Act.put, List.setIfInBounds_toArray, List.set_cons_zero, List.set_cons_succ]
      refine wpAnyH_ready (rs := [8]) (by kernel_rfl) (by simp) ?_
      refine AllReadyH.cons rfl (fun K_ hK_ => ?_) AllReadyH.nil
      go_simp
      refine (takes_q a ⟨true, (M2 : Int), false, 0, none, 0, 0⟩ _ false Ht.out).mono ?_; rintro e wr8 ⟨rfl, hBr8⟩
      go_wp2_with fail
      refine hK_.out _ _ (by exact ⟨HasL.cl (f := ⟨a.x, a.k, a.m⟩) (block_below hBr8 (block_below hBr7 (block_below (below_drew1 _) ha7))), HasL.cl (f := ⟨true, (K2 : Int), (M2 : Int)⟩) (block_below hBr8 (block_below hBr7 (block_below (below_drew1 _) hb7)))⟩) (fun hHeld_8 => ?_)
      clear hK_
      try simp only [Act.put, List.setIfInBounds_toArray, List.set_cons_zero, List.set_cons_succ]
      refine wpAnyH_take' (i := 9) (v := ?v9_t7) 59 rfl rfl (by kernel_rfl) (by kernel_rfl) (by kernel_rfl) (fun _ _ _ h => h) (Or.inl ⟨by kernel_rfl, ?hy9_t7⟩) (by assumption) ?rest9_t7
      case hy9_t7 => (intro W_ hS_; (try dsimp only at hS_); go_simp; (try (with_reducible rfl)))
      try simp only [Act.put, List.setIfInBounds_toArray, List.set_cons_zero, List.set_cons_succ]
      refine wpAnyH_take' (i := 10) (v := ?v10_t7) 60 rfl rfl (by kernel_rfl) (by kernel_rfl) (by kernel_rfl) (fun _ _ _ h => h) (Or.inl ⟨by kernel_rfl, ?hy10_t7⟩) (by assumption) ?rest10_t7
      case hy10_t7 => (intro W_ hS_; (try dsimp only at hS_); go_simp; (try (with_reducible rfl)))
      try simp only [Act.put, List.setIfInBounds_toArray, List.set_cons_zero, List.set_cons_succ]
      refine wpAnyH_take' (i := 11) (v := undef) 61 rfl rfl (by kernel_rfl) (by kernel_rfl) (by kernel_rfl) (fun _ _ _ h => h) (Or.inr ⟨by kernel_rfl, rfl⟩) (by assumption) ?_
      try simp only [Act.put, List.setIfInBounds_toArray, List.set_cons_zero, List.set_cons_succ]
      refine wpAnyH_take' (i := 12) (v := undef) 62 rfl rfl (by kernel_rfl) (by kernel_rfl) (by kernel_rfl) (fun _ _ _ h => h) (Or.inr ⟨by kernel_rfl, rfl⟩) (by assumption) ?_
      try simp only [Act.put, List.setIfInBounds_toArray, List.set_cons_zero, List.set_cons_succ]
      refine wpAnyH_take' (i := 13) (v := undef) 63 rfl rfl (by kernel_rfl) (by kernel_rfl) (by kernel_rfl) (fun _ _ _ h => h) (Or.inr ⟨by kernel_rfl, rfl⟩) (by assumption) ?_
      try simp only [Act.put, List.setIfInBounds_toArray, List.set_cons_zero, List.set_cons_succ]
      refine wpAnyH_take' (i := 14) (v := undef) 64 rfl rfl (by kernel_rfl) (by kernel_rfl) (by kernel_rfl) (fun _ _ _ h => h) (Or.inr ⟨by kernel_rfl, rfl⟩) (by assumption) ?_
      try simp only [Act.put, List.setIfInBounds_toArray, List.set_cons_zero, List.set_cons_succ]
      refine wpAnyH_take' (i := 15) (v := undef) 65 rfl rfl (by kernel_rfl) (by kernel_rfl) (by kernel_rfl) (fun _ _ _ h => h) (Or.inr ⟨by kernel_rfl, rfl⟩) (by assumption) ?_
      try simp only [Act.put, List.setIfInBounds_toArray, List.set_cons_zero, List.set_cons_succ]
      refine wpAnyH_take' (i := 16) (v := undef) 66 rfl rfl (by kernel_rfl) (by kernel_rfl) (by kernel_rfl) (fun _ _ _ h => h) (Or.inr ⟨by kernel_rfl, rfl⟩) (by assumption) ?_
      try simp only [Act.put, List.setIfInBounds_toArray, List.set_cons_zero, List.set_cons_succ]
      refine wpAnyH_take' (i := 17) (v := undef) 67 rfl rfl (by kernel_rfl) (by kernel_rfl) (by kernel_rfl) (fun _ _ _ h => h) (Or.inr ⟨by kernel_rfl, rfl⟩) (by assumption) ?_
      try simp only [Act.put, List.setIfInBounds_toArray, List.set_cons_zero, List.set_cons_succ]
      refine wpAnyH_skip (i := 18) 68 rfl rfl (by kernel_rfl) (by kernel_rfl) (by assumption) ?_
      try simp only [Act.put, List.setIfInBounds_toArray, List.set_cons_zero, List.set_cons_succ]
      refine wpAnyH_skip (i := 19) 69 rfl rfl (by kernel_rfl) (by kernel_rfl) (by assumption) ?_
      try simp only [Act.put, List.setIfInBounds_toArray, List.set_cons_zero, List.set_cons_succ]
      refine wpAnyH_take' (i := 20) (v := undef) 70 rfl rfl (by kernel_rfl) (by kernel_rfl) (by kernel_rfl) (fun _ _ _ h => h) (Or.inr ⟨by kernel_rfl, rfl⟩) (by assumption) ?_
      try simp only [Act.put, List.setIfInBounds_toArray, List.set_cons_zero, List.set_cons_succ]
      refine wpAnyH_take' (i := 21) (v := ?v21_t7) 71 rfl rfl (by kernel_rfl) (by kernel_rfl) (by kernel_rfl) (fun _ _ _ h => h) (Or.inl ⟨by kernel_rfl, ?hy21_t7⟩) (by assumption) ?rest21_t7
      case hy21_t7 => (intro W_ hS_; (try dsimp only at hS_); go_simp; (try (with_reducible rfl)))
      try simp only [Act.put, List.setIfInBounds_toArray, List.set_cons_zero, List.set_cons_succ]
      refine wpAnyH_take' (i := 22) (v := ?v22_t7) 72 rfl rfl (by kernel_rfl) (by kernel_rfl) (by kernel_rfl) (fun _ _ _ h => h) (Or.inl ⟨by kernel_rfl, ?hy22_t7⟩) (by assumption) ?rest22_t7
      case hy22_t7 => (intro W_ hS_; (try dsimp only at hS_); go_simp; (try (with_reducible rfl)))
      try simp only [Act.put, List.setIfInBounds_toArray, List.set_cons_zero, List.set_cons_succ]
      refine wpAnyH_take' (i := 23) (v := ?v23_t7) 6 rfl rfl (by kernel_rfl) (by kernel_rfl) (by kernel_rfl) (fun _ _ _ h => h) (Or.inl ⟨by kernel_rfl, ?hy23_t7⟩) (by assumption) ?rest23_t7
      case hy23_t7 => (intro W_ hS_; (try dsimp only at hS_); go_simp; (try (with_reducible rfl)))
      try simp only [Act.put, List.setIfInBounds_toArray, List.set_cons_zero, List.set_cons_succ]
      refine wpAnyH_done (by kernel_rfl) ?_ _
      go_wp2_with fail
      go_ret
      exact ⟨rfl, below_then hT7 (below_then (below_then (below_drew1 _) hBr7) hBr8)⟩
    · skip
      refine wp_region_held_drew (S := fun W => (W.cell? ⟨w.heap.size, 0, none⟩ = some (.bool a.x) ∧ W.cell? ⟨w.heap.size, 1, none⟩ = some (.int .i64 a.k) ∧ W.cell? ⟨w.heap.size, 2, none⟩ = some (.int .i64 a.m)) ∧ (W.cell? ⟨(w.heap.size + 1), 0, none⟩ = some (.bool true) ∧ W.cell? ⟨(w.heap.size + 1), 1, none⟩ = some (.int .i64 (K2 : Int)) ∧ W.cell? ⟨(w.heap.size + 1), 2, none⟩ = some (.int .i64 (M2 : Int)))) (by kernel_rfl) (by exact ⟨HasL.cl (f := ⟨a.x, a.k, a.m⟩) (block_below (below_drew1 _) ha7), HasL.cl (f := ⟨true, (K2 : Int), (M2 : Int)⟩) (block_below (below_drew1 _) hb7)⟩) (fun hHeld_ => ?_)
      refine wpAnyH_take' (i := 0) (v := ?v0_t8) 50 rfl rfl (by kernel_rfl) (by kernel_rfl) (by kernel_rfl) (fun _ _ _ h => h) (Or.inl ⟨by kernel_rfl, ?hy0_t8⟩) (by assumption) ?rest0_t8
      case hy0_t8 => (intro W_ hS_; (try dsimp only at hS_); go_simp; (try (with_reducible rfl)))
      try simp only [Act.put, List.setIfInBounds_toArray, List.set_cons_zero, List.set_cons_succ]
      refine wpAnyH_take' (i := 1) (v := ?v1_t8) 51 rfl rfl (by kernel_rfl) (by kernel_rfl) (by kernel_rfl) (fun _ _ _ h => h) (Or.inl ⟨by kernel_rfl, ?hy1_t8⟩) (by assumption) ?rest1_t8
      case hy1_t8 => (intro W_ hS_; (try dsimp only at hS_); go_simp; (try (with_reducible rfl)))
      try simp only [Act.put, List.setIfInBounds_toArray, List.set_cons_zero, List.set_cons_succ]
      refine wpAnyH_take' (i := 2) (v := ?v2_t8) 52 rfl rfl (by kernel_rfl) (by kernel_rfl) (by kernel_rfl) (fun _ _ _ h => h) (Or.inl ⟨by kernel_rfl, ?hy2_t8⟩) (by assumption) ?rest2_t8
      case hy2_t8 => (intro W_ hS_; (try dsimp only at hS_); go_simp; (try (with_reducible rfl)))
      try simp only [Act.put, List.setIfInBounds_toArray, List.set_cons_zero, List.set_cons_succ]
      refine wpAnyH_take' (i := 3) (v := ?v3_t8) 53 rfl rfl (by kernel_rfl) (by kernel_rfl) (by kernel_rfl) (fun _ _ _ h => h) (Or.inl ⟨by kernel_rfl, ?hy3_t8⟩) (by assumption) ?rest3_t8
      case hy3_t8 => (intro W_ hS_; (try dsimp only at hS_); go_simp; (try (with_reducible rfl)))
      try simp only [Act.put, List.setIfInBounds_toArray, List.set_cons_zero, List.set_cons_succ]
      refine wpAnyH_take' (i := 4) (v := ?v4_t8) 54 rfl rfl (by kernel_rfl) (by kernel_rfl) (by kernel_rfl) (fun _ _ _ h => h) (Or.inl ⟨by kernel_rfl, ?hy4_t8⟩) (by assumption) ?rest4_t8
      case hy4_t8 => (intro W_ hS_; (try dsimp only at hS_); go_simp; (try (with_reducible rfl)))
      try simp only [Act.put, List.setIfInBounds_toArray, List.set_cons_zero, List.set_cons_succ]
      refine wpAnyH_take' (i := 5) (v := ?v5_t8) 55 rfl rfl (by kernel_rfl) (by kernel_rfl) (by kernel_rfl) (fun _ _ _ h => h) (Or.inl ⟨by kernel_rfl, ?hy5_t8⟩) (by assumption) ?rest5_t8
      case hy5_t8 => (intro W_ hS_; (try dsimp only at hS_); go_simp; (try (with_reducible rfl)))
      try simp only [Act.put, List.setIfInBounds_toArray, List.set_cons_zero, List.set_cons_succ]
      refine wpAnyH_take' (i := 6) (v := ?v6_t8) 56 rfl rfl (by kernel_rfl) (by kernel_rfl) (by kernel_rfl) (fun _ _ _ h => h) (Or.inl ⟨by kernel_rfl, ?hy6_t8⟩) (by assumption) ?rest6_t8
      case hy6_t8 => (intro W_ hS_; (try dsimp only at hS_); go_simp; (try (with_reducible rfl)))
      try simp only [Act.put, List.setIfInBounds_toArray, List.set_cons_zero, List.set_cons_succ]
      refine wpAnyH_ready (rs := [7]) (by kernel_rfl) (by simp) ?_
      refine AllReadyH.cons rfl (fun K_ hK_ => ?_) AllReadyH.nil
      go_simp
      refine (frame_any true (M2 : Int) _).mono ?_; rintro e wr7 ⟨rfl, hBr7⟩
      go_wp2_with fail
      refine hK_.out _ _ (by exact ⟨HasL.cl (f := ⟨a.x, a.k, a.m⟩) (block_below hBr7 (block_below (below_drew1 _) ha7)), HasL.cl (f := ⟨true, (K2 : Int), (M2 : Int)⟩) (block_below hBr7 (block_below (below_drew1 _) hb7))⟩) (fun hHeld_7 => ?_)
      clear hK_
      try simp only [Act.put, List.setIfInBounds_toArray, List.set_cons_zero, List.set_cons_succ]
      refine wpAnyH_ready (rs := [8]) (by kernel_rfl) (by simp) ?_
      refine AllReadyH.cons rfl (fun K_ hK_ => ?_) AllReadyH.nil
      go_simp
      refine (takes_q a ⟨true, (M2 : Int), false, 0, none, 0, 0⟩ _ true Ht.out).mono ?_; rintro e wr8 ⟨rfl, hBr8⟩
      go_wp2_with fail
      refine hK_.out _ _ (by exact ⟨HasL.cl (f := ⟨a.x, a.k, a.m⟩) (block_below hBr8 (block_below hBr7 (block_below (below_drew1 _) ha7))), HasL.cl (f := ⟨true, (K2 : Int), (M2 : Int)⟩) (block_below hBr8 (block_below hBr7 (block_below (below_drew1 _) hb7)))⟩) (fun hHeld_8 => ?_)
      clear hK_
      try simp only [Act.put, List.setIfInBounds_toArray, List.set_cons_zero, List.set_cons_succ]
      refine wpAnyH_take' (i := 9) (v := ?v9_t8) 59 rfl rfl (by kernel_rfl) (by kernel_rfl) (by kernel_rfl) (fun _ _ _ h => h) (Or.inl ⟨by kernel_rfl, ?hy9_t8⟩) (by assumption) ?rest9_t8
      case hy9_t8 => (intro W_ hS_; (try dsimp only at hS_); go_simp; (try (with_reducible rfl)))
      try simp only [Act.put, List.setIfInBounds_toArray, List.set_cons_zero, List.set_cons_succ]
      refine wpAnyH_take' (i := 10) (v := ?v10_t8) 60 rfl rfl (by kernel_rfl) (by kernel_rfl) (by kernel_rfl) (fun _ _ _ h => h) (Or.inl ⟨by kernel_rfl, ?hy10_t8⟩) (by assumption) ?rest10_t8
      case hy10_t8 => (intro W_ hS_; (try dsimp only at hS_); go_simp; (try (with_reducible rfl)))
      try simp only [Act.put, List.setIfInBounds_toArray, List.set_cons_zero, List.set_cons_succ]
      refine wpAnyH_take' (i := 11) (v := ?v11_t8) 61 rfl rfl (by kernel_rfl) (by kernel_rfl) (by kernel_rfl) (fun _ _ _ h => h) (Or.inl ⟨by kernel_rfl, ?hy11_t8⟩) (by assumption) ?rest11_t8
      case hy11_t8 => (intro W_ hS_; (try dsimp only at hS_); go_simp; (try (with_reducible rfl)))
      try simp only [Act.put, List.setIfInBounds_toArray, List.set_cons_zero, List.set_cons_succ]
      refine wpAnyH_take' (i := 12) (v := ?v12_t8) 62 rfl rfl (by kernel_rfl) (by kernel_rfl) (by kernel_rfl) (fun _ _ _ h => h) (Or.inl ⟨by kernel_rfl, ?hy12_t8⟩) (by assumption) ?rest12_t8
      case hy12_t8 => (intro W_ hS_; (try dsimp only at hS_); go_simp; (try (with_reducible rfl)))
      try simp only [Act.put, List.setIfInBounds_toArray, List.set_cons_zero, List.set_cons_succ]
      refine wpAnyH_take' (i := 13) (v := ?v13_t8) 63 rfl rfl (by kernel_rfl) (by kernel_rfl) (by kernel_rfl) (fun _ _ _ h => h) (Or.inl ⟨by kernel_rfl, ?hy13_t8⟩) (by assumption) ?rest13_t8
      case hy13_t8 => (intro W_ hS_; (try dsimp only at hS_); go_simp; (try (with_reducible rfl)))
      try simp only [Act.put, List.setIfInBounds_toArray, List.set_cons_zero, List.set_cons_succ]
      refine wpAnyH_take' (i := 14) (v := ?v14_t8) 64 rfl rfl (by kernel_rfl) (by kernel_rfl) (by kernel_rfl) (fun _ _ _ h => h) (Or.inl ⟨by kernel_rfl, ?hy14_t8⟩) (by assumption) ?rest14_t8
      case hy14_t8 => (intro W_ hS_; (try dsimp only at hS_); go_simp; (try (with_reducible rfl)))
      try simp only [Act.put, List.setIfInBounds_toArray, List.set_cons_zero, List.set_cons_succ]
      refine wpAnyH_take' (i := 15) (v := ?v15_t8) 65 rfl rfl (by kernel_rfl) (by kernel_rfl) (by kernel_rfl) (fun _ _ _ h => h) (Or.inl ⟨by kernel_rfl, ?hy15_t8⟩) (by assumption) ?rest15_t8
      case hy15_t8 => (intro W_ hS_; (try dsimp only at hS_); go_simp; (try (with_reducible rfl)))
      try simp only [Act.put, List.setIfInBounds_toArray, List.set_cons_zero, List.set_cons_succ]
      refine wpAnyH_take' (i := 16) (v := ?v16_t8) 66 rfl rfl (by kernel_rfl) (by kernel_rfl) (by kernel_rfl) (fun _ _ _ h => h) (Or.inl ⟨by kernel_rfl, ?hy16_t8⟩) (by assumption) ?rest16_t8
      case hy16_t8 => (intro W_ hS_; (try dsimp only at hS_); go_simp; (try (with_reducible rfl)))
      try simp only [Act.put, List.setIfInBounds_toArray, List.set_cons_zero, List.set_cons_succ]
      refine wpAnyH_take' (i := 17) (v := ?v17_t8) 67 rfl rfl (by kernel_rfl) (by kernel_rfl) (by kernel_rfl) (fun _ _ _ h => h) (Or.inl ⟨by kernel_rfl, ?hy17_t8⟩) (by assumption) ?rest17_t8
      case hy17_t8 => (intro W_ hS_; (try dsimp only at hS_); go_simp; (try (with_reducible rfl)))
      try simp only [Act.put, List.setIfInBounds_toArray, List.set_cons_zero, List.set_cons_succ]
      refine wpAnyH_ready (rs := [18]) (by kernel_rfl) (by simp) ?_
      refine AllReadyH.cons rfl (fun K_ hK_ => ?_) AllReadyH.nil
      go_simp
      refine (frame_any true (Q2 : Int) _).mono ?_; rintro e wr18 ⟨rfl, hBr18⟩
      go_wp2_with fail
      refine hK_.out _ _ (by exact ⟨HasL.cl (f := ⟨a.x, a.k, a.m⟩) (block_below hBr18 (block_below hBr8 (block_below hBr7 (block_below (below_drew1 _) ha7)))), HasL.cl (f := ⟨true, (K2 : Int), (M2 : Int)⟩) (block_below hBr18 (block_below hBr8 (block_below hBr7 (block_below (below_drew1 _) hb7))))⟩) (fun hHeld_18 => ?_)
      clear hK_
      try simp only [Act.put, List.setIfInBounds_toArray, List.set_cons_zero, List.set_cons_succ]
      refine wpAnyH_ready (rs := [19]) (by kernel_rfl) (by simp) ?_
      refine AllReadyH.cons rfl (fun K_ hK_ => ?_) AllReadyH.nil
      go_simp
      refine (takes_q a ⟨true, (Q2 : Int), false, 0, none, 0, 0⟩ _ false (HMi.out Hc.out Ht.out)).mono ?_; rintro e wr19 ⟨rfl, hBr19⟩
      go_wp2_with fail
      refine hK_.out _ _ (by exact ⟨HasL.cl (f := ⟨a.x, a.k, a.m⟩) (block_below hBr19 (block_below hBr18 (block_below hBr8 (block_below hBr7 (block_below (below_drew1 _) ha7))))), HasL.cl (f := ⟨true, (K2 : Int), (M2 : Int)⟩) (block_below hBr19 (block_below hBr18 (block_below hBr8 (block_below hBr7 (block_below (below_drew1 _) hb7)))))⟩) (fun hHeld_19 => ?_)
      clear hK_
      try simp only [Act.put, List.setIfInBounds_toArray, List.set_cons_zero, List.set_cons_succ]
      refine wpAnyH_take' (i := 20) (v := ?v20_t8) 70 rfl rfl (by kernel_rfl) (by kernel_rfl) (by kernel_rfl) (fun _ _ _ h => h) (Or.inl ⟨by kernel_rfl, ?hy20_t8⟩) (by assumption) ?rest20_t8
      case hy20_t8 => (intro W_ hS_; (try dsimp only at hS_); go_simp; (try (with_reducible rfl)))
      try simp only [Act.put, List.setIfInBounds_toArray, List.set_cons_zero, List.set_cons_succ]
      refine wpAnyH_take' (i := 21) (v := ?v21_t8) 71 rfl rfl (by kernel_rfl) (by kernel_rfl) (by kernel_rfl) (fun _ _ _ h => h) (Or.inl ⟨by kernel_rfl, ?hy21_t8⟩) (by assumption) ?rest21_t8
      case hy21_t8 => (intro W_ hS_; (try dsimp only at hS_); go_simp; (try (with_reducible rfl)))
      try simp only [Act.put, List.setIfInBounds_toArray, List.set_cons_zero, List.set_cons_succ]
      refine wpAnyH_take' (i := 22) (v := ?v22_t8) 72 rfl rfl (by kernel_rfl) (by kernel_rfl) (by kernel_rfl) (fun _ _ _ h => h) (Or.inl ⟨by kernel_rfl, ?hy22_t8⟩) (by assumption) ?rest22_t8
      case hy22_t8 => (intro W_ hS_; (try dsimp only at hS_); go_simp; (try (with_reducible rfl)))
      try simp only [Act.put, List.setIfInBounds_toArray, List.set_cons_zero, List.set_cons_succ]
      refine wpAnyH_take' (i := 23) (v := ?v23_t8) 6 rfl rfl (by kernel_rfl) (by kernel_rfl) (by kernel_rfl) (fun _ _ _ h => h) (Or.inl ⟨by kernel_rfl, ?hy23_t8⟩) (by assumption) ?rest23_t8
      case hy23_t8 => (intro W_ hS_; (try dsimp only at hS_); go_simp; (try (with_reducible rfl)))
      try simp only [Act.put, List.setIfInBounds_toArray, List.set_cons_zero, List.set_cons_succ]
      refine wpAnyH_done (by kernel_rfl) ?_ _
      go_wp2_with fail
      go_ret
      exact ⟨rfl, below_then hT7 (below_then (below_then (below_then (below_then (below_drew1 _) hBr7) hBr8) hBr18) hBr19)⟩
  · skip
    refine (covers_q a ⟨true, (K2 : Int), (M2 : Int)⟩ w6 true Hc.out).mono ?_
    rintro e w7 ⟨rfl, hB7⟩
    have hT7 := below_then hT6 hB7
    have ha7 := block_below hB7 ha6
    have hb7 := block_below hB7 hb6
    have hx7 := block_below hB7 hx6
    clear hT6 ha6 hb6 hx6  hB7
    obtain ⟨ac0, ac1, ac2⟩ := cells3' ha7
    obtain ⟨bc0, bc1, bc2⟩ := cells3' hb7
    obtain ⟨xc0, xc1, xc2, xc3, xc4⟩ := cells5' hx7
    go_wp2_with fail
    clear ac0 ac1 ac2 bc0 bc1 bc2 xc0 xc1 xc2 xc3 xc4
    refine (takes_q a ⟨true, (Q : Int), false, 0, none, 0, 0⟩ w7 true (covers_takes HA.out HB.out Hc.out HQ.out HT.out)).mono ?_
    rintro e w8 ⟨rfl, hB8⟩
    have hT8 := below_then hT7 hB8
    have ha8 := block_below hB8 ha7
    have hb8 := block_below hB8 hb7
    have hx8 := block_below hB8 hx7
    clear hT7 ha7 hb7 hx7  hB8
    obtain ⟨ac0, ac1, ac2⟩ := cells3' ha8
    obtain ⟨bc0, bc1, bc2⟩ := cells3' hb8
    obtain ⟨xc0, xc1, xc2, xc3, xc4⟩ := cells5' hx8
    go_wp2_with fail
    go_ret
    exact ⟨rfl, hT8⟩

theorem filterCovers_any (a b : FL) (T : Nat) (hT : T < 4294967296) (w : World) :
    Calls Try.prog 4 #[a.v, b.v, .int .u32 T] w fun e w' => e = .returned (.bool true) ∧ Below w.heap.size w w' := by
  obtain ⟨x, k, m⟩ := b
  cases x
  · exact filterCovers_false a k m T hT w
  · exact filterCovers_true a k m T hT w

end Go.Proofs.Ytmffflckcpgjiaa
