/-
  The live question of layer 4.
-/
import Derived.Test.YtmapkjjglhpamaaFrHead
import Derived.Test.YtmapkjjglhpamaaRead
namespace Go.Proofs.Ytmapkjjglhpamaa
open Go.RowKit

abbrev H1 : List Int := [0, 0, 0, 0, 0, 0, 0, 0, 0, 0, 0, 1, 0, 0, 0, 0, 0, 0, 1, 1, 0, 0, 0, 0, 0, 0, 0]
abbrev H2 : List Int := [0, 0, 0, 0, 0, 0, 0, 0, 0, 0, 0, 1, 0, 0, 0, 0, 0, 0, 1]
theorem h1_is : [0] ++ (rankS 1 false ++ ([0] ++ (bitRow 1 4 4 ++ spreadL [128]))) = H1 := by decide
theorem h1_read : readL (H1 ++ [1, 1]) = .ok (⟨false, 1, false, 1, [128]⟩, 27) := by kernel_rfl
theorem h1_cut : readL (H1.take 20) = .error 40 := by kernel_rfl
theorem h1_one : readL [1] = .error 42 := by kernel_rfl

theorem cells10 {w : World} {F G : Nat} {a b c d e a' b' c' d' e' : Value} {t t' : TypeId} (h : w.heap[F]? = some (.cells #[a, b, c, d, e] t)) (h' : w.heap[G]? = some (.cells #[a', b', c', d', e'] t')) :
    w.cell? ⟨F, 0, none⟩ = some a ∧ w.cell? ⟨F, 1, none⟩ = some b ∧ w.cell? ⟨F, 2, none⟩ = some c ∧ w.cell? ⟨F, 3, none⟩ = some d ∧ w.cell? ⟨F, 4, none⟩ = some e ∧
    w.cell? ⟨G, 0, none⟩ = some a' ∧ w.cell? ⟨G, 1, none⟩ = some b' ∧ w.cell? ⟨G, 2, none⟩ = some c' ∧ w.cell? ⟨G, 3, none⟩ = some d' ∧ w.cell? ⟨G, 4, none⟩ = some e' := by
  obtain ⟨⟨h0, h1, h2, h3, h4⟩, _⟩ := cells5 h
  exact ⟨h0, h1, h2, h3, h4, cells5' h'⟩
theorem byte_128 : byteB [128] := by unfold byteB; decide
theorem byte_nil : byteB [] := by simp [byteB]

theorem litH2 (W : World) (t : TypeId) {k : Nat} (hk : k = W.heap.size) : Row .i64 (W.alloc (.cells #[.int .i64 0, .int .i64 0, .int .i64 0, .int .i64 0, .int .i64 0, .int .i64 0, .int .i64 0, .int .i64 0, .int .i64 0, .int .i64 0, .int .i64 0, .int .i64 1, .int .i64 0, .int .i64 0, .int .i64 0, .int .i64 0, .int .i64 0, .int .i64 0, .int .i64 1] t)) (W.alloc (.cells #[.int .i64 0, .int .i64 0, .int .i64 0, .int .i64 0, .int .i64 0, .int .i64 0, .int .i64 0, .int .i64 0, .int .i64 0, .int .i64 0, .int .i64 0, .int .i64 1, .int .i64 0, .int .i64 0, .int .i64 0, .int .i64 0, .int .i64 0, .int .i64 0, .int .i64 1] t)).heap.size (some ⟨k, 0, none⟩) H2 := by
  subst hk
  have := Row.lit W .i64 H2 t (cs := #[.int .i64 0, .int .i64 0, .int .i64 0, .int .i64 0, .int .i64 0, .int .i64 0, .int .i64 0, .int .i64 0, .int .i64 0, .int .i64 0, .int .i64 0, .int .i64 1, .int .i64 0, .int .i64 0, .int .i64 0, .int .i64 0, .int .i64 0, .int .i64 0, .int .i64 1]) rfl
  simpa using this
theorem same_q (a b : List Int) (n m : Nat) (hn : a.length = n) (hm : b.length = m) (A A' : Option Addr) (c c' : Nat) (w : World) (h : Row .i64 w w.heap.size A a) (h' : Row .i64 w w.heap.size A' b) (hl : n ≤ maxLen) (q : Bool) (hq : sameB a b = q) :
    Calls Try.prog 14 #[.slice A n c, .slice A' m c'] w fun e w' => e = .returned (.bool q) ∧ Below w.heap.size w w' := by
  subst hq
  refine (same_at a b n m hn hm A A' c c' _ _ w h h' hl).mono ?_
  rintro e w' ⟨rfl, k, rfl⟩
  exact ⟨rfl, below_drewN0 _ _⟩
theorem frRight_q (x : Bool) (i : Int) (r : Bool) (n : Int) (A : Option Addr) (m c : Nat) (w : World) (q : Bool) (hq : rightV x i r n m = q) :
    Calls Try.prog 27 #[.agg #[.bool x, .int .i64 i, .bool r, .int .i64 n, .slice A m c]] w fun e w' => e = .returned (.bool q) ∧ Below w.heap.size w w' := by
  subst hq; exact frRight_at x i r n A m c w
theorem refFrRight_q (x : Bool) (i : Int) (r : Bool) (n : Int) (A : Option Addr) (m c : Nat) (w : World) (q : Bool) (hq : rightV x i r n m = q) :
    Calls Try.prog 13 #[.agg #[.bool x, .int .i64 i, .bool r, .int .i64 n, .slice A m c]] w fun e w' => e = .returned (.bool q) ∧ Below w.heap.size w w' := by
  subst hq; exact refFrRight_at x i r n A m c w
theorem great_q (x : Bool) (i : Int) (r : Bool) (n : Int) (A : Option Addr) (m c : Nat) (w : World) (q : Bool) (hq : decide (100 < m) = q) :
    Calls Try.prog 12 #[.agg #[.bool x, .int .i64 i, .bool r, .int .i64 n, .slice A m c]] w fun e w' => e = .returned (.bool q) ∧ Below w.heap.size w w' := by
  subst hq; exact great_at x i r n A m c w

set_option maxRecDepth 100000 in
set_option maxHeartbeats 4000000 in
theorem head_any (w : World) : Calls Try.prog 26 #[] w fun e w' => e = .returned (.bool true) ∧ Below w.heap.size w w' := by
  obtain ⟨i0, hi, hz0, hz1, hz2⟩ := info_parts Try.infoInt
  go_enter Try.func26, Try.ntmps26
  go_wp2_with fail
  refine (one_at w).mono ?_
  rintro e w1 ⟨A1, rfl, hr1, hB1⟩
  go_wp2_with fail
  refine (headS_at 1 false 1 [128] 1 rfl A1 1 (by omega) (by omega) w1 hr1 byte_128 (by omega) 8 rfl 27 rfl).mono ?_
  rintro e w2 ⟨A2, c2, rfl, hr2, hc2, hB2⟩
  rw [h1_is] at hr2
  have o3 := own_lit w2 .i64 [] 0 rfl 3 (cs := #[]) rfl (by decide)
  have r3 := hr2.to (below_alloc1 w2 (.cells #[] 3))
  go_wp2_with (first
    | (at_builtin; have hq_ := hown4; clear hq_; refine wpList_append_row _ .i64 rfl _ _ 25 rfl w2.heap.size 3 i0 (.int .i64 0) 8 Try.underlying25 hi hz0 hz1 hz2 rfl _ 27 H1 rfl own4 _ 2 2 _ [1, 1] rfl rfl l4 (by decide) (by decide) (by simp; omega) ?_; intro A5 c5 w5 hown5 hc5 hB5)
    | (at_builtin; refine wpList_append_row _ .i64 rfl _ _ 25 rfl w2.heap.size 3 i0 (.int .i64 0) 8 Try.underlying25 hi hz0 hz1 hz2 rfl _ 0 [] rfl o3 A2 27 c2 _ H1 rfl rfl r3 (by decide) (by decide) (by simp) ?_; intro A4 c4 w4 hown4 hc4 hB4; have hs4 := hB4.size; rw [World.size_alloc] at hs4; have l4 := lit2 w4 .i64 1 1 3 rfl; have own4 := own_to hown4 (below_alloc1 w4 (.cells #[.int .i64 1, .int .i64 1] 3))))
  have hB5' : Below w2.heap.size w2 w5 := (((below_alloc1 w2 _).trans hB4).trans ((below_alloc1 w4 _).mono (by omega))).trans hB5
  have hr5 := Row.own hown5
  clear o3 r3 hown4 hc4 hB4 hs4 l4 own4 hown5 hc5 hB5
  refine (read_any (H1 ++ [1, 1]) 29 rfl A5 c5 w5 hr5 (by decide) (by omega)).mono ?_
  rw [h1_read]
  rintro e w6 ⟨A6, m6, c6, rfl, hm6, hc6, hr6, hB6⟩
  obtain rfl : m6 = 1 := hm6.symm
  clear hr5 hm6
  have d20 : ¬ (27 : Int) < 20 := by decide
  go_wp2_with fail
  obtain ⟨w7, hw7⟩ : ∃ w7, w6.alloc (.cells #[.bool false, .int .i64 1, .bool false, .int .i64 1, .slice A6 1 c6] 24) = w7 := ⟨_, rfl⟩
  have hF7 : w7.heap[w6.heap.size]? = some (.cells #[.bool false, .int .i64 1, .bool false, .int .i64 1, .slice A6 1 c6] 24) := by rw [← hw7]; exact World.alloc_heap_new _ _
  have hB7 := below_lits hw7
  rw [hw7]
  clear hw7
  have hr7 : Row .i64 w7 w7.heap.size A2 (H1.take 20) := (show Row .i64 w7 w7.heap.size A2 H1 by repeat (first | assumption | exact Below.refl _ _ | ((with_reducible refine lit2 _ _ _ _ _ ?_); (first | (with_reducible rfl) | (simp; done))) | ((with_reducible refine lit1 _ _ _ _ ?_); (first | (with_reducible rfl) | (simp; done))) | refine row_step (by first | assumption | exact below_alloc1 _ _ | exact below_drew1 _ | exact below_drewN0 _ _) ?_ | refine block_below (by first | assumption | exact below_alloc1 _ _ | exact below_drew1 _ | exact below_drewN0 _ _) ?_ | refine below_then ?_ (by first | assumption | exact below_alloc1 _ _ | exact below_drew1 _ | exact below_drewN0 _ _))).sub_ 0 20 (by omega) (by decide) (fun _ => by cases A2 <;> rfl)
  refine (read_any (H1.take 20) 20 rfl A2 c2 w7 hr7 (by decide) (by omega)).mono ?_
  rw [h1_cut]
  rintro e w8 ⟨rfl, hB8⟩
  clear hr7
  go_wp2_with fail
  obtain ⟨w9, hw9⟩ : ∃ w9, w8.alloc (.cells #[.bool false, .int .i64 0, .bool false, .int .i64 0, .slice none 0 0] 24) = w9 := ⟨_, rfl⟩
  have hB9 := below_lits hw9
  have hz9 : w8.heap.size + 1 = w9.heap.size := by rw [← hw9]; simp
  rw [hw9, hz9]
  clear hw9 hz9
  have hr9 := lit1 w9 .i64 1 3 rfl
  refine (read_any [1] 1 rfl _ 1 _ hr9 (by decide) (by omega)).mono ?_
  rw [h1_one]
  rintro e w10 ⟨rfl, hB10⟩
  clear hr9
  replace hB10 := below_lit hB10
  go_wp2_with fail
  obtain ⟨w11, hw11⟩ : ∃ w11, (w10.alloc (.cells #[.bool false, .int .i64 0, .bool false, .int .i64 0, .slice none 0 0] 24)).alloc (.cells #[.bool true, .int .i64 262144, .bool true, .int .i64 3, .slice none 0 0] 24) = w11 := ⟨_, rfl⟩
  have hX11 : w11.heap[w10.heap.size + 1]? = some (.cells #[.bool true, .int .i64 262144, .bool true, .int .i64 3, .slice none 0 0] 24) := by
    rw [← hw11]
    have := World.alloc_heap_new (w10.alloc (.cells #[.bool false, .int .i64 0, .bool false, .int .i64 0, .slice none 0 0] 24)) (.cells #[.bool true, .int .i64 262144, .bool true, .int .i64 3, .slice none 0 0] 24)
    simpa using this
  have hB11 : Below w10.heap.size w10 w11 := by rw [← hw11]; exact below_then (below_alloc1 _ _) (below_alloc1 _ _)
  rw [hw11]
  clear hw11
  have hF11 : w11.heap[w6.heap.size]? = some (.cells #[.bool false, .int .i64 1, .bool false, .int .i64 1, .slice A6 1 c6] 24) := by repeat (first | assumption | exact Below.refl _ _ | ((with_reducible refine lit2 _ _ _ _ _ ?_); (first | (with_reducible rfl) | (simp; done))) | ((with_reducible refine lit1 _ _ _ _ ?_); (first | (with_reducible rfl) | (simp; done))) | refine row_step (by first | assumption | exact below_alloc1 _ _ | exact below_drew1 _ | exact below_drewN0 _ _) ?_ | refine block_below (by first | assumption | exact below_alloc1 _ _ | exact below_drew1 _ | exact below_drewN0 _ _) ?_ | refine below_then ?_ (by first | assumption | exact below_alloc1 _ _ | exact below_drew1 _ | exact below_drewN0 _ _))
  have hr11 : Row .i64 w11 w11.heap.size A2 H2 := (show Row .i64 w11 w11.heap.size A2 H1 by repeat (first | assumption | exact Below.refl _ _ | ((with_reducible refine lit2 _ _ _ _ _ ?_); (first | (with_reducible rfl) | (simp; done))) | ((with_reducible refine lit1 _ _ _ _ ?_); (first | (with_reducible rfl) | (simp; done))) | refine row_step (by first | assumption | exact below_alloc1 _ _ | exact below_drew1 _ | exact below_drewN0 _ _) ?_ | refine block_below (by first | assumption | exact below_alloc1 _ _ | exact below_drew1 _ | exact below_drewN0 _ _) ?_ | refine below_then ?_ (by first | assumption | exact below_alloc1 _ _ | exact below_drew1 _ | exact below_drewN0 _ _))).sub_ 0 19 (by omega) (by decide) (fun _ => by cases A2 <;> rfl)
  have hd11 : Row .u8 w11 w11.heap.size A6 [128] := by repeat (first | assumption | exact Below.refl _ _ | ((with_reducible refine lit2 _ _ _ _ _ ?_); (first | (with_reducible rfl) | (simp; done))) | ((with_reducible refine lit1 _ _ _ _ ?_); (first | (with_reducible rfl) | (simp; done))) | refine row_step (by first | assumption | exact below_alloc1 _ _ | exact below_drew1 _ | exact below_drewN0 _ _) ?_ | refine block_below (by first | assumption | exact below_alloc1 _ _ | exact below_drew1 _ | exact below_drewN0 _ _) ?_ | refine below_then ?_ (by first | assumption | exact below_alloc1 _ _ | exact below_drew1 _ | exact below_drewN0 _ _))
  have hall : Below w.heap.size w w11 := by repeat (first | assumption | exact Below.refl _ _ | ((with_reducible refine lit2 _ _ _ _ _ ?_); (first | (with_reducible rfl) | (simp; done))) | ((with_reducible refine lit1 _ _ _ _ ?_); (first | (with_reducible rfl) | (simp; done))) | refine row_step (by first | assumption | exact below_alloc1 _ _ | exact below_drew1 _ | exact below_drewN0 _ _) ?_ | refine block_below (by first | assumption | exact below_alloc1 _ _ | exact below_drew1 _ | exact below_drewN0 _ _) ?_ | refine below_then ?_ (by first | assumption | exact below_alloc1 _ _ | exact below_drew1 _ | exact below_drewN0 _ _))
  have hc19 : 19 ≤ c2 := by omega
  have hc19' : (19 : Int) ≤ (c2 : Int) := by omega
  clear hB1 hB2 hB5' hB6 hB7 hB8 hB9 hB10 hB11 hr1 hr2 hr6 hF7 d20
  go_region_held3 (fun W => W.cell? ⟨w6.heap.size, 0, none⟩ = some (.bool false) ∧ W.cell? ⟨w6.heap.size, 1, none⟩ = some (.int .i64 1) ∧ W.cell? ⟨w6.heap.size, 2, none⟩ = some (.bool false) ∧ W.cell? ⟨w6.heap.size, 3, none⟩ = some (.int .i64 1) ∧ W.cell? ⟨w6.heap.size, 4, none⟩ = some (.slice A6 1 c6) ∧
      W.cell? ⟨w10.heap.size + 1, 0, none⟩ = some (.bool true) ∧ W.cell? ⟨w10.heap.size + 1, 1, none⟩ = some (.int .i64 262144) ∧ W.cell? ⟨w10.heap.size + 1, 2, none⟩ = some (.bool true) ∧ W.cell? ⟨w10.heap.size + 1, 3, none⟩ = some (.int .i64 3) ∧ W.cell? ⟨w10.heap.size + 1, 4, none⟩ = some (.slice none 0 0))
    (exact cells10 (by repeat (first | assumption | exact Below.refl _ _ | ((with_reducible refine lit2 _ _ _ _ _ ?_); (first | (with_reducible rfl) | (simp; done))) | ((with_reducible refine lit1 _ _ _ _ ?_); (first | (with_reducible rfl) | (simp; done))) | refine row_step (by first | assumption | exact below_alloc1 _ _ | exact below_drew1 _ | exact below_drewN0 _ _) ?_ | refine block_below (by first | assumption | exact below_alloc1 _ _ | exact below_drew1 _ | exact below_drewN0 _ _) ?_ | refine below_then ?_ (by first | assumption | exact below_alloc1 _ _ | exact below_drew1 _ | exact below_drewN0 _ _))) (by repeat (first | assumption | exact Below.refl _ _ | ((with_reducible refine lit2 _ _ _ _ _ ?_); (first | (with_reducible rfl) | (simp; done))) | ((with_reducible refine lit1 _ _ _ _ ?_); (first | (with_reducible rfl) | (simp; done))) | refine row_step (by first | assumption | exact below_alloc1 _ _ | exact below_drew1 _ | exact below_drewN0 _ _) ?_ | refine block_below (by first | assumption | exact below_alloc1 _ _ | exact below_drew1 _ | exact below_drewN0 _ _) ?_ | refine below_then ?_ (by first | assumption | exact below_alloc1 _ _ | exact below_drew1 _ | exact below_drewN0 _ _))))
    (first
      | (go_at_call 14; refine (same_q H2 H2 19 19 rfl rfl A2 _ c2 _ _ (by repeat (first | assumption | exact Below.refl _ _ | ((with_reducible refine lit2 _ _ _ _ _ ?_); (first | (with_reducible rfl) | (simp; done))) | ((with_reducible refine lit1 _ _ _ _ ?_); (first | (with_reducible rfl) | (simp; done))) | refine row_step (by first | assumption | exact below_alloc1 _ _ | exact below_drew1 _ | exact below_drewN0 _ _) ?_ | refine block_below (by first | assumption | exact below_alloc1 _ _ | exact below_drew1 _ | exact below_drewN0 _ _) ?_ | refine below_then ?_ (by first | assumption | exact below_alloc1 _ _ | exact below_drew1 _ | exact below_drewN0 _ _))) (by repeat (first | assumption | exact Below.refl _ _ | ((with_reducible refine lit2 _ _ _ _ _ ?_); (first | (with_reducible rfl) | (simp; done))) | ((with_reducible refine lit1 _ _ _ _ ?_); (first | (with_reducible rfl) | (simp; done))) | ((with_reducible refine litH2 _ _ ?_); (first | (with_reducible rfl) | (simp; done))) | refine row_step (by first | assumption | exact below_alloc1 _ _ | exact below_drew1 _ | exact below_drewN0 _ _) ?_ | refine block_below (by first | assumption | exact below_alloc1 _ _ | exact below_drew1 _ | exact below_drewN0 _ _) ?_ | refine below_then ?_ (by first | assumption | exact below_alloc1 _ _ | exact below_drew1 _ | exact below_drewN0 _ _))) (by decide) true (by decide)).mono ?_; rintro e wS ⟨rfl, hBS⟩)
      | (go_at_call 34; have hq_ := hrk; clear hq_; refine (one_at _).mono ?_; rintro e wB ⟨AB, rfl, hrB, hBB⟩)
      | (go_at_call 34; refine (one_at _).mono ?_; rintro e wA ⟨AA, rfl, hrA, hBA⟩)
      | (go_at_call 24; refine (refFrSame_at false 1 false 1 [128] 1 rfl A6 c6 false 1 false 1 [128] 1 rfl AA 1 _ (by repeat (first | assumption | exact Below.refl _ _ | ((with_reducible refine lit2 _ _ _ _ _ ?_); (first | (with_reducible rfl) | (simp; done))) | ((with_reducible refine lit1 _ _ _ _ ?_); (first | (with_reducible rfl) | (simp; done))) | refine row_step (by first | assumption | exact below_alloc1 _ _ | exact below_drew1 _ | exact below_drewN0 _ _) ?_ | refine block_below (by first | assumption | exact below_alloc1 _ _ | exact below_drew1 _ | exact below_drewN0 _ _) ?_ | refine below_then ?_ (by first | assumption | exact below_alloc1 _ _ | exact below_drew1 _ | exact below_drewN0 _ _))) (by repeat (first | assumption | exact Below.refl _ _ | ((with_reducible refine lit2 _ _ _ _ _ ?_); (first | (with_reducible rfl) | (simp; done))) | ((with_reducible refine lit1 _ _ _ _ ?_); (first | (with_reducible rfl) | (simp; done))) | refine row_step (by first | assumption | exact below_alloc1 _ _ | exact below_drew1 _ | exact below_drewN0 _ _) ?_ | refine block_below (by first | assumption | exact below_alloc1 _ _ | exact below_drew1 _ | exact below_drewN0 _ _) ?_ | refine below_then ?_ (by first | assumption | exact below_alloc1 _ _ | exact below_drew1 _ | exact below_drewN0 _ _))) byte_128 byte_128 true (by decide)).mono ?_; rintro e wE ⟨rfl, hBE⟩)
      | (go_at_call 30; refine (rankX_at 262144 true 3 none 0 0 (by omega) _).mono ?_; rintro e wK ⟨AK, cK, rfl, hrk, hcK, hBK⟩)
      | (go_at_call 29; refine (headX_at 262144 true 3 [] 0 rfl none 0 (by omega) (by omega) _ (.inl rfl) byte_nil (by omega) 0 rfl 39 rfl).mono ?_; rintro e wH ⟨AH, cH, rfl, hrH, hcH, hBH⟩)
      | (go_at_call_of 27 (Value.agg #[Value.bool true, Value.int IntKind.i64 262144, Value.bool true, Value.int IntKind.i64 3, Value.slice none 0 0]); refine (frRight_q true 262144 true 3 none 0 0 _ true (by decide)).mono ?_; rintro e wR ⟨rfl, hBR⟩)
      | (go_at_call 27; refine (frRight_q false 0 false 1 none 0 0 _ false (by decide)).mono ?_; rintro e wQ ⟨rfl, hBQ⟩)
      | (go_at_call 28; have hq_ := hrB; clear hq_; refine (frSame_at true 262144 true 3 [] 0 rfl none 0 false 1 false 1 [128] 1 rfl AB 1 _ (.inl rfl) (by repeat (first | assumption | exact Below.refl _ _ | ((with_reducible refine lit2 _ _ _ _ _ ?_); (first | (with_reducible rfl) | (simp; done))) | ((with_reducible refine lit1 _ _ _ _ ?_); (first | (with_reducible rfl) | (simp; done))) | refine row_step (by first | assumption | exact below_alloc1 _ _ | exact below_drew1 _ | exact below_drewN0 _ _) ?_ | refine block_below (by first | assumption | exact below_alloc1 _ _ | exact below_drew1 _ | exact below_drewN0 _ _) ?_ | refine below_then ?_ (by first | assumption | exact below_alloc1 _ _ | exact below_drew1 _ | exact below_drewN0 _ _))) byte_nil byte_128 false (by decide)).mono ?_; rintro e wC ⟨rfl, hBC⟩)
      | (go_at_call 28; refine (frSame_at true 262144 true 3 [] 0 rfl none 0 true 262144 true 3 [] 0 rfl none 0 _ (.inl rfl) (.inl rfl) byte_nil byte_nil true (by decide)).mono ?_; rintro e wD ⟨rfl, hBD⟩))
  all_goals
    go_wp2_with fail
    go_ret
    exact ⟨rfl, hall.trans (Below.mono (B := w11.heap.size) (by repeat (first | assumption | exact Below.refl _ _ | ((with_reducible refine lit2 _ _ _ _ _ ?_); (first | (with_reducible rfl) | (simp; done))) | ((with_reducible refine lit1 _ _ _ _ ?_); (first | (with_reducible rfl) | (simp; done))) | refine row_step (by first | assumption | exact below_alloc1 _ _ | exact below_drew1 _ | exact below_drewN0 _ _) ?_ | refine block_below (by first | assumption | exact below_alloc1 _ _ | exact below_drew1 _ | exact below_drewN0 _ _) ?_ | refine below_then ?_ (by first | assumption | exact below_alloc1 _ _ | exact below_drew1 _ | exact below_drewN0 _ _))) hall.size)⟩

end Go.Proofs.Ytmapkjjglhpamaa
