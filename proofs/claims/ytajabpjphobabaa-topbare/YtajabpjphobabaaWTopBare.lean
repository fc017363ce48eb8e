/-
  TopBare.
-/
import Derived.Test.YtajabpjphobabaaTHead
import Derived.Test.YtajabpjphobabaaTAp
namespace Go.Proofs.Ytajabpjphobabaa
open Go.RowKit
set_option linter.unusedVariables false
set_option linter.unusedSimpArgs false

theorem less10 {N K : Nat} (h : K + 10 = N) (hK : K ≤ 1000) : wrap64 ((N : Int) - 10) = (K : Int) ∧ IntKind.i64.wrap ((N : Int) - 10) = (K : Int) := by
  refine ⟨by unfold wrap64; omega, by rw [IntKind.wrap_i64]; omega⟩
theorem more15 {P Q : Nat} (h : P + 15 = Q) (hP : P ≤ 1000) : wrap64 ((P : Int) + 15) = (Q : Int) ∧ IntKind.i64.wrap ((P : Int) + 15) = (Q : Int) := by
  refine ⟨by unfold wrap64; omega, by rw [IntKind.wrap_i64]; omega⟩
theorem bareFacts {N K P Q : Nat} (hN : K + 10 = N) (hQ : P + 15 = Q) (h1 : 19 ≤ P ∧ P ≤ 103) (h2 : Q ≤ K ∧ K ≤ 1000) : (¬ (N : Int) < 20) ∧ Q - P = 15 ∧ ((0 : Int) ≤ (K : Int)) ∧ ((K : Int) ≤ (N : Int)) ∧ ((P : Int) ≤ (Q : Int)) ∧ ((0 : Int) ≤ (P : Int)) ∧ K ≤ N ∧ P ≤ Q ∧ P < Q ∧ N ≤ 1010 ∧ Q ≤ 1000 ∧ P ≤ 103 ∧ Q ≤ K ∧ K ≤ 1000 := by omega
theorem map_add0 (A : Option Addr) : A = A.map (·.add 0) := by cases A <;> simp [Addr.add]
theorem strip_r (l : List Int) (n : Nat) (hn : l.length = n) (A : Option Addr) (c : Nat) (w : World) (h : Row .i64 w w.heap.size A l) (hm : n ≤ 100000) (o : List Int) (p : Option Nat) (ho : stripL l = (o, p)) (M : Nat) (hM : o.length = M) (v : Int) (hv : placeI p = v) :
    Calls Try.prog 9 #[.slice A n c] w fun e w' => ∃ G cap, e = .returned (.tuple #[.slice (some ⟨G, 0, none⟩) M cap, .int .i64 v]) ∧ M ≤ cap ∧ Row .i64 w' w'.heap.size (some ⟨G, 0, none⟩) o ∧ Below w.heap.size w w' := by
  subst hn hM hv
  refine (strip_any l A c w h hm).mono ?_
  rw [ho]
  rintro e w' ⟨cap, rfl, hown, hb⟩
  exact ⟨_, cap, rfl, own_cap hown, Row.own hown, hb⟩

set_option maxRecDepth 100000 in
set_option maxHeartbeats 300000 in
theorem topBare_any (x : Bool) (i : Int) (r : Bool) (n : Int) (dl : List Int) (m : Nat) (hdl : dl.length = m) (A : Option Addr) (c : Nat) (w : World) (hd : Row .u8 w w.heap.size A dl) (hb : byteB dl) :
    Calls Try.prog 3 #[.agg #[.bool x, .int .i64 i, .bool r, .int .i64 n, .slice A m c]] w fun e w' => e = .returned (.bool true) ∧ Below w.heap.size w w' := by
  have HD := Lib.hid hdl
  have HB := Lib.hid hb
  clear hdl hb
  go_enter Try.func3, Try.ntmps3
  go_wp2_with fail
  obtain ⟨w0, hw0⟩ : ∃ w0, w.alloc (.cells #[.bool x, .int .i64 i, .bool r, .int .i64 n, .slice A m c] 24) = w0 := ⟨_, rfl⟩
  have hT0 : Below w.heap.size w w0 := by rw [← hw0]; exact below_alloc1 _ _
  have hf0 : w0.heap[w.heap.size]? = some (.cells #[.bool x, .int .i64 i, .bool r, .int .i64 n, .slice A m c] 24) := by rw [← hw0]; exact World.alloc_heap_new _ _
  have hd0 := Row.to hd hT0
  rw [hw0]
  clear hw0 hd
  refine (head06_any w0).mono ?_
  rintro e w1 ⟨rfl, hB1⟩
  have hT1 := below_then hT0 hB1
  have hf1 := block_below hB1 hf0
  have hd1 := Row.to hd0 hB1
  clear hT0 hf0 hd0 hB1
  by_cases hbig : 8 < m
  · skip
    have hb2 : (8 : Int) < (m : Int) := by omega
    obtain ⟨fc0, fc1, fc2, fc3, fc4⟩ := cells5' hf1
    go_wp2_with fail
    go_ret
    exact ⟨rfl, hT1⟩
  have hb2 : ¬ (8 : Int) < (m : Int) := by omega
  obtain ⟨fc0, fc1, fc2, fc3, fc4⟩ := cells5' hf1
  go_wp2_with fail
  clear fc0 fc1 fc2 fc3 fc4
  obtain ⟨q, hq⟩ : ∃ q, rightV x i r n m = q := ⟨_, rfl⟩
  have Hq := Lib.hid hq
  clear hq
  cases q
  · skip
    refine (refFrRight_q x i r n A m c w1 false Hq.out).mono ?_
    rintro e w2 ⟨rfl, hB2⟩
    have hT2 := below_then hT1 hB2
    have hf2 := block_below hB2 hf1
    have hd2 := Row.to hd1 hB2
    clear hT1 hf1 hd1 hB2
    obtain ⟨fc0, fc1, fc2, fc3, fc4⟩ := cells5' hf2
    go_wp2_with fail
    go_ret
    exact ⟨rfl, hT2⟩
  refine (refFrRight_q x i r n A m c w1 true Hq.out).mono ?_
  rintro e w2 ⟨rfl, hB2⟩
  have hT2 := below_then hT1 hB2
  have hf2 := block_below hB2 hf1
  have hd2 := Row.to hd1 hB2
  clear hT1 hf1 hd1 hB2
  obtain ⟨ID, L, rfl, rfl, hID, hL, hmL⟩ := right_ok Hq.out
  clear hmL
  obtain ⟨T, hT⟩ : ∃ q, headV x ID r L dl = q := ⟨_, rfl⟩
  have HT := Lib.hid hT
  clear hT
  obtain ⟨M, hM⟩ : ∃ M, 8 * m = M := ⟨_, rfl⟩
  obtain ⟨P, hP⟩ : ∃ P, hn x + M = P := ⟨_, rfl⟩
  have hTl : T.length = P := by rw [← HT.out, headV_len, HD.out, hM, hP]
  have hTr : rightB T = true := by rw [← HT.out]; exact headV_right _ _ _ _ _
  obtain ⟨K, hK⟩ : ∃ K, (stuffL (bareV T)).length = K := ⟨_, rfl⟩
  obtain ⟨N, hN⟩ : ∃ N, K + 10 = N := ⟨_, rfl⟩
  obtain ⟨Q, hQ⟩ : ∃ Q, P + 15 = Q := ⟨_, rfl⟩
  have hbl : (bareV T).length = Q := by rw [bareV_len, hTl, hQ]
  have hPx : 19 ≤ P ∧ P ≤ 103 := by cases x <;> simp only [hn] at hP <;> first | omega | (simp at hP; omega)
  have hKl : Q ≤ K ∧ K ≤ 1000 := by have h1 := stuffL_len (bareV T); rw [hbl, hK] at h1; have h2 := stuffL_most (bareV T); rw [hbl, hK] at h2; omega
  have HS := Lib.hid (show (sentV T).length = N from by rw [sentV_len, hK, hN])
  have Htk : Hid ((sentV T).take K = stuffL (bareV T)) := Lib.hid (by unfold sentV; rw [List.take_left' hK])
  have Hst : Hid (stripL (stuffL (bareV T)) = (bareV T, none)) := Lib.hid (strip_stuffF (bareV T) (0, 0) (by simp))
  have Hk0 : Hid (crc15 (bareV T) = 0#15) := Lib.hid (crc15_zero T)
  have Hbr : Hid (rightB (bareV T) = true) := Lib.hid (bareV_right hTr)
  obtain ⟨v, hv⟩ : ∃ v : Int, (((crc15 T).toNat : Nat) : Int) = v := ⟨_, rfl⟩
  have Hv := Lib.hid hv
  have Hnum : Hid (((numOf (sumV T) : Nat) : Int) = v) := Lib.hid (by rw [← hv]; unfold sumV; rw [numOf_back (crc_lt T)])
  have HTl := Lib.hid hTl
  have HTr := Lib.hid hTr
  have HK := Lib.hid hK
  have Hbl := Lib.hid hbl
  have Hf1 : Hid ((bareV T).take P = T) := Lib.hid (by unfold bareV; rw [List.take_left' hTl])
  have Hf2 : Hid ((bareV T).drop P = sumV T) := Lib.hid (by unfold bareV; rw [List.drop_left' hTl])
  have HQ := Lib.hid (And.intro hN hQ)
  obtain ⟨g2, g3⟩ := less10 hN hKl.2
  obtain ⟨g4, g5⟩ := more15 hQ (Nat.le_trans hPx.2 (by decide))
  obtain ⟨g1, g6, g7, g8, g9, g10, g11, g12, g13, g14, g15, g16, g17, g18⟩ := bareFacts hN hQ hPx hKl
  have HP := Lib.hid hP
  have HM := Lib.hid hM
  clear hTl hTr hK hN hQ hbl hv hP hM hPx hKl
  obtain ⟨fc0, fc1, fc2, fc3, fc4⟩ := cells5' hf2
  go_wp2_with fail
  clear fc0 fc1 fc2 fc3 fc4
  refine (wireBits_at x ID r L dl m HD.out A c hID hL w2 hd2 HB.out (by omega) T HT.out N HS.out).mono ?_
  rintro e w3 ⟨A1, c1, rfl, hs_, hc1, hB3⟩
  have hT3 := below_then hT2 hB3
  have hf3 := block_below hB3 hf2
  have hd3 := Row.to hd2 hB3
  clear hT2 hf2 hd2 hB3
  have hs3 := hs_
  clear hs_
  have i1 : (K : Int) ≤ (c1 : Int) := by omega
  have i2 : K ≤ c1 := by omega
  obtain ⟨fc0, fc1, fc2, fc3, fc4⟩ := cells5' hf3
  go_wp2_with fail
  clear fc0 fc1 fc2 fc3 fc4
  have ht3 : Row .i64 w3 w3.heap.size A1 (stuffL (bareV T)) := by have := Row.sub_ hs3 0 K (Nat.zero_le _) (by rw [HS.out]; omega) (A' := A1) (fun _ => map_add0 A1); rw [List.drop_zero, Nat.sub_zero, Htk.out] at this; exact this
  refine (strip_r (stuffL (bareV T)) K HK.out A1 c1 w3 ht3 (by omega) (bareV T) none Hst.out Q Hbl.out (-1) rfl).mono ?_
  rintro e w4 ⟨G, c2, rfl, hc2, hp_, hB4⟩
  have hT4 := below_then hT3 hB4
  have hf4 := block_below hB4 hf3
  have hd4 := Row.to hd3 hB4
  have hs4 := Row.to hs3 hB4
  have ht4 := Row.to ht3 hB4
  clear hT3 hf3 hd3 hs3 ht3 hB4
  have hp4 := hp_
  clear hp_
  have i3 : (Q : Int) ≤ (c2 : Int) := by omega
  have i4 : (P : Int) ≤ (c2 : Int) := by omega
  have i5 : P ≤ c2 := by omega
  have i6 : ¬ c2 = P := by omega
  have i7 : P < c2 := by omega
  obtain ⟨fc0, fc1, fc2, fc3, fc4⟩ := cells5' hf4
  go_wp2_with fail
  clear fc0 fc1 fc2 fc3 fc4
  refine (head_at x ID r L dl m HD.out A c hID hL w4 hd4 HB.out (by omega) M HM.out P HP.out).mono ?_
  rintro e w5 ⟨A3, c3, rfl, hh_, hc3, hB5⟩
  have hT5 := below_then hT4 hB5
  have hf5 := block_below hB5 hf4
  have hd5 := Row.to hd4 hB5
  have hs5 := Row.to hs4 hB5
  have ht5 := Row.to ht4 hB5
  have hp5 := Row.to hp4 hB5
  clear hT4 hf4 hd4 hs4 ht4 hp4 hB5
  have hh5 := hh_
  clear hh_
  rw [HT.out] at hh5
  obtain ⟨fc0, fc1, fc2, fc3, fc4⟩ := cells5' hf5
  go_wp2_with fail
  clear fc0 fc1 fc2 fc3 fc4
  have ha5 : Row .i64 w5 w5.heap.size (some ⟨G, 0, none⟩) T := by have := Row.sub_ hp5 0 P (Nat.zero_le _) (by rw [Hbl.out]; omega) (A' := some ⟨G, 0, none⟩) (fun _ => map_add0 _); rw [List.drop_zero, Nat.sub_zero, Hf1.out] at this; exact this
  have hu5 : Row .i64 w5 w5.heap.size (some ⟨G, P, none⟩) (sumV T) := by have := Row.sub_ hp5 P Q g12 (by rw [Hbl.out]; omega) (A' := some ⟨G, P, none⟩) (fun _ => by simp [add0]); rw [Hf2.out, g6, List.take_of_length_le (by rw [sumV_len]; omega)] at this; exact this
  refine (same_q T T P P HTl.out HTl.out _ _ _ _ w5 ha5 hh5 (by unfold maxLen; omega) true (by simp [sameB])).mono ?_
  rintro e w6 ⟨rfl, hB6⟩
  have hT6 := below_then hT5 hB6
  have hf6 := block_below hB6 hf5
  have hd6 := Row.to hd5 hB6
  have hs6 := Row.to hs5 hB6
  have ht6 := Row.to ht5 hB6
  have hp6 := Row.to hp5 hB6
  have hh6 := Row.to hh5 hB6
  have ha6 := Row.to ha5 hB6
  have hu6 := Row.to hu5 hB6
  clear hT5 hf5 hd5 hs5 ht5 hp5 hh5 ha5 hu5 hB6
  obtain ⟨fc0, fc1, fc2, fc3, fc4⟩ := cells5' hf6
  go_wp2_with fail
  clear fc0 fc1 fc2 fc3 fc4
  refine (get_yes_at (sumV T) 15 (sumV_len T) v Hnum.out _ _ _ w6 hu6 (by unfold sumV; exact getOk_bitRow _ _ (by omega))).mono ?_
  rintro e w_ ⟨rfl, rfl⟩
  obtain ⟨fc0, fc1, fc2, fc3, fc4⟩ := cells5' hf6
  go_wp2_with fail
  clear fc0 fc1 fc2 fc3 fc4
  refine wp_region_held_drew (S := fun W => True) (by kernel_rfl) (by exact trivial) (fun hHeld_ => ?_)
  refine wpAnyH_take' (i := 0) (v := ?v0_t1) 64 rfl rfl (by kernel_rfl) (by kernel_rfl) (by kernel_rfl) (fun _ _ _ h => h) (Or.inl ⟨by kernel_rfl, ?hy0_t1⟩) (by assumption) ?rest0_t1
  case hy0_t1 => (intro W_ hS_; (try dsimp only at hS_); go_simp; (try (with_reducible rfl)))
  try simp only [Act.put, List.setIfInBounds_toArray, List.set_cons_zero, List.set_cons_succ]
  refine wpAnyH_take' (i := 1) (v := ?v1_t1) 65 rfl rfl (by kernel_rfl) (by kernel_rfl) (by kernel_rfl) (fun _ _ _ h => h) (Or.inl ⟨by kernel_rfl, ?hy1_t1⟩) (by assumption) ?rest1_t1
  case hy1_t1 => (intro W_ hS_; (try dsimp only at hS_); go_simp; (try (with_reducible rfl)))
  try simp only [Act.put, List.setIfInBounds_toArray, List.set_cons_zero, List.set_cons_succ]
  refine wpAnyH_take' (i := 2) (v := ?v2_t1) 66 rfl rfl (by kernel_rfl) (by kernel_rfl) (by kernel_rfl) (fun _ _ _ h => h) (Or.inl ⟨by kernel_rfl, ?hy2_t1⟩) (by assumption) ?rest2_t1
  case hy2_t1 => (intro W_ hS_; (try dsimp only at hS_); go_simp; (try (with_reducible rfl)))
  try simp only [Act.put, List.setIfInBounds_toArray, List.set_cons_zero, List.set_cons_succ]
  refine wpAnyH_take' (i := 3) (v := ?v3_t1) 67 rfl rfl (by kernel_rfl) (by kernel_rfl) (by kernel_rfl) (fun _ _ _ h => h) (Or.inl ⟨by kernel_rfl, ?hy3_t1⟩) (by assumption) ?rest3_t1
  case hy3_t1 => (intro W_ hS_; (try dsimp only at hS_); go_simp; (try (with_reducible rfl)))
  try simp only [Act.put, List.setIfInBounds_toArray, List.set_cons_zero, List.set_cons_succ]
  refine wpAnyH_take' (i := 4) (v := ?v4_t1) 68 rfl rfl (by kernel_rfl) (by kernel_rfl) (by kernel_rfl) (fun _ _ _ h => h) (Or.inl ⟨by kernel_rfl, ?hy4_t1⟩) (by assumption) ?rest4_t1
  case hy4_t1 => (intro W_ hS_; (try dsimp only at hS_); go_simp; (try (with_reducible rfl)))
  try simp only [Act.put, List.setIfInBounds_toArray, List.set_cons_zero, List.set_cons_succ]
  refine wpAnyH_take' (i := 5) (v := ?v5_t1) 69 rfl rfl (by kernel_rfl) (by kernel_rfl) (by kernel_rfl) (fun _ _ _ h => h) (Or.inl ⟨by kernel_rfl, ?hy5_t1⟩) (by assumption) ?rest5_t1
  case hy5_t1 => (intro W_ hS_; (try dsimp only at hS_); go_simp; (try (with_reducible rfl)))
  try simp only [Act.put, List.setIfInBounds_toArray, List.set_cons_zero, List.set_cons_succ]
  refine wpAnyH_take' (i := 6) (v := ?v6_t1) 70 rfl rfl (by kernel_rfl) (by kernel_rfl) (by kernel_rfl) (fun _ _ _ h => h) (Or.inl ⟨by kernel_rfl, ?hy6_t1⟩) (by assumption) ?rest6_t1
  case hy6_t1 => (intro W_ hS_; (try dsimp only at hS_); go_simp; (try (with_reducible rfl)))
  try simp only [Act.put, List.setIfInBounds_toArray, List.set_cons_zero, List.set_cons_succ]
  refine wpAnyH_ready (rs := [7]) (by kernel_rfl) (by simp) ?_
  refine AllReadyH.cons rfl (fun K_ hK_ => ?_) AllReadyH.nil
  go_simp
  refine (bits_q T P HTl.out A3 c3 _ (Row.to hh6 (below_drew1 _)) HTr.out (by unfold maxLen; omega) v Hv.out).mono ?_; rintro e wr7 ⟨rfl, hBr7⟩
  go_wp2_with fail
  refine hK_.out _ _ (by exact trivial) (fun hHeld_7 => ?_)
  clear hK_
  try simp only [Act.put, List.setIfInBounds_toArray, List.set_cons_zero, List.set_cons_succ]
  refine wpAnyH_take' (i := 8) (v := ?v8_t1) 72 rfl rfl (by kernel_rfl) (by kernel_rfl) (by kernel_rfl) (fun _ _ _ h => h) (Or.inl ⟨by kernel_rfl, ?hy8_t1⟩) (by assumption) ?rest8_t1
  case hy8_t1 => (intro W_ hS_; (try dsimp only at hS_); go_simp; (try (with_reducible rfl)))
  try simp only [Act.put, List.setIfInBounds_toArray, List.set_cons_zero, List.set_cons_succ]
  refine wpAnyH_take' (i := 9) (v := ?v9_t1) 73 rfl rfl (by kernel_rfl) (by kernel_rfl) (by kernel_rfl) (fun _ _ _ h => h) (Or.inl ⟨by kernel_rfl, ?hy9_t1⟩) (by assumption) ?rest9_t1
  case hy9_t1 => (intro W_ hS_; (try dsimp only at hS_); go_simp; (try (with_reducible rfl)))
  try simp only [Act.put, List.setIfInBounds_toArray, List.set_cons_zero, List.set_cons_succ]
  refine wpAnyH_take' (i := 10) (v := ?v10_t1) 74 rfl rfl (by kernel_rfl) (by kernel_rfl) (by kernel_rfl) (fun _ _ _ h => h) (Or.inl ⟨by kernel_rfl, ?hy10_t1⟩) (by assumption) ?rest10_t1
  case hy10_t1 => (intro W_ hS_; (try dsimp only at hS_); go_simp; (try (with_reducible rfl)))
  try simp only [Act.put, List.setIfInBounds_toArray, List.set_cons_zero, List.set_cons_succ]
  refine wpAnyH_take' (i := 11) (v := ?v11_t1) 75 rfl rfl (by kernel_rfl) (by kernel_rfl) (by kernel_rfl) (fun _ _ _ h => h) (Or.inl ⟨by kernel_rfl, ?hy11_t1⟩) (by assumption) ?rest11_t1
  case hy11_t1 => (intro W_ hS_; (try dsimp only at hS_); go_simp; (try (with_reducible rfl)))
  try simp only [Act.put, List.setIfInBounds_toArray, List.set_cons_zero, List.set_cons_succ]
  refine wpAnyH_ready (rs := [12]) (by kernel_rfl) (by simp) ?_
  refine AllReadyH.cons rfl (fun K_ hK_ => ?_) AllReadyH.nil
  go_simp
  refine (bits_q (bareV T) Q Hbl.out _ c2 _ (Row.to (Row.to hp6 (below_drew1 _)) hBr7) Hbr.out (by unfold maxLen; omega) 0 (by rw [Hk0.out]; rfl)).mono ?_; rintro e wr12 ⟨rfl, hBr12⟩
  go_wp2_with fail
  refine hK_.out _ _ (by exact trivial) (fun hHeld_12 => ?_)
  clear hK_
  try simp only [Act.put, List.setIfInBounds_toArray, List.set_cons_zero, List.set_cons_succ]
  refine wpAnyH_take' (i := 13) (v := ?v13_t1) 77 rfl rfl (by kernel_rfl) (by kernel_rfl) (by kernel_rfl) (fun _ _ _ h => h) (Or.inl ⟨by kernel_rfl, ?hy13_t1⟩) (by assumption) ?rest13_t1
  case hy13_t1 => (intro W_ hS_; (try dsimp only at hS_); go_simp; (try (with_reducible rfl)))
  try simp only [Act.put, List.setIfInBounds_toArray, List.set_cons_zero, List.set_cons_succ]
  refine wpAnyH_take' (i := 14) (v := ?v14_t1) 78 rfl rfl (by kernel_rfl) (by kernel_rfl) (by kernel_rfl) (fun _ _ _ h => h) (Or.inl ⟨by kernel_rfl, ?hy14_t1⟩) (by assumption) ?rest14_t1
  case hy14_t1 => (intro W_ hS_; (try dsimp only at hS_); go_simp; (try (with_reducible rfl)))
  try simp only [Act.put, List.setIfInBounds_toArray, List.set_cons_zero, List.set_cons_succ]
  refine wpAnyH_take' (i := 15) (v := ?v15_t1) 79 rfl rfl (by kernel_rfl) (by kernel_rfl) (by kernel_rfl) (fun _ _ _ h => h) (Or.inl ⟨by kernel_rfl, ?hy15_t1⟩) (by assumption) ?rest15_t1
  case hy15_t1 => (intro W_ hS_; (try dsimp only at hS_); go_simp; (try (with_reducible rfl)))
  try simp only [Act.put, List.setIfInBounds_toArray, List.set_cons_zero, List.set_cons_succ]
  refine wpAnyH_take' (i := 16) (v := ?v16_t1) 80 rfl rfl (by kernel_rfl) (by kernel_rfl) (by kernel_rfl) (fun _ _ _ h => h) (Or.inl ⟨by kernel_rfl, ?hy16_t1⟩) (by assumption) ?rest16_t1
  case hy16_t1 => (intro W_ hS_; (try dsimp only at hS_); go_simp; (try (with_reducible rfl)))
  try simp only [Act.put, List.setIfInBounds_toArray, List.set_cons_zero, List.set_cons_succ]
  refine wpAnyH_take' (i := 18) (v := ?v18_t1) 82 rfl rfl (by kernel_rfl) (by kernel_rfl) (by kernel_rfl) (fun _ _ _ h => h) (Or.inl ⟨by kernel_rfl, ?hy18_t1⟩) (by assumption) ?rest18_t1
  case hy18_t1 => (intro W_ hS_; (try dsimp only at hS_); go_simp; (try (with_reducible rfl)))
  try simp only [Act.put, List.setIfInBounds_toArray, List.set_cons_zero, List.set_cons_succ]
  refine wpAnyH_take' (i := 19) (v := ?v19_t1) 83 rfl rfl (by kernel_rfl) (by kernel_rfl) (by kernel_rfl) (fun _ _ _ h => h) (Or.inl ⟨by kernel_rfl, ?hy19_t1⟩) (by assumption) ?rest19_t1
  case hy19_t1 => (intro W_ hS_; (try dsimp only at hS_); go_simp; (try (with_reducible rfl)))
  try simp only [Act.put, List.setIfInBounds_toArray, List.set_cons_zero, List.set_cons_succ]
  refine wpAnyH_take' (i := 20) (v := ?v20_t1) 84 rfl rfl (by kernel_rfl) (by kernel_rfl) (by kernel_rfl) (fun _ _ _ h => h) (Or.inl ⟨by kernel_rfl, ?hy20_t1⟩) (by assumption) ?rest20_t1
  case hy20_t1 => (intro W_ hS_; (try dsimp only at hS_); go_simp; (try (with_reducible rfl)))
  try simp only [Act.put, List.setIfInBounds_toArray, List.set_cons_zero, List.set_cons_succ]
  refine wpAnyH_take' (i := 21) (v := ?v21_t1) 85 rfl rfl (by kernel_rfl) (by kernel_rfl) (by kernel_rfl) (fun _ _ _ h => h) (Or.inl ⟨by kernel_rfl, ?hy21_t1⟩) (by assumption) ?rest21_t1
  case hy21_t1 => (intro W_ hS_; (try dsimp only at hS_); go_simp; (try (with_reducible rfl)))
  try simp only [Act.put, List.setIfInBounds_toArray, List.set_cons_zero, List.set_cons_succ]
  refine wpAnyH_take' (i := 22) (v := ?v22_t1) 86 rfl rfl (by kernel_rfl) (by kernel_rfl) (by kernel_rfl) (fun _ _ _ h => h) (Or.inl ⟨by kernel_rfl, ?hy22_t1⟩) (by assumption) ?rest22_t1
  case hy22_t1 => (intro W_ hS_; (try dsimp only at hS_); go_simp; (try (with_reducible rfl)))
  try simp only [Act.put, List.setIfInBounds_toArray, List.set_cons_zero, List.set_cons_succ]
  refine wpAnyH_ready (rs := [17]) (by kernel_rfl) (by simp) ?_
  refine AllReadyH.cons rfl (fun K_ hK_ => ?_) AllReadyH.nil
  go_simp
  refine (stuff_r (bareV T) Q Hbl.out _ c2 _ (Row.to (Row.to (Row.to hp6 (below_drew1 _)) hBr7) hBr12) Hbr.out (by omega) K HK.out).mono ?_; rintro e wr17 ⟨A6, c6, rfl, hz_, hBr17⟩
  go_wp2_with fail
  refine hK_.out _ _ (by exact trivial) (fun hHeld_17 => ?_)
  clear hK_
  try simp only [Act.put, List.setIfInBounds_toArray, List.set_cons_zero, List.set_cons_succ]
  refine wpAnyH_ready (rs := [23]) (by kernel_rfl) (by simp) ?_
  refine AllReadyH.cons rfl (fun K_ hK_ => ?_) AllReadyH.nil
  go_simp
  refine (same_q (stuffL (bareV T)) (stuffL (bareV T)) K K HK.out HK.out _ _ _ _ _ hz_ (Row.to (Row.to (Row.to (Row.to ht6 (below_drew1 _)) hBr7) hBr12) hBr17) (by unfold maxLen; omega) true (by simp [sameB])).mono ?_; rintro e wr23 ⟨rfl, hBr23⟩
  go_wp2_with fail
  refine hK_.out _ _ (by exact trivial) (fun hHeld_23 => ?_)
  clear hK_
  try simp only [Act.put, List.setIfInBounds_toArray, List.set_cons_zero, List.set_cons_succ]
  refine wpAnyH_take' (i := 24) (v := ?v24_t1) 88 rfl rfl (by kernel_rfl) (by kernel_rfl) (by kernel_rfl) (fun _ _ _ h => h) (Or.inl ⟨by kernel_rfl, ?hy24_t1⟩) (by assumption) ?rest24_t1
  case hy24_t1 => (intro W_ hS_; (try dsimp only at hS_); go_simp; (try (with_reducible rfl)))
  try simp only [Act.put, List.setIfInBounds_toArray, List.set_cons_zero, List.set_cons_succ]
  refine wpAnyH_take' (i := 25) (v := ?v25_t1) 2 rfl rfl (by kernel_rfl) (by kernel_rfl) (by kernel_rfl) (fun _ _ _ h => h) (Or.inl ⟨by kernel_rfl, ?hy25_t1⟩) (by assumption) ?rest25_t1
  case hy25_t1 => (intro W_ hS_; (try dsimp only at hS_); go_simp; (try (with_reducible rfl)))
  try simp only [Act.put, List.setIfInBounds_toArray, List.set_cons_zero, List.set_cons_succ]
  refine wpAnyH_done (by kernel_rfl) ?_ _
  go_wp2_with fail
  go_ret
  exact ⟨rfl, below_then hT6 (below_then (below_then (below_then (below_then (below_drew1 _) hBr7) hBr12) hBr17) hBr23)⟩

end Go.Proofs.Ytajabpjphobabaa
