/-
  WFrameBits · WFrameBack · FrMore · RefFr · RefHead: what this seat needs of them.
-/
import Derived.Test.YtmapkjjglhpamaaFrMath
import Derived.Test.YtmapkjjglhpamaaRef
namespace Go.Proofs.Ytmapkjjglhpamaa
open Go.RowKit

theorem refRight_q (l : List Int) (n : Nat) (hn : l.length = n) (A : Option Addr) (c : Nat) (w : World) (h : Row .i64 w w.heap.size A l) (hl : n ≤ maxLen) (q : Bool) (hq : rightB l = q) :
    Calls Try.prog 21 #[.slice A n c] w fun e w' => e = .returned (.bool q) ∧ Below w.heap.size w w' := by
  subst hn hq
  exact (refRight_any l A c _ w h hl).mono fun _ _ ⟨h1, h2⟩ => ⟨h1, h2 ▸ Below.refl _ _⟩

theorem rightV_of (x : Bool) (ID : Nat) (r : Bool) (L m : Nat) (hID : idOk x ID) (hL : L ≤ 8) (hm : m = if r then 0 else L) : rightV x ID r L m = true := by
  unfold rightV idOk at *
  rw [decide_eq_true_eq]
  refine ⟨by omega, ?_, by omega, by omega, ?_⟩
  · cases x <;> simp at hID ⊢ <;> omega
  · cases r <;> simp at hm ⊢ <;> omega

theorem sameV_self (x : Bool) (i : Int) (r : Bool) (n : Int) (a : List Int) : sameV x i r n a x i r n a = true := by simp [sameV]

theorem headV_right (x : Bool) (ID : Nat) (r : Bool) (L : Nat) (dl : List Int) : rightB (headV x ID r L dl) = true := by
  have hf : ∀ b, rightB [flag b] = true := by decide
  cases x
  · simp only [headV, Bool.false_eq_true, if_false, rankS, rightB_append, bitRow_right, spreadL_right]
    cases r <;> decide
  · simp only [headV, if_true, rankX, rightB_append, bitRow_right, spreadL_right]
    cases r <;> decide

/-- What stands ahead of the count of bytes. -/
def preV (x : Bool) (ID : Nat) (r : Bool) : List Int := if x then [0] ++ (rankX ID r ++ [0, 0]) else [0] ++ (rankS ID r ++ [0])

theorem preV_len (x : Bool) (ID : Nat) (r : Bool) : (preV x ID r).length + 4 = hn x := by
  cases x <;> simp [preV, hn, rankS_len, rankX_len]

theorem headV_split (x : Bool) (ID : Nat) (r : Bool) (L : Nat) (dl : List Int) : headV x ID r L dl = preV x ID r ++ (bitRow L 4 4 ++ spreadL dl) := by
  cases x <;> simp [preV, headV]

theorem headV_front (x : Bool) (ID : Nat) (r : Bool) (L : Nat) (dl : List Int) {k : Nat} (hk : k + 4 = hn x) : (headV x ID r L dl).take k = preV x ID r := by
  rw [headV_split]
  exact List.take_left' (by have := preV_len x ID r; omega)

theorem headV_all (x : Bool) (ID : Nat) (r : Bool) (L : Nat) (dl : List Int) {k : Nat} (hk : k = hn x) : (headV x ID r L dl).take k = preV x ID r ++ bitRow L 4 4 := by
  rw [headV_split, ← List.append_assoc]
  exact List.take_left' (by have := preV_len x ID r; rw [List.length_append, bitRow_len]; omega)

theorem headV_data (x : Bool) (ID : Nat) (r : Bool) (L : Nat) (dl : List Int) {k : Nat} (hk : k = hn x) : (headV x ID r L dl).drop k = spreadL dl := by
  rw [headV_split, ← List.append_assoc]
  exact List.drop_left' (by have := preV_len x ID r; rw [List.length_append, bitRow_len]; omega)

theorem spreadL_app (a b : List Int) : spreadL (a ++ b) = spreadL a ++ spreadL b := by simp [spreadL]

theorem refSpread_ex (l : List Int) (n : Nat) (hn : l.length = n) (A : Option Addr) (c : Nat) (w : World) (h : Row .u8 w w.heap.size A l) (hb : byteB l) (hm : n * 64 ≤ 140737488355328) (m : Nat) (hm' : 8 * n = m) :
    Calls Try.prog 51 #[.slice A n c] w fun e w' => ∃ A' c', e = .returned (.slice A' m c') ∧ Row .i64 w' w'.heap.size A' (spreadL l) ∧ Below w.heap.size w w' := by
  subst hn hm'
  exact (refSpread_any l A c w h hb hm).mono fun _ _ ⟨A', c', h1, h2, h3⟩ => ⟨A', c', h1, Row.own h2, h3⟩

theorem sameBytes_q (a b : List Int) (n m : Nat) (hn : a.length = n) (hm : b.length = m) (A A' : Option Addr) (c c' : Nat) (w : World) (h : Row .u8 w w.heap.size A a) (h' : Row .u8 w w.heap.size A' b) (ha : byteB a) (hb : byteB b) (q : Bool) (hq : sameB a b = q) :
    Calls Try.prog 49 #[.slice A n c, .slice A' m c'] w fun e w' => e = .returned (.bool q) ∧ Below w.heap.size w w' := by
  subst hq
  refine (sameBytes_at a b n m hn hm A A' c c' _ _ w h h' ha hb).mono ?_
  rintro e w' ⟨rfl, rfl⟩
  exact ⟨rfl, Below.refl _ _⟩

theorem byteB_take {l : List Int} (h : byteB l) (k : Nat) : byteB (l.take k) := fun x hx => h x (List.mem_of_mem_take hx)

theorem bits_11 : bitRow 3 2 2 = [1, 1] := by decide

theorem bits_0 : bitRow 0 1 1 = [0] := by decide

theorem bits_f (r : Bool) : bitRow (flag r).toNat 1 1 = [flag r] := by cases r <;> decide

set_option maxRecDepth 100000 in
set_option maxHeartbeats 2000000 in
theorem refFrPut_at (l : List Int) (k : Nat) (hk : l.length = k) (A : Option Addr) (c : Nat) (n : Int) (num many : Nat) (hn : n = num) (hm : many ≤ 32) (hnum : num < 2 ^ many) (hk2 : k ≤ 1000) (w : World) (h : Row .i64 w w.heap.size A l) (s : Nat) (hs : k + many = s) :
    Calls Try.prog 50 #[.slice A k c, .int .i64 n, .int .i64 many] w fun e w' => ∃ A' c', e = .returned (.slice A' s c') ∧ Row .i64 w' w'.heap.size A' (l ++ bitRow num many many) ∧ s ≤ c' ∧ Below w.heap.size w w' := by
  obtain ⟨i0, hi, hz0, hz1, hz2⟩ := info_parts Try.infoInt
  subst hn hs
  have HK := Lib.hid hk
  have HN := Lib.hid hnum
  clear hk hnum
  go_enter Try.func50, Try.ntmps50
  go_wp2_with fail
  refine (refPut_at _ _ num many rfl rfl hm HN.out w).mono ?_
  rintro e w1 ⟨A1, c1, rfl, hr1, hB1⟩
  have hl1 := h.to hB1
  have o2 := own_lit w1 .i64 [] 0 rfl 3 (cs := #[]) rfl (by decide)
  have r2 := hl1.to (below_alloc1 w1 (.cells #[] 3))
  have s2 := hr1.to (below_alloc1 w1 (.cells #[] 3))
  go_wp2_with (first
    | (at_builtin; have hq_ := hown3; clear hq_; refine wpList_append_row _ .i64 rfl _ _ 25 rfl w1.heap.size 3 i0 (.int .i64 0) 8 Try.underlying25 hi hz0 hz1 hz2 rfl _ k l rfl hown3 A1 many c1 _ (bitRow num many many) rfl (bitRow_len _ _ _) hr3 (by unfold maxLen; omega) (by omega) hs3 ?_; intro A4 c4 w4 hown4 hc4 hB4)
    | (at_builtin; refine wpList_append_row _ .i64 rfl _ _ 25 rfl w1.heap.size 3 i0 (.int .i64 0) 8 Try.underlying25 hi hz0 hz1 hz2 rfl _ 0 [] rfl o2 A k c _ l rfl HK.out r2 (by unfold maxLen; omega) (by omega) (by simp) ?_; intro A3 c3 w3 hown3 hc3 hB3; rw [Nat.zero_add, List.nil_append] at hown3; have hs3 : w1.heap.size ≤ w3.heap.size := (by have := hB3.size; simp at this; omega); have hr3 : Row .i64 w3 w1.heap.size A1 (bitRow num many many) := (hr1.below (below_alloc1 w1 (.cells #[] 3))).below hB3))
  go_ret
  exact ⟨A4, c4, rfl, Row.own hown4, hc4, hB1.trans ((((below_alloc1 w1 _).trans hB3).trans hB4).mono hB1.size)⟩

set_option maxRecDepth 100000 in
set_option maxHeartbeats 4000000 in
theorem refRankS_at (ID : Nat) (r : Bool) (n : Int) (A : Option Addr) (m c : Nat) (hID : ID < 2048) (w : World) :
    Calls Try.prog 31 #[.agg #[.bool false, .int .i64 ID, .bool r, .int .i64 n, .slice A m c]] w fun e w' => ∃ A' c', e = .returned (.slice A' 13 c') ∧ Row .i64 w' w'.heap.size A' (rankS ID r) ∧ 13 ≤ c' ∧ Below w.heap.size w w' := by
  obtain ⟨w0, hw0⟩ : ∃ w0, w.alloc (.cells #[.bool false, .int .i64 ID, .bool r, .int .i64 n, .slice A m c] 24) = w0 := ⟨_, rfl⟩
  have hB0 := below_lits hw0
  have hF0 : w0.heap[w.heap.size]? = some (.cells #[.bool false, .int .i64 ID, .bool r, .int .i64 n, .slice A m c] 24) := by rw [← hw0]; exact World.alloc_heap_new _ _
  have HW := Lib.hid hw0
  have hfl : flag r = ((flag r).toNat : Int) := by cases r <;> rfl
  have hfb : (flag r).toNat < 2 ^ 1 := by cases r <;> decide
  have HFl := Lib.hid hfl
  clear hw0 hfl
  go_enter Try.func31, Try.ntmps31
  go_wp2_with fail
  rw [HW.out]
  clear HW
  go_region_held3 (fun W => W.cell? ⟨w.heap.size, 0, none⟩ = some (.bool false) ∧ W.cell? ⟨w.heap.size, 1, none⟩ = some (.int .i64 ID) ∧ W.cell? ⟨w.heap.size, 2, none⟩ = some (.bool r) ∧ W.cell? ⟨w.heap.size, 3, none⟩ = some (.int .i64 n) ∧ W.cell? ⟨w.heap.size, 4, none⟩ = some (.slice A m c))
    (exact cells5' (by repeat (first | assumption | exact Below.refl _ _ | ((with_reducible refine lit2 _ _ _ _ _ ?_); (first | (with_reducible rfl) | (simp; done))) | ((with_reducible refine lit1 _ _ _ _ ?_); (first | (with_reducible rfl) | (simp; done))) | refine row_step (by first | assumption | exact below_alloc1 _ _ | exact below_drew1 _ | exact below_drewN0 _ _) ?_ | refine block_below (by first | assumption | exact below_alloc1 _ _ | exact below_drew1 _ | exact below_drewN0 _ _) ?_ | refine below_then ?_ (by first | assumption | exact below_alloc1 _ _ | exact below_drew1 _ | exact below_drewN0 _ _))))
    (first
      | (go_at_call 50; have hq_ := hr4; clear hq_; refine (refFrPut_at (bitRow ID 11 11 ++ bitRow (flag r).toNat 1 1) 12 (by rw [List.length_append, bitRow_len, bitRow_len]) A4 c4 0 0 1 rfl (by omega) (by omega) (by omega) _ (by repeat (first | assumption | exact Below.refl _ _ | ((with_reducible refine lit2 _ _ _ _ _ ?_); (first | (with_reducible rfl) | (simp; done))) | ((with_reducible refine lit1 _ _ _ _ ?_); (first | (with_reducible rfl) | (simp; done))) | refine row_step (by first | assumption | exact below_alloc1 _ _ | exact below_drew1 _ | exact below_drewN0 _ _) ?_ | refine block_below (by first | assumption | exact below_alloc1 _ _ | exact below_drew1 _ | exact below_drewN0 _ _) ?_ | refine below_then ?_ (by first | assumption | exact below_alloc1 _ _ | exact below_drew1 _ | exact below_drewN0 _ _))) 13 rfl).mono ?_; rintro e w5 ⟨A5, c5, rfl, hr5, hc5, hB5⟩)
      | (go_at_call 50; have hq_ := hB3; clear hq_; refine (refFrPut_at (bitRow ID 11 11) 11 (bitRow_len _ _ _) A2 c2 (flag r) (flag r).toNat 1 HFl.out (by omega) hfb (by omega) _ (by repeat (first | assumption | exact Below.refl _ _ | ((with_reducible refine lit2 _ _ _ _ _ ?_); (first | (with_reducible rfl) | (simp; done))) | ((with_reducible refine lit1 _ _ _ _ ?_); (first | (with_reducible rfl) | (simp; done))) | refine row_step (by first | assumption | exact below_alloc1 _ _ | exact below_drew1 _ | exact below_drewN0 _ _) ?_ | refine block_below (by first | assumption | exact below_alloc1 _ _ | exact below_drew1 _ | exact below_drewN0 _ _) ?_ | refine below_then ?_ (by first | assumption | exact below_alloc1 _ _ | exact below_drew1 _ | exact below_drewN0 _ _))) 12 rfl).mono ?_; rintro e w4 ⟨A4, c4, rfl, hr4, hc4, hB4⟩)
      | (go_at_call 50; refine (refFrPut_at [] 0 rfl none 0 (ID : Int) ID 11 rfl (by omega) (by omega) (by omega) _ (.inl rfl) 11 rfl).mono ?_; rintro e w2 ⟨A2, c2, rfl, hr2, hc2, hB2⟩; rw [List.nil_append] at hr2)
      | (go_at_call 56; refine (remote_at false ID r n A m c _).mono ?_; rintro e w3 ⟨rfl, hB3⟩))
  all_goals
    go_wp2_with fail
    go_ret
    refine ⟨A5, c5, rfl, ?_, hc5, by repeat (first | assumption | exact Below.refl _ _ | ((with_reducible refine lit2 _ _ _ _ _ ?_); (first | (with_reducible rfl) | (simp; done))) | ((with_reducible refine lit1 _ _ _ _ ?_); (first | (with_reducible rfl) | (simp; done))) | refine row_step (by first | assumption | exact below_alloc1 _ _ | exact below_drew1 _ | exact below_drewN0 _ _) ?_ | refine block_below (by first | assumption | exact below_alloc1 _ _ | exact below_drew1 _ | exact below_drewN0 _ _) ?_ | refine below_then ?_ (by first | assumption | exact below_alloc1 _ _ | exact below_drew1 _ | exact below_drewN0 _ _))⟩
    unfold rankS
    rw [bits_f, bits_0, List.append_assoc] at hr5
    exact hr5

set_option maxRecDepth 100000 in
set_option maxHeartbeats 4000000 in
theorem refRankX_at (ID : Nat) (r : Bool) (n : Int) (A : Option Addr) (m c : Nat) (hID : ID < 536870912) (w : World) :
    Calls Try.prog 31 #[.agg #[.bool true, .int .i64 ID, .bool r, .int .i64 n, .slice A m c]] w fun e w' => ∃ A' c', e = .returned (.slice A' 32 c') ∧ Row .i64 w' w'.heap.size A' (rankX ID r) ∧ 32 ≤ c' ∧ Below w.heap.size w w' := by
  obtain ⟨w0, hw0⟩ : ∃ w0, w.alloc (.cells #[.bool true, .int .i64 ID, .bool r, .int .i64 n, .slice A m c] 24) = w0 := ⟨_, rfl⟩
  have hB0 := below_lits hw0
  have hF0 : w0.heap[w.heap.size]? = some (.cells #[.bool true, .int .i64 ID, .bool r, .int .i64 n, .slice A m c] 24) := by rw [← hw0]; exact World.alloc_heap_new _ _
  have HW := Lib.hid hw0
  have hfl : flag r = ((flag r).toNat : Int) := by cases r <;> rfl
  have hfb : (flag r).toNat < 2 ^ 1 := by cases r <;> decide
  have HFl := Lib.hid hfl
  obtain ⟨V, hV⟩ : ∃ V, ID % 262144 = V := ⟨_, rfl⟩
  obtain ⟨U, hU⟩ : ∃ U, ID / 262144 = U := ⟨_, rfl⟩
  have hsh : (ID : Int) / 262144 = (U : Int) := by omega
  have hsh2 : (ID : Int) / 2 ^ 18 = (U : Int) := hsh
  have hmd : (ID : Int) % 262144 = (V : Int) := by omega
  have htm : Int.tmod (ID : Int) 262144 = (V : Int) := by rw [Int.tmod_eq_emod_of_nonneg (by omega)]; exact hmd
  have hUb : U < 2 ^ 11 := by omega
  have hVb : V < 2 ^ 18 := by omega
  have HV := Lib.hid hV
  have HU := Lib.hid hU
  clear hw0 hfl hV hU
  go_enter Try.func31, Try.ntmps31
  go_wp2_with fail
  rw [HW.out]
  clear HW
  go_region_held3 (fun W => W.cell? ⟨w.heap.size, 0, none⟩ = some (.bool true) ∧ W.cell? ⟨w.heap.size, 1, none⟩ = some (.int .i64 ID) ∧ W.cell? ⟨w.heap.size, 2, none⟩ = some (.bool r) ∧ W.cell? ⟨w.heap.size, 3, none⟩ = some (.int .i64 n) ∧ W.cell? ⟨w.heap.size, 4, none⟩ = some (.slice A m c))
    (exact cells5' (by repeat (first | assumption | exact Below.refl _ _ | ((with_reducible refine lit2 _ _ _ _ _ ?_); (first | (with_reducible rfl) | (simp; done))) | ((with_reducible refine lit1 _ _ _ _ ?_); (first | (with_reducible rfl) | (simp; done))) | refine row_step (by first | assumption | exact below_alloc1 _ _ | exact below_drew1 _ | exact below_drewN0 _ _) ?_ | refine block_below (by first | assumption | exact below_alloc1 _ _ | exact below_drew1 _ | exact below_drewN0 _ _) ?_ | refine below_then ?_ (by first | assumption | exact below_alloc1 _ _ | exact below_drew1 _ | exact below_drewN0 _ _))))
    (first
      | (go_at_call 50; have hq_ := hB5; clear hq_; refine (refFrPut_at (bitRow U 11 11 ++ bitRow 3 2 2 ++ bitRow V 18 18) 31 (by simp only [List.length_append, bitRow_len]) A4 c4 (flag r) (flag r).toNat 1 HFl.out (by omega) hfb (by omega) _ (by repeat (first | assumption | exact Below.refl _ _ | ((with_reducible refine lit2 _ _ _ _ _ ?_); (first | (with_reducible rfl) | (simp; done))) | ((with_reducible refine lit1 _ _ _ _ ?_); (first | (with_reducible rfl) | (simp; done))) | refine row_step (by first | assumption | exact below_alloc1 _ _ | exact below_drew1 _ | exact below_drewN0 _ _) ?_ | refine block_below (by first | assumption | exact below_alloc1 _ _ | exact below_drew1 _ | exact below_drewN0 _ _) ?_ | refine below_then ?_ (by first | assumption | exact below_alloc1 _ _ | exact below_drew1 _ | exact below_drewN0 _ _))) 32 rfl).mono ?_; rintro e w6 ⟨A6, c6, rfl, hr6, hc6, hB6⟩)
      | (go_at_call 50; have hq_ := hr3; clear hq_; refine (refFrPut_at (bitRow U 11 11 ++ bitRow 3 2 2) 13 (by simp only [List.length_append, bitRow_len]) A3 c3 (V : Int) V 18 rfl (by omega) hVb (by omega) _ (by repeat (first | assumption | exact Below.refl _ _ | ((with_reducible refine lit2 _ _ _ _ _ ?_); (first | (with_reducible rfl) | (simp; done))) | ((with_reducible refine lit1 _ _ _ _ ?_); (first | (with_reducible rfl) | (simp; done))) | refine row_step (by first | assumption | exact below_alloc1 _ _ | exact below_drew1 _ | exact below_drewN0 _ _) ?_ | refine block_below (by first | assumption | exact below_alloc1 _ _ | exact below_drew1 _ | exact below_drewN0 _ _) ?_ | refine below_then ?_ (by first | assumption | exact below_alloc1 _ _ | exact below_drew1 _ | exact below_drewN0 _ _))) 31 rfl).mono ?_; rintro e w4 ⟨A4, c4, rfl, hr4, hc4, hB4⟩)
      | (go_at_call 50; have hq_ := hr2; clear hq_; refine (refFrPut_at (bitRow U 11 11) 11 (bitRow_len _ _ _) A2 c2 3 3 2 rfl (by omega) (by omega) (by omega) _ (by repeat (first | assumption | exact Below.refl _ _ | ((with_reducible refine lit2 _ _ _ _ _ ?_); (first | (with_reducible rfl) | (simp; done))) | ((with_reducible refine lit1 _ _ _ _ ?_); (first | (with_reducible rfl) | (simp; done))) | refine row_step (by first | assumption | exact below_alloc1 _ _ | exact below_drew1 _ | exact below_drewN0 _ _) ?_ | refine block_below (by first | assumption | exact below_alloc1 _ _ | exact below_drew1 _ | exact below_drewN0 _ _) ?_ | refine below_then ?_ (by first | assumption | exact below_alloc1 _ _ | exact below_drew1 _ | exact below_drewN0 _ _))) 13 rfl).mono ?_; rintro e w3 ⟨A3, c3, rfl, hr3, hc3, hB3⟩)
      | (go_at_call 50; refine (refFrPut_at [] 0 rfl none 0 (U : Int) U 11 rfl (by omega) hUb (by omega) _ (.inl rfl) 11 rfl).mono ?_; rintro e w2 ⟨A2, c2, rfl, hr2, hc2, hB2⟩; rw [List.nil_append] at hr2)
      | (go_at_call 56; refine (remote_at true ID r n A m c _).mono ?_; rintro e w5 ⟨rfl, hB5⟩))
  all_goals
    go_wp2_with fail
    go_ret
    refine ⟨A6, c6, rfl, ?_, hc6, by repeat (first | assumption | exact Below.refl _ _ | ((with_reducible refine lit2 _ _ _ _ _ ?_); (first | (with_reducible rfl) | (simp; done))) | ((with_reducible refine lit1 _ _ _ _ ?_); (first | (with_reducible rfl) | (simp; done))) | refine row_step (by first | assumption | exact below_alloc1 _ _ | exact below_drew1 _ | exact below_drewN0 _ _) ?_ | refine block_below (by first | assumption | exact below_alloc1 _ _ | exact below_drew1 _ | exact below_drewN0 _ _) ?_ | refine below_then ?_ (by first | assumption | exact below_alloc1 _ _ | exact below_drew1 _ | exact below_drewN0 _ _))⟩
    unfold rankX
    rw [HU.out, HV.out]
    rw [bits_f, bits_11, List.append_assoc, List.append_assoc] at hr6
    exact hr6

/-- An append of some numbers onto a slice without room, as one step of a drawn region: a new row; nothing old is turned. -/
theorem step_append_new {w : World} {ops : Array Oper} {o : Oper} {a : Act} {K : Act → World → Prop} {Q : Exit → Act → World → Prop} {E : Prop} (hgd : o.guard = none) (s x : Operand)
    (ho : o.op = .call { callee := .builtin .append, args := #[s, x], argTypes := #[25, 25] })
    (i0 : TypeInfo) (hi : Try.prog.info? 3 = some i0) (hz : i0.zero = some (.int .i64 0)) (hsize : i0.size = 1) (hby : i0.bytes = 8)
    (b : Addr) (hs : a.eval s = .slice (some b) 0 0)
    (A : Option Addr) (m c : Nat) (l' : List Int) (hx : a.eval x = .slice A m c) (hm : l'.length = m) (hr : Row .i64 w w.heap.size A l') (h0 : 0 < m) (hmb : m ≤ 100000)
    (h : ∀ A' c' w', w'.ownsRow w.heap.size 3 1 (.slice A' m c') m (l'.map (Value.int .i64)) → Below w.heap.size w w' → K (a.put o.dst (.slice A' m c')) w') :
    if Region.wanted o (yielded ops a.tmps) = true then Oper.wp Try.prog o a w K Q else E := by
  obtain ⟨ad, rfl⟩ : ∃ ad, A = some ad := hr.some_ (by omega)
  have hcells : ∀ j u, (l'.map (Value.int .i64))[j]? = some u → w.cell? (ad.add j) = some u := by
    intro j u hu
    rw [List.getElem?_map, Option.map_eq_some_iff] at hu
    obtain ⟨y, hy, rfl⟩ := hu
    rcases hr with rfl | ⟨ad', e', _, hc⟩
    · simp at hy
    · cases e'; exact hc j y hy
  have hge := grownCap_ge w (0 + m) 0 3
  have hcm : grownCap w (0 + m) 0 3 ≤ maxLen := grownCap_le_maxLen w (0 + m) 0 3 (by unfold maxLen; omega)
  have hrun := fun ty => run_append_grow (P := Try.prog) (w := w) 25 ty 3 i0 (.int .i64 0) Try.underlying25 hi hz b 0 0 [] (by simp) (by simp) ad m c (l'.map (Value.int .i64)) (by simp [hsize, hm]) hcells (by omega) (by omega) (by rw [hby, Nat.zero_add, nextslicecap_zero h0]; omega)
  have hw : Region.wanted o (yielded ops a.tmps) = true := by simp [Region.wanted, hgd]
  rw [if_pos hw]
  unfold Oper.wp execOp
  simp only [ho, resolve, invoke, builtin, Sem.run_bind, Sem.run_pure, Result.andThen_ok, List.map_toArray, List.map_cons, List.map_nil, hs, hx, hrun]
  rw [Nat.zero_add] at hge hcm ⊢
  refine h _ _ _ ⟨by simp [hm], .inr ⟨w.heap.size, _, _, rfl, Nat.le_refl _, World.alloc_heap_new w.drew _, hge, hcm, ?_, ?_⟩⟩ ((below_drew1 w).trans ((below_alloc1 w.drew _)))
  · rw [Array.size_append, Array.size_append, size_zeroCells, show (Value.int IntKind.i64 0).cells.size = 1 from rfl]; simp [hm]; omega
  · simp [hm]

set_option maxRecDepth 100000 in
set_option maxHeartbeats 8000000 in
theorem refHeadS_at (ID : Nat) (r : Bool) (L : Nat) (dl : List Int) (m : Nat) (hdl : dl.length = m) (A : Option Addr) (c : Nat) (hID : ID < 2048) (hL : L ≤ 8) (w : World) (h : Row .u8 w w.heap.size A dl) (hb : byteB dl) (hm : m ≤ 1000) (M : Nat) (hM : 8 * m = M) (N : Nat) (hN : 19 + M = N) :
    Calls Try.prog 25 #[.agg #[.bool false, .int .i64 ID, .bool r, .int .i64 L, .slice A m c]] w fun e w' => ∃ A' c', e = .returned (.slice A' N c') ∧ Row .i64 w' w'.heap.size A' (headV false ID r L dl) ∧ Below w.heap.size w w' := by
  obtain ⟨i0, hi, hz0, hz1, hz2⟩ := info_parts Try.infoInt
  obtain ⟨w0, hw0⟩ : ∃ w0, w.alloc (.cells #[.bool false, .int .i64 ID, .bool r, .int .i64 L, .slice A m c] 24) = w0 := ⟨_, rfl⟩
  have hB0 := below_lits hw0
  have hF0 : w0.heap[w.heap.size]? = some (.cells #[.bool false, .int .i64 ID, .bool r, .int .i64 L, .slice A m c] 24) := by rw [← hw0]; exact World.alloc_heap_new _ _
  have hs0 : w0.heap.size = w.heap.size + 1 := by rw [← hw0]; simp
  have hD0 := h.to hB0
  have o0 := own_lit w0 .i64 [0] 1 rfl 3 (cs := #[.int .i64 0]) rfl (by decide)
  have hF1 : (w0.alloc (.cells #[.int .i64 0] 3)).heap[w.heap.size]? = some (.cells #[.bool false, .int .i64 ID, .bool r, .int .i64 L, .slice A m c] 24) := block_below (below_alloc1 _ _) hF0
  obtain ⟨c0, c1, c2, c3, c4⟩ := cells5' hF1
  rw [hs0] at o0
  rw [← hw0] at c0 c1 c2 c3 c4 o0
  have HW := Lib.hid hw0
  have HS0 := Lib.hid hs0
  have HD := Lib.hid hdl
  have HB := Lib.hid hb
  have HM := Lib.hid hM
  have HN := Lib.hid hN
  clear hw0 hdl hb hM hN hs0
  have hL2 : L < 2 ^ 4 := by omega
  go_enter Try.func25, Try.ntmps25
  go_wp2_with fail
  refine (refRankS_at ID r L A m c hID _).mono ?_
  rintro e w1 ⟨A1, c1', rfl, hr1, hc1, hB1⟩
  clear hID
  have own1 := own_to o0 hB1
  rw [HW.out] at hB1
  have hF2 : w1.heap[w.heap.size]? = some (.cells #[.bool false, .int .i64 ID, .bool r, .int .i64 L, .slice A m c] 24) := block_below hB1 hF1
  have hs1 : w.heap.size + 1 ≤ w1.heap.size := by have := hB1.size; simp at this; have := HS0.out; omega
  clear c0 c1 c2 c3 c4
  go_wp2_with (at_builtin; refine wpList_append_row _ .i64 rfl _ _ 25 rfl (w.heap.size + 1) 3 i0 (.int .i64 0) 8 Try.underlying25 hi hz0 hz1 hz2 rfl _ 1 [0] rfl own1 A1 13 c1' _ (rankS ID r) rfl (rankS_len _ _) hr1 (by decide) (by decide) hs1 ?_; intro A2 c2' w2 hown2 hc2 hB2; have hF3 := (hB2.block w.heap.size (by omega)).trans hF2; obtain ⟨c0, c1, c2, c3, c4⟩ := cells5' hF3)
  have hr2 := Row.own hown2
  have hB2' : Below w0.heap.size w0 w2 := ((below_alloc1 w0 _).trans (hB1.mono (by simp))).trans (hB2.mono (by rw [HS0.out]; exact Nat.le_refl _))
  have hD2 := hD0.to hB2'
  have hBB : Below w.heap.size w w2 := below_then hB0 hB2'
  clear hB1 hB2 hB2' hB0 hown2 own1 o0 hF0 hF1 hF2 hD0 hr1 c0 c1 c2 c3 c4 h
  obtain ⟨l2, hl2⟩ : ∃ l2, ([0] ++ rankS ID r) = l2 := ⟨_, rfl⟩
  have HLn := Lib.hid (show l2.length = 14 by rw [← hl2]; exact (by rw [List.length_append, rankS_len]; rfl))
  rw [hl2] at hr2
  have HL2 := Lib.hid hl2
  clear hl2
  go_region_held3 (fun W => W.cell? ⟨w.heap.size, 0, none⟩ = some (.bool false) ∧ W.cell? ⟨w.heap.size, 1, none⟩ = some (.int .i64 ID) ∧ W.cell? ⟨w.heap.size, 2, none⟩ = some (.bool r) ∧ W.cell? ⟨w.heap.size, 3, none⟩ = some (.int .i64 L) ∧ W.cell? ⟨w.heap.size, 4, none⟩ = some (.slice A m c))
    (exact cells5' (by repeat (first | assumption | exact Below.refl _ _ | ((with_reducible refine lit2 _ _ _ _ _ ?_); (first | (with_reducible rfl) | (simp; done))) | ((with_reducible refine lit1 _ _ _ _ ?_); (first | (with_reducible rfl) | (simp; done))) | refine row_step (by first | assumption | exact below_alloc1 _ _ | exact below_drew1 _ | exact below_drewN0 _ _) ?_ | refine block_below (by first | assumption | exact below_alloc1 _ _ | exact below_drew1 _ | exact below_drewN0 _ _) ?_ | refine below_then ?_ (by first | assumption | exact below_alloc1 _ _ | exact below_drew1 _ | exact below_drewN0 _ _))))
    (first
      | (go_at_call 50; have hq_ := hr3; clear hq_; refine (refFrPut_at (l2 ++ bitRow 0 1 1) 15 (by rw [List.length_append, bitRow_len, HLn.out]) A3 c3' (L : Int) L 4 rfl (by omega) hL2 (by omega) _ (by repeat (first | assumption | exact Below.refl _ _ | ((with_reducible refine lit2 _ _ _ _ _ ?_); (first | (with_reducible rfl) | (simp; done))) | ((with_reducible refine lit1 _ _ _ _ ?_); (first | (with_reducible rfl) | (simp; done))) | refine row_step (by first | assumption | exact below_alloc1 _ _ | exact below_drew1 _ | exact below_drewN0 _ _) ?_ | refine block_below (by first | assumption | exact below_alloc1 _ _ | exact below_drew1 _ | exact below_drewN0 _ _) ?_ | refine below_then ?_ (by first | assumption | exact below_alloc1 _ _ | exact below_drew1 _ | exact below_drewN0 _ _))) 19 rfl).mono ?_; rintro e w4 ⟨A4, c4', rfl, hr4, hc4, hB4⟩)
      | (go_at_call 50; refine (refFrPut_at l2 14 HLn.out A2 c2' 0 0 1 rfl (by omega) (by omega) (by omega) _ (by repeat (first | assumption | exact Below.refl _ _ | ((with_reducible refine lit2 _ _ _ _ _ ?_); (first | (with_reducible rfl) | (simp; done))) | ((with_reducible refine lit1 _ _ _ _ ?_); (first | (with_reducible rfl) | (simp; done))) | refine row_step (by first | assumption | exact below_alloc1 _ _ | exact below_drew1 _ | exact below_drewN0 _ _) ?_ | refine block_below (by first | assumption | exact below_alloc1 _ _ | exact below_drew1 _ | exact below_drewN0 _ _) ?_ | refine below_then ?_ (by first | assumption | exact below_alloc1 _ _ | exact below_drew1 _ | exact below_drewN0 _ _))) 15 rfl).mono ?_; rintro e w3 ⟨A3, c3', rfl, hr3, hc3, hB3⟩))
  have hF5 : w4.heap[w.heap.size]? = some (.cells #[.bool false, .int .i64 ID, .bool r, .int .i64 L, .slice A m c] 24) := by repeat (first | assumption | exact Below.refl _ _ | ((with_reducible refine lit2 _ _ _ _ _ ?_); (first | (with_reducible rfl) | (simp; done))) | ((with_reducible refine lit1 _ _ _ _ ?_); (first | (with_reducible rfl) | (simp; done))) | refine row_step (by first | assumption | exact below_alloc1 _ _ | exact below_drew1 _ | exact below_drewN0 _ _) ?_ | refine block_below (by first | assumption | exact below_alloc1 _ _ | exact below_drew1 _ | exact below_drewN0 _ _) ?_ | refine below_then ?_ (by first | assumption | exact below_alloc1 _ _ | exact below_drew1 _ | exact below_drewN0 _ _))
  have hD5 : Row .u8 w4 w4.heap.size A dl := by repeat (first | assumption | exact Below.refl _ _ | ((with_reducible refine lit2 _ _ _ _ _ ?_); (first | (with_reducible rfl) | (simp; done))) | ((with_reducible refine lit1 _ _ _ _ ?_); (first | (with_reducible rfl) | (simp; done))) | refine row_step (by first | assumption | exact below_alloc1 _ _ | exact below_drew1 _ | exact below_drewN0 _ _) ?_ | refine block_below (by first | assumption | exact below_alloc1 _ _ | exact below_drew1 _ | exact below_drewN0 _ _) ?_ | refine below_then ?_ (by first | assumption | exact below_alloc1 _ _ | exact below_drew1 _ | exact below_drewN0 _ _))
  have hBB5 : Below w.heap.size w w4 := by repeat (first | assumption | exact Below.refl _ _ | ((with_reducible refine lit2 _ _ _ _ _ ?_); (first | (with_reducible rfl) | (simp; done))) | ((with_reducible refine lit1 _ _ _ _ ?_); (first | (with_reducible rfl) | (simp; done))) | refine row_step (by first | assumption | exact below_alloc1 _ _ | exact below_drew1 _ | exact below_drewN0 _ _) ?_ | refine block_below (by first | assumption | exact below_alloc1 _ _ | exact below_drew1 _ | exact below_drewN0 _ _) ?_ | refine below_then ?_ (by first | assumption | exact below_alloc1 _ _ | exact below_drew1 _ | exact below_drewN0 _ _))
  have hl4 : (l2 ++ bitRow 0 1 1 ++ bitRow L 4 4).length = 19 := by rw [List.length_append, List.length_append, bitRow_len, bitRow_len, HLn.out]
  have HL4 := Lib.hid hl4
  have hlt4 : w.heap.size < w4.heap.size := (Array.getElem?_eq_some_iff.1 hF5).1
  have hM2 : M ≤ 8000 := by rw [← HM.out]; omega
  clear hl4 hB3 hB4 hr3 hBB
  go_wp2_with fail
  go_region_held3 (fun W => W.cell? ⟨w.heap.size, 0, none⟩ = some (.bool false) ∧ W.cell? ⟨w.heap.size, 1, none⟩ = some (.int .i64 ID) ∧ W.cell? ⟨w.heap.size, 2, none⟩ = some (.bool r) ∧ W.cell? ⟨w.heap.size, 3, none⟩ = some (.int .i64 L) ∧ W.cell? ⟨w.heap.size, 4, none⟩ = some (.slice A m c))
    (exact cells5' (by repeat (first | assumption | exact Below.refl _ _ | ((with_reducible refine lit2 _ _ _ _ _ ?_); (first | (with_reducible rfl) | (simp; done))) | ((with_reducible refine lit1 _ _ _ _ ?_); (first | (with_reducible rfl) | (simp; done))) | refine row_step (by first | assumption | exact below_alloc1 _ _ | exact below_drew1 _ | exact below_drewN0 _ _) ?_ | refine block_below (by first | assumption | exact below_alloc1 _ _ | exact below_drew1 _ | exact below_drewN0 _ _) ?_ | refine below_then ?_ (by first | assumption | exact below_alloc1 _ _ | exact below_drew1 _ | exact below_drewN0 _ _))))
    (first
      | (go_at_call 51; refine (refSpread_ex dl m HD.out A c _ (by repeat (first | assumption | exact Below.refl _ _ | ((with_reducible refine lit2 _ _ _ _ _ ?_); (first | (with_reducible rfl) | (simp; done))) | ((with_reducible refine lit1 _ _ _ _ ?_); (first | (with_reducible rfl) | (simp; done))) | refine row_step (by first | assumption | exact below_alloc1 _ _ | exact below_drew1 _ | exact below_drewN0 _ _) ?_ | refine block_below (by first | assumption | exact below_alloc1 _ _ | exact below_drew1 _ | exact below_drewN0 _ _) ?_ | refine below_then ?_ (by first | assumption | exact below_alloc1 _ _ | exact below_drew1 _ | exact below_drewN0 _ _))) HB.out (by omega) M HM.out).mono ?_; rintro e w6 ⟨A6, c6, rfl, hr6, hB6⟩)
      | (have hq_ := own7; clear hq_; (refine step_append_row .i64 rfl _ _ 25 rfl _ 3 i0 (.int .i64 0) 8 Try.underlying25 hi hz0 hz1 hz2 rfl _ 19 (l2 ++ bitRow 0 1 1 ++ bitRow L 4 4) rfl (own_to own7 (by repeat (first | assumption | exact Below.refl _ _ | ((with_reducible refine lit2 _ _ _ _ _ ?_); (first | (with_reducible rfl) | (simp; done))) | ((with_reducible refine lit1 _ _ _ _ ?_); (first | (with_reducible rfl) | (simp; done))) | refine row_step (by first | assumption | exact below_alloc1 _ _ | exact below_drew1 _ | exact below_drewN0 _ _) ?_ | refine block_below (by first | assumption | exact below_alloc1 _ _ | exact below_drew1 _ | exact below_drewN0 _ _) ?_ | refine below_then ?_ (by first | assumption | exact below_alloc1 _ _ | exact below_drew1 _ | exact below_drewN0 _ _)))) A6 M c6 _ (spreadL dl) rfl (by rw [spreadL_len, HD.out, HM.out]) (show Row .i64 _ _ A6 (spreadL dl) by repeat (first | assumption | exact Below.refl _ _ | ((with_reducible refine lit2 _ _ _ _ _ ?_); (first | (with_reducible rfl) | (simp; done))) | ((with_reducible refine lit1 _ _ _ _ ?_); (first | (with_reducible rfl) | (simp; done))) | refine row_step (by first | assumption | exact below_alloc1 _ _ | exact below_drew1 _ | exact below_drewN0 _ _) ?_ | refine block_below (by first | assumption | exact below_alloc1 _ _ | exact below_drew1 _ | exact below_drewN0 _ _) ?_ | refine below_then ?_ (by first | assumption | exact below_alloc1 _ _ | exact below_drew1 _ | exact below_drewN0 _ _))) (by unfold maxLen; omega) (by omega) (by have h1 := hB7.size; have h2 := hB6.size; (try simp at h1); (try simp at h2); (first | omega | (simp; omega))) ?_; intro A8 c8 w8 own8 hc8 hB8; have hF8 : w8.heap[w.heap.size]? = some (.cells #[.bool false, .int .i64 ID, .bool r, .int .i64 L, .slice A m c] 24) := (hB8.block w.heap.size (by first | omega | (simp; omega))).trans (by repeat (first | assumption | exact Below.refl _ _ | ((with_reducible refine lit2 _ _ _ _ _ ?_); (first | (with_reducible rfl) | (simp; done))) | ((with_reducible refine lit1 _ _ _ _ ?_); (first | (with_reducible rfl) | (simp; done))) | refine row_step (by first | assumption | exact below_alloc1 _ _ | exact below_drew1 _ | exact below_drewN0 _ _) ?_ | refine block_below (by first | assumption | exact below_alloc1 _ _ | exact below_drew1 _ | exact below_drewN0 _ _) ?_ | refine below_then ?_ (by first | assumption | exact below_alloc1 _ _ | exact below_drew1 _ | exact below_drewN0 _ _)))))
      | (refine step_append_new rfl _ _ rfl i0 hi hz0 hz1 hz2 _ rfl A4 19 c4' (l2 ++ bitRow 0 1 1 ++ bitRow L 4 4) rfl HL4.out (by repeat (first | assumption | exact Below.refl _ _ | ((with_reducible refine lit2 _ _ _ _ _ ?_); (first | (with_reducible rfl) | (simp; done))) | ((with_reducible refine lit1 _ _ _ _ ?_); (first | (with_reducible rfl) | (simp; done))) | refine row_step (by first | assumption | exact below_alloc1 _ _ | exact below_drew1 _ | exact below_drewN0 _ _) ?_ | refine block_below (by first | assumption | exact below_alloc1 _ _ | exact below_drew1 _ | exact below_drewN0 _ _) ?_ | refine below_then ?_ (by first | assumption | exact below_alloc1 _ _ | exact below_drew1 _ | exact below_drewN0 _ _))) (by omega) (by omega) ?_; intro A7 c7 w7 own7 hB7))
  all_goals
    go_wp2_with fail
    go_ret
    refine ⟨A8, c8, by rw [← HN.out]; rfl, ?_, ?_⟩
    · have hrf := Row.own own8
      rw [← HL2.out] at hrf
      have e : headV false ID r L dl = ([0] ++ rankS ID r) ++ bitRow 0 1 1 ++ bitRow L 4 4 ++ spreadL dl := by simp [headV, bits_0]
      rw [e]
      exact hrf
    · refine Below.trans (b := _) ?_ (hB8.mono (by first | omega | (simp; omega)))
      exact hBB5.trans (Below.mono (B := w4.heap.size) (by repeat (first | assumption | exact Below.refl _ _ | ((with_reducible refine lit2 _ _ _ _ _ ?_); (first | (with_reducible rfl) | (simp; done))) | ((with_reducible refine lit1 _ _ _ _ ?_); (first | (with_reducible rfl) | (simp; done))) | refine row_step (by first | assumption | exact below_alloc1 _ _ | exact below_drew1 _ | exact below_drewN0 _ _) ?_ | refine block_below (by first | assumption | exact below_alloc1 _ _ | exact below_drew1 _ | exact below_drewN0 _ _) ?_ | refine below_then ?_ (by first | assumption | exact below_alloc1 _ _ | exact below_drew1 _ | exact below_drewN0 _ _))) hBB5.size)

set_option maxRecDepth 100000 in
set_option maxHeartbeats 8000000 in
theorem refHeadX_at (ID : Nat) (r : Bool) (L : Nat) (dl : List Int) (m : Nat) (hdl : dl.length = m) (A : Option Addr) (c : Nat) (hID : ID < 536870912) (hL : L ≤ 8) (w : World) (h : Row .u8 w w.heap.size A dl) (hb : byteB dl) (hm : m ≤ 1000) (M : Nat) (hM : 8 * m = M) (N : Nat) (hN : 39 + M = N) :
    Calls Try.prog 25 #[.agg #[.bool true, .int .i64 ID, .bool r, .int .i64 L, .slice A m c]] w fun e w' => ∃ A' c', e = .returned (.slice A' N c') ∧ Row .i64 w' w'.heap.size A' (headV true ID r L dl) ∧ Below w.heap.size w w' := by
  obtain ⟨i0, hi, hz0, hz1, hz2⟩ := info_parts Try.infoInt
  obtain ⟨w0, hw0⟩ : ∃ w0, w.alloc (.cells #[.bool true, .int .i64 ID, .bool r, .int .i64 L, .slice A m c] 24) = w0 := ⟨_, rfl⟩
  have hB0 := below_lits hw0
  have hF0 : w0.heap[w.heap.size]? = some (.cells #[.bool true, .int .i64 ID, .bool r, .int .i64 L, .slice A m c] 24) := by rw [← hw0]; exact World.alloc_heap_new _ _
  have hs0 : w0.heap.size = w.heap.size + 1 := by rw [← hw0]; simp
  have hD0 := h.to hB0
  have o0 := own_lit w0 .i64 [0] 1 rfl 3 (cs := #[.int .i64 0]) rfl (by decide)
  have hF1 : (w0.alloc (.cells #[.int .i64 0] 3)).heap[w.heap.size]? = some (.cells #[.bool true, .int .i64 ID, .bool r, .int .i64 L, .slice A m c] 24) := block_below (below_alloc1 _ _) hF0
  obtain ⟨c0, c1, c2, c3, c4⟩ := cells5' hF1
  rw [hs0] at o0
  rw [← hw0] at c0 c1 c2 c3 c4 o0
  have HW := Lib.hid hw0
  have HS0 := Lib.hid hs0
  have HD := Lib.hid hdl
  have HB := Lib.hid hb
  have HM := Lib.hid hM
  have HN := Lib.hid hN
  clear hw0 hdl hb hM hN hs0
  have hL2 : L < 2 ^ 4 := by omega
  go_enter Try.func25, Try.ntmps25
  go_wp2_with fail
  refine (refRankX_at ID r L A m c hID _).mono ?_
  rintro e w1 ⟨A1, c1', rfl, hr1, hc1, hB1⟩
  clear hID
  have own1 := own_to o0 hB1
  rw [HW.out] at hB1
  have hF2 : w1.heap[w.heap.size]? = some (.cells #[.bool true, .int .i64 ID, .bool r, .int .i64 L, .slice A m c] 24) := block_below hB1 hF1
  have hs1 : w.heap.size + 1 ≤ w1.heap.size := by have := hB1.size; simp at this; have := HS0.out; omega
  clear c0 c1 c2 c3 c4
  go_wp2_with (at_builtin; refine wpList_append_row _ .i64 rfl _ _ 25 rfl (w.heap.size + 1) 3 i0 (.int .i64 0) 8 Try.underlying25 hi hz0 hz1 hz2 rfl _ 1 [0] rfl own1 A1 32 c1' _ (rankX ID r) rfl (rankX_len _ _) hr1 (by decide) (by decide) hs1 ?_; intro A2 c2' w2 hown2 hc2 hB2; have hF3 := (hB2.block w.heap.size (by omega)).trans hF2; obtain ⟨c0, c1, c2, c3, c4⟩ := cells5' hF3)
  have hr2 := Row.own hown2
  have hB2' : Below w0.heap.size w0 w2 := ((below_alloc1 w0 _).trans (hB1.mono (by simp))).trans (hB2.mono (by rw [HS0.out]; exact Nat.le_refl _))
  have hD2 := hD0.to hB2'
  have hBB : Below w.heap.size w w2 := below_then hB0 hB2'
  clear hB1 hB2 hB2' hB0 hown2 own1 o0 hF0 hF1 hF2 hD0 hr1 c0 c1 c2 c3 c4 h
  refine (refFrPut_at ([0] ++ rankX ID r) 33 (by rw [List.length_append, rankX_len]; rfl) A2 c2' 0 0 1 rfl (by omega) (by omega) (by omega) _ hr2 34 rfl).mono ?_
  rintro e w2a ⟨A2a, c2a, rfl, hr2a, hc2a, hB2a⟩
  have hF3a := block_below hB2a hF3
  have hD2a := hD2.to hB2a
  have hBBa := below_then hBB hB2a
  clear hBB hB2a hD2 hF3 hr2
  go_wp2_with fail
  obtain ⟨l2, hl2⟩ : ∃ l2, ([0] ++ rankX ID r ++ bitRow 0 1 1) = l2 := ⟨_, rfl⟩
  have HLn := Lib.hid (show l2.length = 34 by rw [← hl2]; exact (by simp only [List.length_append, rankX_len, bitRow_len]; rfl))
  rw [hl2] at hr2a
  have HL2 := Lib.hid hl2
  clear hl2
  go_region_held3 (fun W => W.cell? ⟨w.heap.size, 0, none⟩ = some (.bool true) ∧ W.cell? ⟨w.heap.size, 1, none⟩ = some (.int .i64 ID) ∧ W.cell? ⟨w.heap.size, 2, none⟩ = some (.bool r) ∧ W.cell? ⟨w.heap.size, 3, none⟩ = some (.int .i64 L) ∧ W.cell? ⟨w.heap.size, 4, none⟩ = some (.slice A m c))
    (exact cells5' (by repeat (first | assumption | exact Below.refl _ _ | ((with_reducible refine lit2 _ _ _ _ _ ?_); (first | (with_reducible rfl) | (simp; done))) | ((with_reducible refine lit1 _ _ _ _ ?_); (first | (with_reducible rfl) | (simp; done))) | refine row_step (by first | assumption | exact below_alloc1 _ _ | exact below_drew1 _ | exact below_drewN0 _ _) ?_ | refine block_below (by first | assumption | exact below_alloc1 _ _ | exact below_drew1 _ | exact below_drewN0 _ _) ?_ | refine below_then ?_ (by first | assumption | exact below_alloc1 _ _ | exact below_drew1 _ | exact below_drewN0 _ _))))
    (first
      | (go_at_call 50; have hq_ := hr3; clear hq_; refine (refFrPut_at (l2 ++ bitRow 0 1 1) 35 (by rw [List.length_append, bitRow_len, HLn.out]) A3 c3' (L : Int) L 4 rfl (by omega) hL2 (by omega) _ (by repeat (first | assumption | exact Below.refl _ _ | ((with_reducible refine lit2 _ _ _ _ _ ?_); (first | (with_reducible rfl) | (simp; done))) | ((with_reducible refine lit1 _ _ _ _ ?_); (first | (with_reducible rfl) | (simp; done))) | refine row_step (by first | assumption | exact below_alloc1 _ _ | exact below_drew1 _ | exact below_drewN0 _ _) ?_ | refine block_below (by first | assumption | exact below_alloc1 _ _ | exact below_drew1 _ | exact below_drewN0 _ _) ?_ | refine below_then ?_ (by first | assumption | exact below_alloc1 _ _ | exact below_drew1 _ | exact below_drewN0 _ _))) 39 rfl).mono ?_; rintro e w4 ⟨A4, c4', rfl, hr4, hc4, hB4⟩)
      | (go_at_call 50; refine (refFrPut_at l2 34 HLn.out A2a c2a 0 0 1 rfl (by omega) (by omega) (by omega) _ (by repeat (first | assumption | exact Below.refl _ _ | ((with_reducible refine lit2 _ _ _ _ _ ?_); (first | (with_reducible rfl) | (simp; done))) | ((with_reducible refine lit1 _ _ _ _ ?_); (first | (with_reducible rfl) | (simp; done))) | refine row_step (by first | assumption | exact below_alloc1 _ _ | exact below_drew1 _ | exact below_drewN0 _ _) ?_ | refine block_below (by first | assumption | exact below_alloc1 _ _ | exact below_drew1 _ | exact below_drewN0 _ _) ?_ | refine below_then ?_ (by first | assumption | exact below_alloc1 _ _ | exact below_drew1 _ | exact below_drewN0 _ _))) 35 rfl).mono ?_; rintro e w3 ⟨A3, c3', rfl, hr3, hc3, hB3⟩))
  have hF5 : w4.heap[w.heap.size]? = some (.cells #[.bool true, .int .i64 ID, .bool r, .int .i64 L, .slice A m c] 24) := by repeat (first | assumption | exact Below.refl _ _ | ((with_reducible refine lit2 _ _ _ _ _ ?_); (first | (with_reducible rfl) | (simp; done))) | ((with_reducible refine lit1 _ _ _ _ ?_); (first | (with_reducible rfl) | (simp; done))) | refine row_step (by first | assumption | exact below_alloc1 _ _ | exact below_drew1 _ | exact below_drewN0 _ _) ?_ | refine block_below (by first | assumption | exact below_alloc1 _ _ | exact below_drew1 _ | exact below_drewN0 _ _) ?_ | refine below_then ?_ (by first | assumption | exact below_alloc1 _ _ | exact below_drew1 _ | exact below_drewN0 _ _))
  have hD5 : Row .u8 w4 w4.heap.size A dl := by repeat (first | assumption | exact Below.refl _ _ | ((with_reducible refine lit2 _ _ _ _ _ ?_); (first | (with_reducible rfl) | (simp; done))) | ((with_reducible refine lit1 _ _ _ _ ?_); (first | (with_reducible rfl) | (simp; done))) | refine row_step (by first | assumption | exact below_alloc1 _ _ | exact below_drew1 _ | exact below_drewN0 _ _) ?_ | refine block_below (by first | assumption | exact below_alloc1 _ _ | exact below_drew1 _ | exact below_drewN0 _ _) ?_ | refine below_then ?_ (by first | assumption | exact below_alloc1 _ _ | exact below_drew1 _ | exact below_drewN0 _ _))
  have hBB5 : Below w.heap.size w w4 := by repeat (first | assumption | exact Below.refl _ _ | ((with_reducible refine lit2 _ _ _ _ _ ?_); (first | (with_reducible rfl) | (simp; done))) | ((with_reducible refine lit1 _ _ _ _ ?_); (first | (with_reducible rfl) | (simp; done))) | refine row_step (by first | assumption | exact below_alloc1 _ _ | exact below_drew1 _ | exact below_drewN0 _ _) ?_ | refine block_below (by first | assumption | exact below_alloc1 _ _ | exact below_drew1 _ | exact below_drewN0 _ _) ?_ | refine below_then ?_ (by first | assumption | exact below_alloc1 _ _ | exact below_drew1 _ | exact below_drewN0 _ _))
  have hl4 : (l2 ++ bitRow 0 1 1 ++ bitRow L 4 4).length = 39 := by rw [List.length_append, List.length_append, bitRow_len, bitRow_len, HLn.out]
  have HL4 := Lib.hid hl4
  have hlt4 : w.heap.size < w4.heap.size := (Array.getElem?_eq_some_iff.1 hF5).1
  have hM2 : M ≤ 8000 := by rw [← HM.out]; omega
  clear hl4 hB3 hB4 hr3 hBBa
  go_wp2_with fail
  go_region_held3 (fun W => W.cell? ⟨w.heap.size, 0, none⟩ = some (.bool true) ∧ W.cell? ⟨w.heap.size, 1, none⟩ = some (.int .i64 ID) ∧ W.cell? ⟨w.heap.size, 2, none⟩ = some (.bool r) ∧ W.cell? ⟨w.heap.size, 3, none⟩ = some (.int .i64 L) ∧ W.cell? ⟨w.heap.size, 4, none⟩ = some (.slice A m c))
    (exact cells5' (by repeat (first | assumption | exact Below.refl _ _ | ((with_reducible refine lit2 _ _ _ _ _ ?_); (first | (with_reducible rfl) | (simp; done))) | ((with_reducible refine lit1 _ _ _ _ ?_); (first | (with_reducible rfl) | (simp; done))) | refine row_step (by first | assumption | exact below_alloc1 _ _ | exact below_drew1 _ | exact below_drewN0 _ _) ?_ | refine block_below (by first | assumption | exact below_alloc1 _ _ | exact below_drew1 _ | exact below_drewN0 _ _) ?_ | refine below_then ?_ (by first | assumption | exact below_alloc1 _ _ | exact below_drew1 _ | exact below_drewN0 _ _))))
    (first
      | (go_at_call 51; refine (refSpread_ex dl m HD.out A c _ (by repeat (first | assumption | exact Below.refl _ _ | ((with_reducible refine lit2 _ _ _ _ _ ?_); (first | (with_reducible rfl) | (simp; done))) | ((with_reducible refine lit1 _ _ _ _ ?_); (first | (with_reducible rfl) | (simp; done))) | refine row_step (by first | assumption | exact below_alloc1 _ _ | exact below_drew1 _ | exact below_drewN0 _ _) ?_ | refine block_below (by first | assumption | exact below_alloc1 _ _ | exact below_drew1 _ | exact below_drewN0 _ _) ?_ | refine below_then ?_ (by first | assumption | exact below_alloc1 _ _ | exact below_drew1 _ | exact below_drewN0 _ _))) HB.out (by omega) M HM.out).mono ?_; rintro e w6 ⟨A6, c6, rfl, hr6, hB6⟩)
      | (have hq_ := own7; clear hq_; (refine step_append_row .i64 rfl _ _ 25 rfl _ 3 i0 (.int .i64 0) 8 Try.underlying25 hi hz0 hz1 hz2 rfl _ 39 (l2 ++ bitRow 0 1 1 ++ bitRow L 4 4) rfl (own_to own7 (by repeat (first | assumption | exact Below.refl _ _ | ((with_reducible refine lit2 _ _ _ _ _ ?_); (first | (with_reducible rfl) | (simp; done))) | ((with_reducible refine lit1 _ _ _ _ ?_); (first | (with_reducible rfl) | (simp; done))) | refine row_step (by first | assumption | exact below_alloc1 _ _ | exact below_drew1 _ | exact below_drewN0 _ _) ?_ | refine block_below (by first | assumption | exact below_alloc1 _ _ | exact below_drew1 _ | exact below_drewN0 _ _) ?_ | refine below_then ?_ (by first | assumption | exact below_alloc1 _ _ | exact below_drew1 _ | exact below_drewN0 _ _)))) A6 M c6 _ (spreadL dl) rfl (by rw [spreadL_len, HD.out, HM.out]) (show Row .i64 _ _ A6 (spreadL dl) by repeat (first | assumption | exact Below.refl _ _ | ((with_reducible refine lit2 _ _ _ _ _ ?_); (first | (with_reducible rfl) | (simp; done))) | ((with_reducible refine lit1 _ _ _ _ ?_); (first | (with_reducible rfl) | (simp; done))) | refine row_step (by first | assumption | exact below_alloc1 _ _ | exact below_drew1 _ | exact below_drewN0 _ _) ?_ | refine block_below (by first | assumption | exact below_alloc1 _ _ | exact below_drew1 _ | exact below_drewN0 _ _) ?_ | refine below_then ?_ (by first | assumption | exact below_alloc1 _ _ | exact below_drew1 _ | exact below_drewN0 _ _))) (by unfold maxLen; omega) (by omega) (by have h1 := hB7.size; have h2 := hB6.size; (try simp at h1); (try simp at h2); (first | omega | (simp; omega))) ?_; intro A8 c8 w8 own8 hc8 hB8; have hF8 : w8.heap[w.heap.size]? = some (.cells #[.bool true, .int .i64 ID, .bool r, .int .i64 L, .slice A m c] 24) := (hB8.block w.heap.size (by first | omega | (simp; omega))).trans (by repeat (first | assumption | exact Below.refl _ _ | ((with_reducible refine lit2 _ _ _ _ _ ?_); (first | (with_reducible rfl) | (simp; done))) | ((with_reducible refine lit1 _ _ _ _ ?_); (first | (with_reducible rfl) | (simp; done))) | refine row_step (by first | assumption | exact below_alloc1 _ _ | exact below_drew1 _ | exact below_drewN0 _ _) ?_ | refine block_below (by first | assumption | exact below_alloc1 _ _ | exact below_drew1 _ | exact below_drewN0 _ _) ?_ | refine below_then ?_ (by first | assumption | exact below_alloc1 _ _ | exact below_drew1 _ | exact below_drewN0 _ _)))))
      | (refine step_append_new rfl _ _ rfl i0 hi hz0 hz1 hz2 _ rfl A4 39 c4' (l2 ++ bitRow 0 1 1 ++ bitRow L 4 4) rfl HL4.out (by repeat (first | assumption | exact Below.refl _ _ | ((with_reducible refine lit2 _ _ _ _ _ ?_); (first | (with_reducible rfl) | (simp; done))) | ((with_reducible refine lit1 _ _ _ _ ?_); (first | (with_reducible rfl) | (simp; done))) | refine row_step (by first | assumption | exact below_alloc1 _ _ | exact below_drew1 _ | exact below_drewN0 _ _) ?_ | refine block_below (by first | assumption | exact below_alloc1 _ _ | exact below_drew1 _ | exact below_drewN0 _ _) ?_ | refine below_then ?_ (by first | assumption | exact below_alloc1 _ _ | exact below_drew1 _ | exact below_drewN0 _ _))) (by omega) (by omega) ?_; intro A7 c7 w7 own7 hB7))
  all_goals
    go_wp2_with fail
    go_ret
    refine ⟨A8, c8, by rw [← HN.out]; rfl, ?_, ?_⟩
    · have hrf := Row.own own8
      rw [← HL2.out] at hrf
      have e : headV true ID r L dl = ([0] ++ rankX ID r ++ bitRow 0 1 1) ++ bitRow 0 1 1 ++ bitRow L 4 4 ++ spreadL dl := by simp [headV, bits_0]
      rw [e]
      exact hrf
    · refine Below.trans (b := _) ?_ (hB8.mono (by first | omega | (simp; omega)))
      exact hBB5.trans (Below.mono (B := w4.heap.size) (by repeat (first | assumption | exact Below.refl _ _ | ((with_reducible refine lit2 _ _ _ _ _ ?_); (first | (with_reducible rfl) | (simp; done))) | ((with_reducible refine lit1 _ _ _ _ ?_); (first | (with_reducible rfl) | (simp; done))) | refine row_step (by first | assumption | exact below_alloc1 _ _ | exact below_drew1 _ | exact below_drewN0 _ _) ?_ | refine block_below (by first | assumption | exact below_alloc1 _ _ | exact below_drew1 _ | exact below_drewN0 _ _) ?_ | refine below_then ?_ (by first | assumption | exact below_alloc1 _ _ | exact below_drew1 _ | exact below_drewN0 _ _))) hBB5.size)

end Go.Proofs.Ytmapkjjglhpamaa
