/-
  wire.Bits, wire.Length, wire.Most.
-/
import Derived.Test.YtmapkjjglhpamaaWRead
import Derived.Test.YtmapkjjglhpamaaStuff
import Derived.Test.YtmapkjjglhpamaaFr5
namespace Go.Proofs.Ytmapkjjglhpamaa
open Go.RowKit

theorem concat2 (A1 A2 : Option Addr) (n1 n2 c1 c2 : Nat) (l1 l2 : List Int) (e1 : l1.length = n1) (e2 : l2.length = n2) (W : World) (t : TypeId)
    (h1 : Row .i64 W W.heap.size A1 l1) (h2 : Row .i64 W W.heap.size A2 l2) (N : Nat) (hN : n1 + n2 = N) (hN2 : N ≤ 100000) {S : Nat} (hS : S = W.heap.size) :
    Calls Try.prog 39 #[.slice (some ⟨S, 0, none⟩) 2 2] (W.alloc (.cells #[.slice A1 n1 c1, .slice A2 n2 c2] t)) fun e w' =>
      ∃ A c, e = .returned (.slice A N c) ∧ Row .i64 w' w'.heap.size A (l1 ++ l2) ∧ N ≤ c ∧ Below W.heap.size W w' := by
  subst e1 e2 hN hS
  refine (concat_at [(.slice A1 l1.length c1, l1), (.slice A2 l2.length c2, l2)] 2 rfl _ 2 _ (Parts.lit W _ t rfl ?_) (by omega) _ (by simp [cat]) hN2 (by omega)).mono ?_
  · intro p hp
    simp only [List.mem_cons, List.not_mem_nil, or_false] at hp
    rcases hp with rfl | rfl
    · exact ⟨_, _, rfl, h1⟩
    · exact ⟨_, _, rfl, h2⟩
  · rintro e w' ⟨A, c, rfl, hown, hB⟩
    have hr := Row.own hown
    simp only [cat, List.flatMap_cons, List.flatMap_nil, List.append_nil] at hr
    exact ⟨A, c, rfl, hr, own_cap hown, below_lit hB⟩

/-- The checksum's fifteen bits; what is stuffed; what is sent. -/
def sumV (h : List Int) : List Int := bitRow (crc15 h).toNat 15 15
def bareV (h : List Int) : List Int := h ++ sumV h
def ones (k : Nat) : List Int := List.replicate k 1
def sentV (h : List Int) : List Int := stuffL (bareV h) ++ ones 10
theorem crc_lt (h : List Int) : (crc15 h).toNat < 2 ^ 15 := (crc15 h).isLt
theorem sumV_len (h : List Int) : (sumV h).length = 15 := bitRow_len _ _ _
theorem bareV_len (h : List Int) : (bareV h).length = h.length + 15 := by simp [bareV, sumV_len]
theorem bareV_right {h : List Int} (hr : rightB h = true) : rightB (bareV h) = true := by unfold bareV sumV; rw [rightB_append, hr, bitRow_right]; rfl
theorem ones_succ (k : Nat) : ones (k + 1) = ones k ++ [1] := by simp [ones, List.replicate_succ']
theorem stuffL_most (h : List Int) : (stuffL h).length ≤ h.length + h.length / 4 := by
  have := stuffL_len h
  omega
theorem sentV_len (h : List Int) : (sentV h).length = (stuffL (bareV h)).length + 10 := by simp [sentV, ones]

theorem stuff_at (l : List Int) (n : Nat) (hn : l.length = n) (A : Option Addr) (c : Nat) (w : World) (h : Row .i64 w w.heap.size A l) (hr : rightB l = true) (hm : n ≤ 100000) (M : Nat) (hM : (stuffL l).length = M) :
    Calls Try.prog 38 #[.slice A n c] w fun e w' => ∃ cap, e = .returned (.slice (some ⟨w.heap.size, 0, none⟩) M cap) ∧
      w'.ownsRow w.heap.size 3 1 (.slice (some ⟨w.heap.size, 0, none⟩) M cap) M ((stuffL l).map (Value.int .i64)) ∧ Below w.heap.size w w' := by
  subst hn hM; exact stuff_any l A c w h hr hm

set_option maxRecDepth 100000 in
set_option maxHeartbeats 2000000 in
theorem wireBits_at (x : Bool) (ID : Nat) (r : Bool) (L : Nat) (dl : List Int) (m : Nat) (hdl : dl.length = m) (A : Option Addr) (c : Nat) (hID : idOk x ID) (hL : L ≤ 8) (w : World) (h : Row .u8 w w.heap.size A dl) (hb : byteB dl) (hm : m ≤ 1000) (T : List Int) (hT : headV x ID r L dl = T) (N : Nat) (hN : (sentV T).length = N) :
    Calls Try.prog 15 #[.agg #[.bool x, .int .i64 ID, .bool r, .int .i64 L, .slice A m c]] w fun e w' => ∃ A' c', e = .returned (.slice A' N c') ∧ Row .i64 w' w'.heap.size A' (sentV T) ∧ N ≤ c' ∧ Below w.heap.size w w' := by
  obtain ⟨i0, hi, hz0, hz1, hz2⟩ := info_parts Try.infoInt
  obtain ⟨K, hK⟩ : ∃ K, T.length = K := ⟨_, rfl⟩
  have hKn : hn x + 8 * m = K := by rw [← hK, ← hT, headV_len, hdl]
  have hK2 : K ≤ 8100 := by have : hn x ≤ 39 := (by cases x <;> decide); omega
  obtain ⟨M, hM⟩ : ∃ M, (stuffL (bareV T)).length = M := ⟨_, rfl⟩
  have hM2 : M ≤ 20000 := by have := stuffL_most (bareV T); rw [bareV_len, hK] at this; omega
  have hrT : rightB T = true := by rw [← hT]; exact headV_right _ _ _ _ _
  have hNM : M + 10 = N := by rw [← hN, sentV_len, hM]
  have hlb := bareV_len T
  rw [hK] at hlb
  have HT := Lib.hid hT
  have HdL := Lib.hid hdl
  have HK := Lib.hid hK
  have HKn := Lib.hid hKn
  have HM := Lib.hid hM
  have HrT := Lib.hid hrT
  have Hlb := Lib.hid hlb
  have HrB := Lib.hid (bareV_right hrT)
  have HB := Lib.hid hb
  clear hT hdl hK hKn hM hN hrT hlb hb
  have hB0 := below_alloc1 w (.cells #[.bool x, .int .i64 ID, .bool r, .int .i64 L, .slice A m c] 24)
  have r0 := h.to hB0
  go_enter Try.func15, Try.ntmps15
  go_wp2_with fail
  refine (head_at x ID r L dl m HdL.out A c hID hL _ r0 HB.out hm (8 * m) rfl K HKn.out).mono ?_
  rintro e w1 ⟨A1, c1, rfl, hr1, hc1, hB1⟩
  rw [HT.out] at hr1
  go_wp2_with fail
  refine (crcBits_at T K HK.out A1 c1 w1 hr1 HrT.out (by unfold maxLen; omega) _ rfl).mono ?_
  rintro e w2 ⟨rfl, hB2⟩
  go_wp2_with fail
  refine (put_yes_at _ 15 (crc15 T).toNat 15 rfl rfl (by omega) (crc_lt T) w2).mono ?_
  rintro e w3 ⟨A3, rfl, hr3, hB3⟩
  have r1 := (hr1.to hB2).to hB3
  have hBa := below_then (below_then (below_then hB0 hB1) hB2) hB3
  clear hB0 hB1 hB2 hB3 hr1
  go_wp2_with fail
  refine (concat2 A1 A3 K 15 c1 15 T (sumV T) HK.out (sumV_len T) w3 _ r1 hr3 (K + 15) rfl (by omega) rfl).mono ?_
  rintro e w4 ⟨A4, c4, rfl, hr4, hc4, hB4⟩
  go_wp2_with fail
  refine (stuff_at (bareV T) (K + 15) Hlb.out A4 c4 w4 hr4 HrB.out (by omega) M HM.out).mono ?_
  rintro e w5 ⟨cap, rfl, hown5, hB5⟩
  have hBb := below_then (below_then hBa hB4) hB5
  have hsz4 := (below_then hBa hB4).size
  clear hBa hB4 hB5 hr4 r1 hr3
  go_wp2_with fail
  go_loopw [6, 20] (fun o i wr => ∃ (k : Nat) (A' : Option Addr) (c' : Nat), k ≤ 10 ∧ i = .int .i64 k ∧ o = .slice A' (M + k) c' ∧ wr.ownsRow w.heap.size 3 1 (.slice A' (M + k) c') (M + k) ((stuffL (bareV T) ++ ones k).map (Value.int .i64)) ∧ Below w.heap.size w wr) (fun _ i _ => 10 - (intOf i).toNat)
  case atStart => exact ⟨0, _, cap, by omega, rfl, rfl, by simpa [ones] using own_low hown5 hsz4, hBb⟩
  case round =>
    clear hown5 hBb hsz4
    obtain ⟨k, A', c', hk, rfl, rfl, hown, hB⟩ := hrel
    have hsz := hB.size
    by_cases hlt : k < 10
    · go_wp2_with (at_builtin; refine wpList_append_row _ .i64 rfl _ _ 25 rfl w.heap.size 3 i0 (.int .i64 0) 8 Try.underlying25 hi hz0 hz1 hz2 rfl _ (M + k) (stuffL (bareV T) ++ ones k) rfl (hown.alloc _) (some ⟨wr.heap.size, 0, none⟩) 1 1 _ [1] rfl rfl (Row.lit wr .i64 [1] 3 rfl) (by unfold maxLen; omega) (by omega) (by simp; omega) ?_; intro A2 c2 w2 hown2 hc2 hB2)
      refine ⟨⟨k + 1, A2, c2, by omega, by go_num, rfl, ?_, (hB.alloc hsz _).trans hB2⟩, by simp [intOf]; omega⟩
      rw [ones_succ, ← List.append_assoc]
      exact hown2
    · obtain rfl : k = 10 := by omega
      go_wp2_with fail
      go_ret
      rw [hNM] at hown ⊢
      exact ⟨A', c', rfl, Row.own hown, own_cap hown, hB⟩

set_option maxHeartbeats 1000000 in
theorem wireLength_at (x : Bool) (ID : Nat) (r : Bool) (L : Nat) (dl : List Int) (m : Nat) (hdl : dl.length = m) (A : Option Addr) (c : Nat) (hID : idOk x ID) (hL : L ≤ 8) (w : World) (h : Row .u8 w w.heap.size A dl) (hb : byteB dl) (hm : m ≤ 1000) (T : List Int) (hT : headV x ID r L dl = T) (N : Nat) (hN : (sentV T).length = N) :
    Calls Try.prog 17 #[.agg #[.bool x, .int .i64 ID, .bool r, .int .i64 L, .slice A m c]] w fun e w' => e = .returned (.int .i64 N) ∧ Below w.heap.size w w' := by
  have HT := Lib.hid hT
  have HdL := Lib.hid hdl
  have HN := Lib.hid hN
  have HB := Lib.hid hb
  clear hT hdl hN hb
  have hB0 := below_alloc1 w (.cells #[.bool x, .int .i64 ID, .bool r, .int .i64 L, .slice A m c] 24)
  have r0 := h.to hB0
  go_enter Try.func17, Try.ntmps17
  go_wp2_with fail
  refine (wireBits_at x ID r L dl m HdL.out A c hID hL _ r0 HB.out hm T HT.out N HN.out).mono ?_
  rintro e w1 ⟨A1, c1, rfl, hr1, hc1, hB1⟩
  go_wp2_with fail
  go_ret
  exact ⟨rfl, below_then hB0 hB1⟩

def mostV (x : Bool) (n : Nat) : Nat := (if x then 54 else 34) + 8 * n + ((if x then 54 else 34) + 8 * n - 1) / 4 + 10
set_option maxHeartbeats 1000000 in
theorem wireMost_at (x : Bool) (n : Nat) (hn : n ≤ 1000) (w : World) (v : Int) (hv : ((mostV x n : Nat) : Int) = v) :
    Calls Try.prog 19 #[.bool x, .int .i64 n] w fun e w' => e = .returned (.int .i64 v) ∧ w = w' := by
  subst hv
  cases x
  · have e : ((mostV false n : Nat) : Int) = 34 + 8 * (n : Int) + (34 + 8 * (n : Int) - 1) / 4 + 10 := by simp only [mostV, Bool.false_eq_true, if_false]; omega
    have E := Lib.hid e
    clear e
    go_enter Try.func19, Try.ntmps19
    go_wp2_with fail
    go_ret
    refine ⟨ret_int ?_, rfl⟩
    rw [E.out]
    omega
  · have e : ((mostV true n : Nat) : Int) = 54 + 8 * (n : Int) + (54 + 8 * (n : Int) - 1) / 4 + 10 := by simp only [mostV, if_true]; omega
    have E := Lib.hid e
    clear e
    go_enter Try.func19, Try.ntmps19
    go_wp2_with fail
    go_ret
    refine ⟨ret_int ?_, rfl⟩
    rw [E.out]
    omega

end Go.Proofs.Ytmapkjjglhpamaa
