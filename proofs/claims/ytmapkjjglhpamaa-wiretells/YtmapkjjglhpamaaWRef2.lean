/-
  The document's own answers of layer 5: Bits, Length, Most, Heard.
-/
import Derived.Test.YtmapkjjglhpamaaWRefBits
namespace Go.Proofs.Ytmapkjjglhpamaa
open Go.RowKit

theorem ownsRow_set {w : World} {base : Nat} {e : TypeId} {g n cap : Nat} {κ : IntKind} {l : List Int} (h : w.ownsRow base e 1 (.slice (some ⟨g, 0, none⟩) n cap) n (l.map (Value.int κ))) (j : Nat) (z : Int) :
    (w.setCell ⟨g, j, none⟩ (.int κ z)).ownsRow base e 1 (.slice (some ⟨g, 0, none⟩) n cap) n ((l.set j z).map (Value.int κ)) := by
  obtain ⟨h1, h2⟩ := h
  refine ⟨by simpa using h1, ?_⟩
  rcases h2 with ⟨e1, _⟩ | ⟨g', cap', cur, e1, hb, hg, hc, hm, hs, ht⟩
  · cases e1
  · cases e1
    refine .inr ⟨g, cap, cur.setIfInBounds j (.int κ z), rfl, hb, ?_, hc, hm, by simpa using hs, ?_⟩
    · rw [heap_setCell_same w g j _ _ _ hg]
    · rw [Array.toList_setIfInBounds, List.map_set, ← ht, List.take_set]
theorem ownsRow_cell {w : World} {base : Nat} {e : TypeId} {g n cap : Nat} {κ : IntKind} {l : List Int} (h : w.ownsRow base e 1 (.slice (some ⟨g, 0, none⟩) n cap) n (l.map (Value.int κ))) {j : Nat} {x : Int} (hx : l[j]? = some x) :
    w.cell? ⟨g, j, none⟩ = some (.int κ x) ∧ w.frozen? ⟨g, j, none⟩ = false := by
  have hc := h.cells (g := g) rfl j (.int κ x) (by simp [hx])
  have e : (⟨g, 0, none⟩ : Addr).add j = ⟨g, j, none⟩ := by unfold Addr.add; split <;> simp_all
  rw [e] at hc
  refine ⟨hc, ?_⟩
  rcases h.2 with ⟨e1, _⟩ | ⟨g', cap', cur, e1, _, hg, _⟩
  · cases e1
  · cases e1
    simp [World.frozen?, hg]


theorem refHead_at (x : Bool) (ID : Nat) (r : Bool) (L : Nat) (dl : List Int) (m : Nat) (hdl : dl.length = m) (A : Option Addr) (c : Nat) (hID : idOk x ID) (hL : L ≤ 8) (w : World) (h : Row .u8 w w.heap.size A dl) (hb : byteB dl) (hm : m ≤ 1000) (T : List Int) (hT : headV x ID r L dl = T) (K : Nat) (hK : T.length = K) :
    Calls Try.prog 25 #[.agg #[.bool x, .int .i64 ID, .bool r, .int .i64 L, .slice A m c]] w fun e w' => ∃ A' c', e = .returned (.slice A' K c') ∧ Row .i64 w' w'.heap.size A' T ∧ Below w.heap.size w w' := by
  have hl := headV_len x ID r L dl
  rw [hT, hK, hdl] at hl
  subst hT
  cases x
  · exact refHeadS_at ID r L dl m hdl A c hID hL w h hb hm (8 * m) rfl K hl.symm
  · exact refHeadX_at ID r L dl m hdl A c hID hL w h hb hm (8 * m) rfl K hl.symm

set_option maxRecDepth 100000 in
set_option maxHeartbeats 2000000 in
theorem refBits5_at (x : Bool) (ID : Nat) (r : Bool) (L : Nat) (dl : List Int) (m : Nat) (hdl : dl.length = m) (A : Option Addr) (c : Nat) (hID : idOk x ID) (hL : L ≤ 8) (w : World) (h : Row .u8 w w.heap.size A dl) (hb : byteB dl) (hm : m ≤ 100) (T : List Int) (hT : headV x ID r L dl = T) (N : Nat) (hN : (sentV T).length = N) :
    Calls Try.prog 16 #[.agg #[.bool x, .int .i64 ID, .bool r, .int .i64 L, .slice A m c]] w fun e w' => ∃ A' c', e = .returned (.slice A' N c') ∧ w'.ownsRow w.heap.size 3 1 (.slice A' N c') N ((sentV T).map (Value.int .i64)) ∧ Below w.heap.size w w' := by
  obtain ⟨i0, hi, hz0, hz1, hz2⟩ := info_parts Try.infoInt
  obtain ⟨K, hK⟩ : ∃ K, T.length = K := ⟨_, rfl⟩
  have hK2 : K ≤ 1000 := by
    have : hn x ≤ 39 := (by cases x <;> decide)
    rw [← hK, ← hT, headV_len, hdl]; omega
  obtain ⟨M, hM⟩ : ∃ M, (stuffL (bareV T)).length = M := ⟨_, rfl⟩
  have hM2 : M ≤ 20000 := by have := stuffL_most (bareV T); rw [bareV_len, hK] at this; omega
  have hrT : rightB T = true := by rw [← hT]; exact headV_right _ _ _ _ _
  have hNM : M + 10 = N := by rw [← hN, sentV_len, hM]
  have hlb := bareV_len T
  rw [hK] at hlb
  have HT := Lib.hid hT
  have HdL := Lib.hid hdl
  have HK := Lib.hid hK
  have HM := Lib.hid hM
  have HrT := Lib.hid hrT
  have Hlb := Lib.hid hlb
  have HrB := Lib.hid (bareV_right hrT)
  have HB := Lib.hid hb
  clear hT hdl hK hM hN hrT hlb hb
  have hB0 := below_alloc1 w (.cells #[.bool x, .int .i64 ID, .bool r, .int .i64 L, .slice A m c] 24)
  have r0 := h.to hB0
  go_enter Try.func16, Try.ntmps16
  go_wp2_with fail
  refine (refHead_at x ID r L dl m HdL.out A c hID hL _ r0 HB.out (by omega) T HT.out K HK.out).mono ?_
  rintro e w1 ⟨A1, c1, rfl, hr1, hB1⟩
  go_wp2_with fail
  refine (refBits_any T K HK.out A1 c1 _ w1 hr1 HrT.out (by unfold maxLen; omega)).mono ?_
  rintro e w2 ⟨rfl, rfl⟩
  go_wp2_with fail
  refine (refPut_at _ 15 (crc15 T).toNat 15 rfl rfl (by omega) (crc_lt T) w1).mono ?_
  rintro e w3 ⟨A3, c3, rfl, hr3, hB3⟩
  have r1 := hr1.to hB3
  have hBa := below_then (below_then hB0 hB1) hB3
  have o4 := own_lit w3 .i64 [] 0 rfl 3 (cs := #[]) rfl (by decide)
  have r4 := r1.to (below_alloc1 w3 (.cells #[] 3))
  have s4 := hr3.to (below_alloc1 w3 (.cells #[] 3))
  clear hB0 hB1 hB3 hr1 r1
  go_wp2_with (first
    | (at_builtin; have hq_ := hown5; clear hq_; refine wpList_append_row _ .i64 rfl _ _ 25 rfl w3.heap.size 3 i0 (.int .i64 0) 8 Try.underlying25 hi hz0 hz1 hz2 rfl _ K T rfl hown5 A3 15 c3 _ (sumV T) rfl (sumV_len T) hr5 (by unfold maxLen; omega) (by omega) hs5 ?_; intro A6 c6 w6 hown6 hc6 hB6)
    | (at_builtin; refine wpList_append_row _ .i64 rfl _ _ 25 rfl w3.heap.size 3 i0 (.int .i64 0) 8 Try.underlying25 hi hz0 hz1 hz2 rfl _ 0 [] rfl o4 A1 K c1 _ T rfl HK.out r4 (by unfold maxLen; omega) (by omega) (by simp) ?_; intro A5 c5 w5 hown5 hc5 hB5; rw [Nat.zero_add, List.nil_append] at hown5; have hs5 : w3.heap.size ≤ w5.heap.size := (by have := hB5.size; simp at this; omega); have hr5 : Row .i64 w5 w3.heap.size A3 (sumV T) := ((hr3.below (below_alloc1 w3 _)).below hB5)))
  have r6 := Row.own hown6
  have hBb := hBa.trans ((((below_alloc1 w3 _).trans hB5).trans hB6).mono hBa.size)
  clear hBa hown5 hs5 hr5 hB5 hB6 o4 r4 s4 hown6
  refine (refStuff5_any (bareV T) (K + 15) Hlb.out A6 c6 w6 r6 HrB.out (by omega) M HM.out).mono ?_
  rintro e w7 ⟨A7, c7, rfl, hown7, hB7⟩
  have hown7' := own_low hown7 hBb.size
  have hBc := below_then hBb hB7
  have hsz := hBc.size
  clear hown7 hB7
  go_wp2_with (at_builtin; refine wpList_append_row _ .i64 rfl _ _ 25 rfl w.heap.size 3 i0 (.int .i64 0) 8 Try.underlying25 hi hz0 hz1 hz2 rfl _ M (stuffL (bareV T)) rfl (hown7'.alloc _) (some ⟨w7.heap.size, 0, none⟩) 10 10 _ [1, 1, 1, 1, 1, 1, 1, 1, 1, 1] rfl rfl (Row.lit w7 .i64 [1, 1, 1, 1, 1, 1, 1, 1, 1, 1] 3 rfl) (by unfold maxLen; omega) (by omega) (by simp; omega) ?_; intro A8 c8 w8 hown8 hc8 hB8)
  go_ret
  rw [hNM] at hown8
  exact ⟨A8, c8, rfl, hown8, (hBc.alloc hsz _).trans hB8⟩

set_option maxHeartbeats 1000000 in
theorem refLength5_at (x : Bool) (ID : Nat) (r : Bool) (L : Nat) (dl : List Int) (m : Nat) (hdl : dl.length = m) (A : Option Addr) (c : Nat) (hID : idOk x ID) (hL : L ≤ 8) (w : World) (h : Row .u8 w w.heap.size A dl) (hb : byteB dl) (hm : m ≤ 100) (T : List Int) (hT : headV x ID r L dl = T) (N : Nat) (hN : (sentV T).length = N) :
    Calls Try.prog 18 #[.agg #[.bool x, .int .i64 ID, .bool r, .int .i64 L, .slice A m c]] w fun e w' => e = .returned (.int .i64 N) ∧ Below w.heap.size w w' := by
  have HT := Lib.hid hT
  have HdL := Lib.hid hdl
  have HN := Lib.hid hN
  have HB := Lib.hid hb
  clear hT hdl hN hb
  have hB0 := below_alloc1 w (.cells #[.bool x, .int .i64 ID, .bool r, .int .i64 L, .slice A m c] 24)
  have r0 := h.to hB0
  go_enter Try.func18, Try.ntmps18
  go_wp2_with fail
  refine (refBits5_at x ID r L dl m HdL.out A c hID hL _ r0 HB.out hm T HT.out N HN.out).mono ?_
  rintro e w1 ⟨A1, c1, rfl, hown1, hB1⟩
  go_wp2_with fail
  go_ret
  exact ⟨rfl, below_then hB0 hB1⟩

set_option maxHeartbeats 1000000 in
theorem refMost_at (x : Bool) (n : Nat) (hn : n ≤ 1000) (w : World) (v : Int) (hv : ((mostV x n : Nat) : Int) = v) :
    Calls Try.prog 20 #[.bool x, .int .i64 n] w fun e w' => e = .returned (.int .i64 v) ∧ w = w' := by
  subst hv
  cases x
  · have e : ((mostV false n : Nat) : Int) = 34 + 8 * (n : Int) + (34 + 8 * (n : Int) - 1) / 4 + 10 := by simp only [mostV, Bool.false_eq_true, if_false]; omega
    have E := Lib.hid e
    clear e
    go_enter Try.func20, Try.ntmps20
    go_wp2_with fail
    go_ret
    refine ⟨ret_int ?_, rfl⟩
    rw [E.out]
  · have e : ((mostV true n : Nat) : Int) = 54 + 8 * (n : Int) + (54 + 8 * (n : Int) - 1) / 4 + 10 := by simp only [mostV, if_true]; omega
    have E := Lib.hid e
    clear e
    go_enter Try.func20, Try.ntmps20
    go_wp2_with fail
    go_ret
    refine ⟨ret_int ?_, rfl⟩
    rw [E.out]

/-- As it is heard. -/
def heardV (h : List Int) : List Int := (sentV h).set ((sentV h).length - 9) 0
set_option maxRecDepth 100000 in
set_option maxHeartbeats 1000000 in
theorem refHeard_at (x : Bool) (ID : Nat) (r : Bool) (L : Nat) (dl : List Int) (m : Nat) (hdl : dl.length = m) (A : Option Addr) (c : Nat) (hID : idOk x ID) (hL : L ≤ 8) (w : World) (h : Row .u8 w w.heap.size A dl) (hb : byteB dl) (hm : m ≤ 100) (T : List Int) (hT : headV x ID r L dl = T) (N : Nat) (hN : (sentV T).length = N) (hN2 : N ≤ 100000) :
    Calls Try.prog 35 #[.agg #[.bool x, .int .i64 ID, .bool r, .int .i64 L, .slice A m c]] w fun e w' => ∃ A' c', e = .returned (.slice A' N c') ∧ Row .i64 w' w'.heap.size A' (heardV T) ∧ N ≤ c' ∧ Below w.heap.size w w' := by
  obtain ⟨K, hK⟩ : ∃ K, N = K + 9 := ⟨N - 9, by have := sentV_len T; omega⟩
  subst hK
  obtain ⟨y, hy⟩ : ∃ y, (sentV T)[K]? = some y := ⟨_, List.getElem?_eq_getElem (by omega)⟩
  have hh : heardV T = (sentV T).set K 0 := by unfold heardV; rw [hN]; rfl
  have HT := Lib.hid hT
  have HdL := Lib.hid hdl
  have HN := Lib.hid hN
  have HB := Lib.hid hb
  have Hy := Lib.hid hy
  have Hh := Lib.hid hh
  clear hT hdl hN hb hy hh
  have hB0 := below_alloc1 w (.cells #[.bool x, .int .i64 ID, .bool r, .int .i64 L, .slice A m c] 24)
  have r0 := h.to hB0
  go_enter Try.func35, Try.ntmps35
  go_wp2_with fail
  refine (refBits5_at x ID r L dl m HdL.out A c hID hL _ r0 HB.out hm T HT.out (K + 9) HN.out).mono ?_
  rintro e w1 ⟨A1, c1, rfl, hown1, hB1⟩
  obtain ⟨g, hg, hgb⟩ : ∃ g, A1 = some ⟨g, 0, none⟩ ∧ w.heap.size ≤ g := by
    rcases hown1.2 with ⟨e1, e2⟩ | ⟨g, cap, cur, e1, hb, _⟩
    · omega
    · exact ⟨g, by injection e1, by simp at hb; omega⟩
  subst hg
  have ⟨q1, q2⟩ := ownsRow_cell hown1 Hy.out
  have hset := ownsRow_set hown1 K 0
  rw [← Hh.out] at hset
  have hBs : Below w.heap.size w (w1.setCell ⟨g, K, none⟩ (.int .i64 0)) := (below_then hB0 hB1).setCell (p := ⟨g, K, none⟩) hgb _
  go_wp2_with fail
  go_ret
  exact ⟨_, c1, rfl, Row.own hset, own_cap hset, hBs⟩

end Go.Proofs.Ytmapkjjglhpamaa
