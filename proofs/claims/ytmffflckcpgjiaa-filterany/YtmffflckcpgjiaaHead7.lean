/-
  Contracts whose answer is a letter; the document's Any; the live question of layer 7.
-/
import Derived.Test.YtmffflckcpgjiaaFil4
namespace Go.Proofs.Ytmffflckcpgjiaa
open Go.RowKit
set_option linter.unusedVariables false
set_option linter.unusedSimpArgs false

section
variable (f g : FL) (x : FV) (fs : List FL) (w : World) (q : Bool)
theorem right_q (hq : rightP f = q) : Calls Try.prog 11 #[f.v] w fun e w' => e = .returned (.bool q) ∧ Below w.heap.size w w' := by subst hq; exact right_any f w
theorem refRight_q (hq : refRightP f = q) : Calls Try.prog 12 #[f.v] w fun e w' => e = .returned (.bool q) ∧ Below w.heap.size w w' := by subst hq; exact refRight_any f w
theorem frRight_q (hq : frRightP x = q) : Calls Try.prog 14 #[x.v] w fun e w' => e = .returned (.bool q) ∧ Below w.heap.size w w' := by subst hq; exact refFrRight_any x w
theorem takes_q (hq : takesV f x.x x.i = q) : Calls Try.prog 15 #[f.v, x.v] w fun e w' => e = .returned (.bool q) ∧ Below w.heap.size w w' := by subst hq; exact takes_any f x w
theorem refTakes_q (hq : takesV f x.x x.i = q) : Calls Try.prog 16 #[f.v, x.v] w fun e w' => e = .returned (.bool q) ∧ Below w.heap.size w w' := by subst hq; exact refTakes_any f x w
theorem covers_q (hq : coversV f g = q) : Calls Try.prog 19 #[f.v, g.v] w fun e w' => e = .returned (.bool q) ∧ Below w.heap.size w w' := by subst hq; exact covers_any f g w
theorem refCovers_q (hq : refCoversP f g = q) : Calls Try.prog 20 #[f.v, g.v] w fun e w' => e = .returned (.bool q) ∧ Below w.heap.size w w' := by subst hq; exact refCovers_any f g w
theorem meets_q (hq : meetsV f g = q) : Calls Try.prog 21 #[f.v, g.v] w fun e w' => e = .returned (.bool q) ∧ Below w.heap.size w w' := by subst hq; exact meets_any f g w
theorem refMeets_q (hq : refMeetsP f g = q) : Calls Try.prog 22 #[f.v, g.v] w fun e w' => e = .returned (.bool q) ∧ Below w.heap.size w w' := by subst hq; exact refMeets_any f g w
theorem any_q (n : Nat) (hn : fs.length = n) (A : Option Addr) (c : Nat) (h : LRow w w.heap.size A fs) (hm : n ≤ 1000) (hq : anyV fs x.x x.i = q) : Calls Try.prog 17 #[.slice A n c, x.v] w fun e w' => e = .returned (.bool q) ∧ Below w.heap.size w w' := by subst hq; exact any_any fs x n hn A c w h hm
theorem good_q (n : Nat) (hn : fs.length = n) (A : Option Addr) (c : Nat) (h : LRow w w.heap.size A fs) (hm : n ≤ 100) (hq : goodV fs = q) : Calls Try.prog 13 #[.slice A n c] w fun e w' => e = .returned (.bool q) ∧ Below w.heap.size w w' := by subst hq; exact good_any fs n hn A c w h hm
end

theorem blk3 (w : World) (o1 o2 o3 : Obj) : (((w.alloc o1).alloc o2).alloc o3).heap[w.heap.size + 2]? = some o3 := by
  have := World.alloc_heap_new ((w.alloc o1).alloc o2) o3
  simpa using this
theorem held_lf {w W : World} {a : Addr} {f : FL} {G : Nat} {g : FV} (h1 : LAt w a f) (ha : a.block < w.heap.size) (h2 : HasF w G g) (b : Below w.heap.size w W) :
    W.cell? a = some (.bool f.x) ∧ W.cell? ⟨a.block, a.off + 1, none⟩ = some (.int .i64 f.k) ∧ W.cell? ⟨a.block, a.off + 2, none⟩ = some (.int .i64 f.m) ∧ W.cell? ⟨G, 0, none⟩ = some (.bool g.x) ∧ W.cell? ⟨G, 1, none⟩ = some (.int .i64 g.i) ∧ W.cell? ⟨G, 2, none⟩ = some (.bool g.r) ∧ W.cell? ⟨G, 3, none⟩ = some (.int .i64 g.n) ∧ W.cell? ⟨G, 4, none⟩ = some (.slice g.a g.m g.c) := by
  obtain ⟨a0, a1, a2⟩ := h1
  obtain ⟨b0, b1, b2, b3, b4⟩ := cells5' (block_below b h2)
  exact ⟨(b.cell ha).trans a0, (b.cell (p := ⟨a.block, a.off + 1, none⟩) ha).trans a1, (b.cell (p := ⟨a.block, a.off + 2, none⟩) ha).trans a2, b0, b1, b2, b3, b4⟩

set_option maxRecDepth 100000 in
set_option maxHeartbeats 2000000 in
theorem refAny_q (fs : List FL) (g : FV) (n : Nat) (hn : fs.length = n) (A : Option Addr) (c : Nat) (w : World) (h : LRow w w.heap.size A fs) (hm : n ≤ 1000) (q : Bool) (hq : anyV fs g.x g.i = q) :
    Calls Try.prog 18 #[.slice A n c, g.v] w fun e w' => e = .returned (.bool q) ∧ Below w.heap.size w w' := by
  subst hq
  have Hn := Lib.hid hn
  clear hn
  obtain ⟨w0, hw0⟩ : ∃ w0, w.alloc (.cells #[.bool g.x, .int .i64 g.i, .bool g.r, .int .i64 g.n, .slice g.a g.m g.c] 27) = w0 := ⟨_, rfl⟩
  have hT0 : Below w.heap.size w w0 := by rw [← hw0]; exact below_alloc1 _ _
  have hX0 : HasF w0 w.heap.size g := by rw [← hw0]; exact World.alloc_heap_new _ _
  have h0 := h.to hT0
  have HX := Lib.hid hX0
  clear hX0 h
  go_enter Try.func18, Try.ntmps18
  go_wp2_with fail
  clear hw0
  go_loopw [5] (fun i wr => ∃ k : Nat, k ≤ n ∧ i = .int .i64 k ∧ noneUpto fs g.x g.i k ∧ Below w0.heap.size w0 wr) (fun i _ => n - (intOf i).toNat)
  case atStart => exact ⟨0, Nat.zero_le _, rfl, fun j f hj => absurd hj (by omega), Below.refl _ _⟩
  case round =>
    obtain ⟨k, hk, rfl, hr, hB⟩ := hrel
    have Hr := Lib.hid hr
    clear hr
    by_cases hlt : k < n
    · obtain ⟨ad, f, rfl, hf, l0, l1, l2⟩ := (h0.below hB).get_ (k := k) (by rw [Hn.out]; exact hlt)
      have hbl : ad.block < wr.heap.size := by
        have := World.block_lt_of_cell? wr _ l0
        rwa [addr_block] at this
      have Hf := Lib.hid hf
      clear hf
      obtain ⟨q, hq⟩ : ∃ q, takesV f g.x g.i = q := ⟨_, rfl⟩
      have Hq := Lib.hid hq
      clear hq
      have hX1 : HasF wr w.heap.size g := block_below hB HX.out
      have hd1 : decide ((k : Int) < (n : Int)) = true := by simp; omega
      go_wp2_with fail
      go_cut [17] from 12 to 17 (fun s wc => s = .bool q ∧ Below wr.heap.size wr wc)
      case first =>
        go_region_held3 (fun W => W.cell? (ad.add (k * 3)) = some (.bool f.x) ∧ W.cell? ⟨(ad.add (k * 3)).block, (ad.add (k * 3)).off + 1, none⟩ = some (.int .i64 f.k) ∧ W.cell? ⟨(ad.add (k * 3)).block, (ad.add (k * 3)).off + 2, none⟩ = some (.int .i64 f.m) ∧ W.cell? ⟨w.heap.size, 0, none⟩ = some (.bool g.x) ∧ W.cell? ⟨w.heap.size, 1, none⟩ = some (.int .i64 g.i) ∧ W.cell? ⟨w.heap.size, 2, none⟩ = some (.bool g.r) ∧ W.cell? ⟨w.heap.size, 3, none⟩ = some (.int .i64 g.n) ∧ W.cell? ⟨w.heap.size, 4, none⟩ = some (.slice g.a g.m g.c))
          (exact held_lf ⟨l0, l1, l2⟩ (by rw [addr_block]; exact hbl) hX1 (by repeat (first | assumption | exact Below.refl _ _ | ((with_reducible refine lit2 _ _ _ _ _ ?_); (first | (with_reducible rfl) | (simp; done))) | ((with_reducible refine lit1 _ _ _ _ ?_); (first | (with_reducible rfl) | (simp; done))) | refine row_step (by first | assumption | exact below_alloc1 _ _ | exact below_drew1 _ | exact below_drewN0 _ _) ?_ | refine block_below (by first | assumption | exact below_alloc1 _ _ | exact below_drew1 _ | exact below_drewN0 _ _) ?_ | refine below_then ?_ (by first | assumption | exact below_alloc1 _ _ | exact below_drew1 _ | exact below_drewN0 _ _))))
          (first
            | (go_at_call 15; fail)
            | (go_at_call 16; refine (refTakes_q f g _ q Hq.out).mono ?_; rintro e w1 ⟨rfl, hB1⟩)
            | fail)
        all_goals
          have hBw : Below wr.heap.size wr w1 := by repeat (first | assumption | exact Below.refl _ _ | ((with_reducible refine lit2 _ _ _ _ _ ?_); (first | (with_reducible rfl) | (simp; done))) | ((with_reducible refine lit1 _ _ _ _ ?_); (first | (with_reducible rfl) | (simp; done))) | refine row_step (by first | assumption | exact below_alloc1 _ _ | exact below_drew1 _ | exact below_drewN0 _ _) ?_ | refine block_below (by first | assumption | exact below_alloc1 _ _ | exact below_drew1 _ | exact below_drewN0 _ _) ?_ | refine below_then ?_ (by first | assumption | exact below_alloc1 _ _ | exact below_drew1 _ | exact below_drewN0 _ _))
          go_wp2_with fail
          go_meet
          exact ⟨rfl, hBw⟩
      case rest =>
      obtain ⟨rfl, hBc⟩ := hcut
      cases q
      · go_wp2_with fail
        go_round
        case measure => simp [intOf]; omega
        exact ⟨k + 1, by omega, by go_num, Hr.out.next Hf.out Hq.out, hB.trans (hBc.mono hB.size)⟩
      · go_wp2_with fail
        go_ret
        refine ⟨ret_bool ?_, below_then hT0 (hB.trans (hBc.mono hB.size))⟩
        unfold anyV
        rw [any_at Hf.out Hq.out]
        simp
    · obtain rfl : k = n := by omega
      go_wp2_with fail
      go_ret
      refine ⟨ret_bool ?_, below_then hT0 hB⟩
      unfold anyV
      rw [noneUpto.all (by rw [Hn.out]; exact Hr.out), Bool.or_false, Bool.eq_iff_iff]
      have := Hn.out
      simp [List.isEmpty_iff]
      rw [← List.length_eq_zero_iff, this]

set_option maxRecDepth 100000 in
set_option maxHeartbeats 4000000 in
theorem head7_any (w : World) : Calls Try.prog 10 #[] w fun e w' => e = .returned (.bool true) ∧ Below w.heap.size w w' := by
  go_enter Try.func10, Try.ntmps10
  go_wp2_with fail
  obtain ⟨w0, hw0⟩ : ∃ w0, ((w.alloc (.cells #[.bool false, .int .i64 2032, .int .i64 288] 23)).alloc (.cells #[.bool false, .int .i64 2047, .int .i64 303] 23)).alloc (.cells #[.bool false, .int .i64 303, .bool false, .int .i64 0, .slice none 0 0] 27) = w0 := ⟨_, rfl⟩
  have hT0 : Below w.heap.size w w0 := by rw [← hw0]; exact below_then (below_two _ _ _) (below_alloc1 _ _)
  have hF0 : HasL w0 w.heap.size ⟨false, 2032, 288⟩ := by rw [← hw0]; exact block_below (below_alloc1 _ _) (blk1 _ _ _)
  have hG0 : HasL w0 (w.heap.size + 1) ⟨false, 2047, 303⟩ := by rw [← hw0]; exact block_below (below_alloc1 _ _) (blk2 _ _ _)
  have hX0 : HasF w0 (w.heap.size + 2) ⟨false, 303, false, 0, none, 0, 0⟩ := by rw [← hw0]; exact blk3 _ _ _ _
  rw [hw0]
  clear hw0
  refine (right_q ⟨false, 2032, 288⟩ w0 true (by kernel_rfl)).mono ?_
  rintro e w1 ⟨rfl, hB1⟩
  have hT1 := below_then hT0 hB1
  have hF1 := block_below hB1 hF0
  have hG1 := block_below hB1 hG0
  have hX1 := block_below hB1 hX0
  clear hT0 hF0 hG0 hX0 hB1
  obtain ⟨f0, f1, f2⟩ := cells3' hF1
  obtain ⟨g0, g1, g2⟩ := cells3' hG1
  obtain ⟨x0, x1, x2, x3, x4⟩ := cells5' hX1
  go_wp2_with fail
  clear f0 f1 f2 g0 g1 g2 x0 x1 x2 x3 x4
  refine (right_q ⟨false, 0, 1⟩ w1 false (by kernel_rfl)).mono ?_
  rintro e w2 ⟨rfl, hB2⟩
  have hT2 := below_then hT1 hB2
  have hF2 := block_below hB2 hF1
  have hG2 := block_below hB2 hG1
  have hX2 := block_below hB2 hX1
  clear hT1 hF1 hG1 hX1 hB2
  obtain ⟨f0, f1, f2⟩ := cells3' hF2
  obtain ⟨g0, g1, g2⟩ := cells3' hG2
  obtain ⟨x0, x1, x2, x3, x4⟩ := cells5' hX2
  go_wp2_with fail
  clear f0 f1 f2 g0 g1 g2 x0 x1 x2 x3 x4
  refine (takes_q ⟨false, 2032, 288⟩ ⟨false, 303, false, 0, none, 0, 0⟩ w2 true (by kernel_rfl)).mono ?_
  rintro e w3 ⟨rfl, hB3⟩
  have hT3 := below_then hT2 hB3
  have hF3 := block_below hB3 hF2
  have hG3 := block_below hB3 hG2
  have hX3 := block_below hB3 hX2
  clear hT2 hF2 hG2 hX2 hB3
  obtain ⟨f0, f1, f2⟩ := cells3' hF3
  obtain ⟨g0, g1, g2⟩ := cells3' hG3
  obtain ⟨x0, x1, x2, x3, x4⟩ := cells5' hX3
  go_wp2_with fail
  clear f0 f1 f2 g0 g1 g2 x0 x1 x2 x3 x4
  refine (takes_q ⟨false, 2032, 288⟩ ⟨false, 304, false, 0, none, 0, 0⟩ w3 false (by kernel_rfl)).mono ?_
  rintro e w4 ⟨rfl, hB4⟩
  have hT4 := below_then hT3 hB4
  have hF4 := block_below hB4 hF3
  have hG4 := block_below hB4 hG3
  have hX4 := block_below hB4 hX3
  clear hT3 hF3 hG3 hX3 hB4
  obtain ⟨f0, f1, f2⟩ := cells3' hF4
  obtain ⟨g0, g1, g2⟩ := cells3' hG4
  obtain ⟨x0, x1, x2, x3, x4⟩ := cells5' hX4
  go_wp2_with fail
  clear f0 f1 f2 g0 g1 g2 x0 x1 x2 x3 x4
  refine (takes_q ⟨false, 2032, 288⟩ ⟨true, 303, false, 0, none, 0, 0⟩ w4 false (by kernel_rfl)).mono ?_
  rintro e w5 ⟨rfl, hB5⟩
  have hT5 := below_then hT4 hB5
  have hF5 := block_below hB5 hF4
  have hG5 := block_below hB5 hG4
  have hX5 := block_below hB5 hX4
  clear hT4 hF4 hG4 hX4 hB5
  obtain ⟨f0, f1, f2⟩ := cells3' hF5
  obtain ⟨g0, g1, g2⟩ := cells3' hG5
  obtain ⟨x0, x1, x2, x3, x4⟩ := cells5' hX5
  go_wp2_with fail
  clear f0 f1 f2 g0 g1 g2 x0 x1 x2 x3 x4
  refine (any_q ⟨false, 303, false, 0, none, 0, 0⟩ [] w5 true 0 rfl none 0 (.inl rfl) (by omega) (by kernel_rfl)).mono ?_
  rintro e w6 ⟨rfl, hB6⟩
  have hT6 := below_then hT5 hB6
  have hF6 := block_below hB6 hF5
  have hG6 := block_below hB6 hG5
  have hX6 := block_below hB6 hX5
  clear hT5 hF5 hG5 hX5 hB6
  obtain ⟨f0, f1, f2⟩ := cells3' hF6
  obtain ⟨g0, g1, g2⟩ := cells3' hG6
  obtain ⟨x0, x1, x2, x3, x4⟩ := cells5' hX6
  have hlX := (Array.getElem?_eq_some_iff.1 hX6).1
  go_wp2_with fail
  clear hlX
  clear f0 f1 f2 g0 g1 g2 x0 x1 x2 x3 x4
  have hl7 := LRow.lit w6 [⟨false, 1, 0⟩, ⟨false, 2047, 303⟩] (cs := #[.bool false, .int .i64 1, .int .i64 0, .bool false, .int .i64 2047, .int .i64 303]) rfl rfl
  have hb7 := below_alloc1 w6 (.cells #[.bool false, .int .i64 1, .int .i64 0, .bool false, .int .i64 2047, .int .i64 303] 23)
  refine (any_q ⟨false, 303, false, 0, none, 0, 0⟩ [⟨false, 1, 0⟩, ⟨false, 2047, 303⟩] _ true 2 rfl _ 2 hl7 (by omega) (by kernel_rfl)).mono ?_
  rintro e w7 ⟨rfl, hC7⟩
  have hB7 := below_then hb7 hC7
  clear hl7 hb7 hC7
  have hT7 := below_then hT6 hB7
  have hF7 := block_below hB7 hF6
  have hG7 := block_below hB7 hG6
  have hX7 := block_below hB7 hX6
  clear hT6 hF6 hG6 hX6 hB7
  obtain ⟨f0, f1, f2⟩ := cells3' hF7
  obtain ⟨g0, g1, g2⟩ := cells3' hG7
  obtain ⟨x0, x1, x2, x3, x4⟩ := cells5' hX7
  have hlX := (Array.getElem?_eq_some_iff.1 hX7).1
  go_wp2_with fail
  clear hlX
  clear f0 f1 f2 g0 g1 g2 x0 x1 x2 x3 x4
  have hl8 := LRow.lit w7 [⟨false, 1, 0⟩] (cs := #[.bool false, .int .i64 1, .int .i64 0]) rfl rfl
  have hb8 := below_alloc1 w7 (.cells #[.bool false, .int .i64 1, .int .i64 0] 23)
  refine (any_q ⟨false, 303, false, 0, none, 0, 0⟩ [⟨false, 1, 0⟩] _ false 1 rfl _ 1 hl8 (by omega) (by kernel_rfl)).mono ?_
  rintro e w8 ⟨rfl, hC8⟩
  have hB8 := below_then hb8 hC8
  clear hl8 hb8 hC8
  have hT8 := below_then hT7 hB8
  have hF8 := block_below hB8 hF7
  have hG8 := block_below hB8 hG7
  have hX8 := block_below hB8 hX7
  clear hT7 hF7 hG7 hX7 hB8
  obtain ⟨f0, f1, f2⟩ := cells3' hF8
  obtain ⟨g0, g1, g2⟩ := cells3' hG8
  obtain ⟨x0, x1, x2, x3, x4⟩ := cells5' hX8
  go_wp2_with fail
  clear f0 f1 f2 g0 g1 g2 x0 x1 x2 x3 x4
  refine (covers_q ⟨false, 2032, 288⟩ ⟨false, 2047, 303⟩ w8 true (by kernel_rfl)).mono ?_
  rintro e w9 ⟨rfl, hB9⟩
  have hT9 := below_then hT8 hB9
  have hF9 := block_below hB9 hF8
  have hG9 := block_below hB9 hG8
  have hX9 := block_below hB9 hX8
  clear hT8 hF8 hG8 hX8 hB9
  obtain ⟨f0, f1, f2⟩ := cells3' hF9
  obtain ⟨g0, g1, g2⟩ := cells3' hG9
  obtain ⟨x0, x1, x2, x3, x4⟩ := cells5' hX9
  go_wp2_with fail
  clear f0 f1 f2 g0 g1 g2 x0 x1 x2 x3 x4
  refine (covers_q ⟨false, 2047, 303⟩ ⟨false, 2032, 288⟩ w9 false (by kernel_rfl)).mono ?_
  rintro e w10 ⟨rfl, hB10⟩
  have hT10 := below_then hT9 hB10
  have hF10 := block_below hB10 hF9
  have hG10 := block_below hB10 hG9
  have hX10 := block_below hB10 hX9
  clear hT9 hF9 hG9 hX9 hB10
  obtain ⟨f0, f1, f2⟩ := cells3' hF10
  obtain ⟨g0, g1, g2⟩ := cells3' hG10
  obtain ⟨x0, x1, x2, x3, x4⟩ := cells5' hX10
  go_wp2_with fail
  clear f0 f1 f2 g0 g1 g2 x0 x1 x2 x3 x4
  refine (meets_q ⟨false, 2032, 288⟩ ⟨false, 2047, 303⟩ w10 true (by kernel_rfl)).mono ?_
  rintro e w11 ⟨rfl, hB11⟩
  have hT11 := below_then hT10 hB11
  have hF11 := block_below hB11 hF10
  have hG11 := block_below hB11 hG10
  have hX11 := block_below hB11 hX10
  clear hT10 hF10 hG10 hX10 hB11
  obtain ⟨f0, f1, f2⟩ := cells3' hF11
  obtain ⟨g0, g1, g2⟩ := cells3' hG11
  obtain ⟨x0, x1, x2, x3, x4⟩ := cells5' hX11
  go_wp2_with fail
  clear f0 f1 f2 g0 g1 g2 x0 x1 x2 x3 x4
  refine (meets_q ⟨false, 2032, 288⟩ ⟨false, 1792, 0⟩ w11 false (by kernel_rfl)).mono ?_
  rintro e w12 ⟨rfl, hB12⟩
  have hT12 := below_then hT11 hB12
  have hF12 := block_below hB12 hF11
  have hG12 := block_below hB12 hG11
  have hX12 := block_below hB12 hX11
  clear hT11 hF11 hG11 hX11 hB12
  obtain ⟨f0, f1, f2⟩ := cells3' hF12
  obtain ⟨g0, g1, g2⟩ := cells3' hG12
  obtain ⟨x0, x1, x2, x3, x4⟩ := cells5' hX12
  go_wp2_with fail
  go_ret
  exact ⟨rfl, hT12⟩

end Go.Proofs.Ytmffflckcpgjiaa
