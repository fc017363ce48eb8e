/-
  FilterAny.
-/
import Derived.Test.YtmffflckcpgjiaaFil5
import Derived.Test.YtmffflckcpgjiaaAny7
namespace Go.Proofs.Ytmffflckcpgjiaa
open Go.RowKit
set_option linter.unusedVariables false
set_option linter.unusedSimpArgs false

set_option maxRecDepth 100000 in
set_option maxHeartbeats 2000000 in
theorem filterAny_any (fs : List FL) (x : FV) (g : FL) (n : Nat) (hn : fs.length = n) (A : Option Addr) (c : Nat) (w : World) (hl : LRow w w.heap.size A fs) (hm : n ≤ maxLen) (hxm : x.m ≤ maxLen) :
    Calls Try.prog 7 #[.slice A n c, x.v, g.v] w fun e w' => e = .returned (.bool true) ∧ Below w.heap.size w w' := by
  unfold maxLen at hm hxm
  have Hn := Lib.hid hn
  clear hn
  go_enter Try.func7, Try.ntmps7
  go_wp2_with fail
  obtain ⟨w0, hw0⟩ : ∃ w0, ((w.alloc (.cells #[.bool x.x, .int .i64 x.i, .bool x.r, .int .i64 x.n, .slice x.a x.m x.c] 27)).alloc (.cells #[.bool g.x, .int .i64 g.k, .int .i64 g.m] 23)) = w0 := ⟨_, rfl⟩
  have hT0 : Below w.heap.size w w0 := by rw [← hw0]; exact below_two _ _ _
  have hx0 : HasF w0 w.heap.size ⟨x.x, x.i, x.r, x.n, x.a, x.m, x.c⟩ := by rw [← hw0]; exact blk1 _ _ _
  have hg0 : HasL w0 (w.heap.size + 1) ⟨g.x, g.k, g.m⟩ := by rw [← hw0]; exact blk2 _ _ _
  have hl0 := LRow.to hl hT0
  rw [hw0]
  clear hw0
  clear hl
  refine (head7_any w0).mono ?_
  rintro e w1 ⟨rfl, hB1⟩
  have hT1 := below_then hT0 hB1
  have hx1 := block_below hB1 hx0
  have hg1 := block_below hB1 hg0
  have hl1 := LRow.to hl0 hB1
  clear hT0 hx0 hg0 hl0 hB1
  rcases dec (100 < n) with ⟨d1, h1⟩ | ⟨d1, h1⟩
  · skip
    have d1' : decide ((100 : Int) < (n : Int)) = true := by simp; omega
    obtain ⟨xc0, xc1, xc2, xc3, xc4⟩ := cells5' hx1
    obtain ⟨gc0, gc1, gc2⟩ := cells3' hg1
    go_wp2_with fail
    go_ret
    exact ⟨rfl, hT1⟩
  have d1' : decide ((100 : Int) < (n : Int)) = false := by simp; omega
  have hn100 : n ≤ 100 := by omega
  clear h1
  obtain ⟨xc0, xc1, xc2, xc3, xc4⟩ := cells5' hx1
  obtain ⟨gc0, gc1, gc2⟩ := cells3' hg1
  go_wp2_with fail
  clear xc0 xc1 xc2 xc3 xc4 gc0 gc1 gc2
  obtain ⟨ql, hql⟩ : ∃ q, goodV fs = q := ⟨_, rfl⟩
  have Hql := Lib.hid hql
  clear hql
  cases ql
  · skip
    refine (good_q fs w1 false n Hn.out A c hl1 hn100 Hql.out).mono ?_
    rintro e w2 ⟨rfl, hB2⟩
    have hT2 := below_then hT1 hB2
    have hx2 := block_below hB2 hx1
    have hg2 := block_below hB2 hg1
    have hl2 := LRow.to hl1 hB2
    clear hT1 hx1 hg1 hl1 hB2
    obtain ⟨xc0, xc1, xc2, xc3, xc4⟩ := cells5' hx2
    obtain ⟨gc0, gc1, gc2⟩ := cells3' hg2
    go_wp2_with fail
    go_ret
    exact ⟨rfl, hT2⟩
  refine (good_q fs w1 true n Hn.out A c hl1 hn100 Hql.out).mono ?_
  rintro e w2 ⟨rfl, hB2⟩
  have hT2 := below_then hT1 hB2
  have hx2 := block_below hB2 hx1
  have hg2 := block_below hB2 hg1
  have hl2 := LRow.to hl1 hB2
  clear hT1 hx1 hg1 hl1 hB2
  clear d1 d1'
  obtain ⟨xc0, xc1, xc2, xc3, xc4⟩ := cells5' hx2
  obtain ⟨gc0, gc1, gc2⟩ := cells3' hg2
  go_wp2_with fail
  clear xc0 xc1 xc2 xc3 xc4 gc0 gc1 gc2
  obtain ⟨qg, hqg⟩ : ∃ q, refRightP g = q := ⟨_, rfl⟩
  have Hqg := Lib.hid hqg
  clear hqg
  cases qg
  · skip
    refine (refRight_q g w2 false Hqg.out).mono ?_
    rintro e w3 ⟨rfl, hB3⟩
    have hT3 := below_then hT2 hB3
    have hx3 := block_below hB3 hx2
    have hg3 := block_below hB3 hg2
    have hl3 := LRow.to hl2 hB3
    clear hT2 hx2 hg2 hl2 hB3
    obtain ⟨xc0, xc1, xc2, xc3, xc4⟩ := cells5' hx3
    obtain ⟨gc0, gc1, gc2⟩ := cells3' hg3
    go_wp2_with fail
    go_ret
    exact ⟨rfl, hT3⟩
  refine (refRight_q g w2 true Hqg.out).mono ?_
  rintro e w3 ⟨rfl, hB3⟩
  have hT3 := below_then hT2 hB3
  have hx3 := block_below hB3 hx2
  have hg3 := block_below hB3 hg2
  have hl3 := LRow.to hl2 hB3
  clear hT2 hx2 hg2 hl2 hB3
  rcases dec (100 < x.m) with ⟨d2, h2⟩ | ⟨d2, h2⟩
  · skip
    have d2' : decide ((100 : Int) < (x.m : Int)) = true := by simp; omega
    obtain ⟨xc0, xc1, xc2, xc3, xc4⟩ := cells5' hx3
    obtain ⟨gc0, gc1, gc2⟩ := cells3' hg3
    go_wp2_with fail
    go_ret
    exact ⟨rfl, hT3⟩
  have d2' : decide ((100 : Int) < (x.m : Int)) = false := by simp; omega
  clear h2
  obtain ⟨xc0, xc1, xc2, xc3, xc4⟩ := cells5' hx3
  obtain ⟨gc0, gc1, gc2⟩ := cells3' hg3
  go_wp2_with fail
  clear xc0 xc1 xc2 xc3 xc4 gc0 gc1 gc2
  obtain ⟨qx, hqx⟩ : ∃ q, frRightP x = q := ⟨_, rfl⟩
  have Hqx := Lib.hid hqx
  clear hqx
  cases qx
  · skip
    refine (frRight_q x w3 false Hqx.out).mono ?_
    rintro e w4 ⟨rfl, hB4⟩
    have hT4 := below_then hT3 hB4
    have hx4 := block_below hB4 hx3
    have hg4 := block_below hB4 hg3
    have hl4 := LRow.to hl3 hB4
    clear hT3 hx3 hg3 hl3 hB4
    obtain ⟨xc0, xc1, xc2, xc3, xc4⟩ := cells5' hx4
    obtain ⟨gc0, gc1, gc2⟩ := cells3' hg4
    go_wp2_with fail
    go_ret
    exact ⟨rfl, hT4⟩
  refine (frRight_q x w3 true Hqx.out).mono ?_
  rintro e w4 ⟨rfl, hB4⟩
  have hT4 := below_then hT3 hB4
  have hx4 := block_below hB4 hx3
  have hg4 := block_below hB4 hg3
  have hl4 := LRow.to hl3 hB4
  clear hT3 hx3 hg3 hl3 hB4
  clear d2 d2'
  obtain ⟨z, hz⟩ : ∃ z, (n == 0) = z := ⟨_, rfl⟩
  have hz1 : ((n : Int) == 0) = z := by rw [← hz, Bool.eq_iff_iff]; simp only [beq_iff_eq]; omega
  have HZ := Lib.hid hz
  obtain ⟨xc0, xc1, xc2, xc3, xc4⟩ := cells5' hx4
  obtain ⟨gc0, gc1, gc2⟩ := cells3' hg4
  go_wp2_with fail
  clear xc0 xc1 xc2 xc3 xc4 gc0 gc1 gc2
  clear hz hz1
  go_loopw [8, 9, 10, 11] (fun s8 s9 s10 s11 wr => ∃ (k : Nat) (A' : Option Addr) (c' : Nat) (iv cv : Bool), k ≤ n ∧ s11 = .int .i64 k ∧ s8 = .bool iv ∧ s9 = .bool cv ∧ s10 = .slice A' k c' ∧ (z || (fs.take k).any (takesV · x.x x.i)) = iv ∧ (fs.take k).any (coversV · g) = cv ∧ LRow wr wr.heap.size A' (fs.take k).reverse ∧ Below w4.heap.size w4 wr)
    (fun _ _ _ i _ => n - (intOf i).toNat)
  case atStart => exact ⟨0, none, 0, z, false, Nat.zero_le _, rfl, rfl, rfl, rfl, by simp, by simp, .inl rfl, Below.refl _ _⟩
  case round =>
    obtain ⟨k, A', c', iv, cv, hk, rfl, rfl, rfl, rfl, hiv, hcv, hback, hBr⟩ := hrel
    have HI := Lib.hid (And.intro hiv (And.intro hcv hback))
    clear hiv hcv hback
    by_cases hlt : k < n
    · skip
      obtain ⟨ad, f, rfl, hf, hat⟩ := (hl4.below hBr).get_ (k := k) (by rw [Hn.out]; exact hlt)
      have hbl : (ad.add (k * 3)).block < wr.heap.size := World.block_lt_of_cell? wr _ hat.1
      have Hf := Lib.hid hf
      clear hf
      obtain ⟨t, ht⟩ : ∃ q, takesV f x.x x.i = q := ⟨_, rfl⟩
      have Ht := Lib.hid ht
      clear ht
      obtain ⟨u, hu⟩ : ∃ q, coversV f g = q := ⟨_, rfl⟩
      have Hu := Lib.hid hu
      clear hu
      have hxr : HasF wr w.heap.size x := block_below hBr hx4
      have hgr : HasL wr (w.heap.size + 1) g := block_below hBr hg4
      have hd1 : decide ((k : Int) < (n : Int)) = true := by simp; omega
      go_wp2_with fail
      go_cut [8] from 48 to 56 (fun s wc => s = .bool (iv || t) ∧ Below wr.heap.size wr wc)
      case first =>
        cases iv
        · skip
          refine wp_region_held_drew (S := fun W => W.cell? (ad.add (k * 3)) = some (.bool f.x) ∧ W.cell? ⟨(ad.add (k * 3)).block, (ad.add (k * 3)).off + 1, none⟩ = some (.int .i64 f.k) ∧ W.cell? ⟨(ad.add (k * 3)).block, (ad.add (k * 3)).off + 2, none⟩ = some (.int .i64 f.m) ∧ W.cell? ⟨w.heap.size, 0, none⟩ = some (.bool x.x) ∧ W.cell? ⟨w.heap.size, 1, none⟩ = some (.int .i64 x.i) ∧ W.cell? ⟨w.heap.size, 2, none⟩ = some (.bool x.r) ∧ W.cell? ⟨w.heap.size, 3, none⟩ = some (.int .i64 x.n) ∧ W.cell? ⟨w.heap.size, 4, none⟩ = some (.slice x.a x.m x.c)) (by kernel_rfl) (by exact held_lf hat hbl hxr (below_drew1 _)) (fun hHeld_ => ?_)
          refine wpAnyH_take' (i := 0) (v := ?v0_pfalse) 48 rfl rfl (by kernel_rfl) (by kernel_rfl) (by kernel_rfl) (fun _ _ _ h => h) (Or.inl ⟨by kernel_rfl, ?hy0_pfalse⟩) (by assumption) ?rest0_pfalse
          case hy0_pfalse => (intro W_ hS_; (try dsimp only at hS_); go_simp; (try (with_reducible rfl)))
          try simp only [Act.put, List.setIfInBounds_toArray, List.set_cons_zero, List.set_cons_succ]
          refine wpAnyH_take' (i := 1) (v := ?v1_pfalse) 49 rfl rfl (by kernel_rfl) (by kernel_rfl) (by kernel_rfl) (fun _ _ _ h => h) (Or.inl ⟨by kernel_rfl, ?hy1_pfalse⟩) (by assumption) ?rest1_pfalse
          case hy1_pfalse => (intro W_ hS_; (try dsimp only at hS_); go_simp; (try (with_reducible rfl)))
          try simp only [Act.put, List.setIfInBounds_toArray, List.set_cons_zero, List.set_cons_succ]
          refine wpAnyH_take' (i := 2) (v := ?v2_pfalse) 50 rfl rfl (by kernel_rfl) (by kernel_rfl) (by kernel_rfl) (fun _ _ _ h => h) (Or.inl ⟨by kernel_rfl, ?hy2_pfalse⟩) (by assumption) ?rest2_pfalse
          case hy2_pfalse => (intro W_ hS_; (try dsimp only at hS_); go_simp; (try (with_reducible rfl)))
          try simp only [Act.put, List.setIfInBounds_toArray, List.set_cons_zero, List.set_cons_succ]
          refine wpAnyH_take' (i := 3) (v := ?v3_pfalse) 51 rfl rfl (by kernel_rfl) (by kernel_rfl) (by kernel_rfl) (fun _ _ _ h => h) (Or.inl ⟨by kernel_rfl, ?hy3_pfalse⟩) (by assumption) ?rest3_pfalse
          case hy3_pfalse => (intro W_ hS_; (try dsimp only at hS_); go_simp; (try (with_reducible rfl)))
          try simp only [Act.put, List.setIfInBounds_toArray, List.set_cons_zero, List.set_cons_succ]
          refine wpAnyH_take' (i := 4) (v := ?v4_pfalse) 52 rfl rfl (by kernel_rfl) (by kernel_rfl) (by kernel_rfl) (fun _ _ _ h => h) (Or.inl ⟨by kernel_rfl, ?hy4_pfalse⟩) (by assumption) ?rest4_pfalse
          case hy4_pfalse => (intro W_ hS_; (try dsimp only at hS_); go_simp; (try (with_reducible rfl)))
          try simp only [Act.put, List.setIfInBounds_toArray, List.set_cons_zero, List.set_cons_succ]
          refine wpAnyH_take' (i := 5) (v := ?v5_pfalse) 53 rfl rfl (by kernel_rfl) (by kernel_rfl) (by kernel_rfl) (fun _ _ _ h => h) (Or.inl ⟨by kernel_rfl, ?hy5_pfalse⟩) (by assumption) ?rest5_pfalse
          case hy5_pfalse => (intro W_ hS_; (try dsimp only at hS_); go_simp; (try (with_reducible rfl)))
          try simp only [Act.put, List.setIfInBounds_toArray, List.set_cons_zero, List.set_cons_succ]
          refine wpAnyH_take' (i := 6) (v := ?v6_pfalse) 54 rfl rfl (by kernel_rfl) (by kernel_rfl) (by kernel_rfl) (fun _ _ _ h => h) (Or.inl ⟨by kernel_rfl, ?hy6_pfalse⟩) (by assumption) ?rest6_pfalse
          case hy6_pfalse => (intro W_ hS_; (try dsimp only at hS_); go_simp; (try (with_reducible rfl)))
          try simp only [Act.put, List.setIfInBounds_toArray, List.set_cons_zero, List.set_cons_succ]
          refine wpAnyH_ready (rs := [7]) (by kernel_rfl) (by simp) ?_
          refine AllReadyH.cons rfl (fun K_ hK_ => ?_) AllReadyH.nil
          go_simp
          refine (takes_q f x _ t Ht.out).mono ?_; rintro e wr7 ⟨rfl, hBr7⟩
          go_wp2_with fail
          refine hK_.out _ _ (by exact held_lf hat hbl hxr (below_then (below_drew1 _) hBr7)) (fun hHeld_7 => ?_)
          clear hK_
          try simp only [Act.put, List.setIfInBounds_toArray, List.set_cons_zero, List.set_cons_succ]
          refine wpAnyH_take' (i := 8) (v := ?v8_pfalse) 56 rfl rfl (by kernel_rfl) (by kernel_rfl) (by kernel_rfl) (fun _ _ _ h => h) (Or.inl ⟨by kernel_rfl, ?hy8_pfalse⟩) (by assumption) ?rest8_pfalse
          case hy8_pfalse => (intro W_ hS_; (try dsimp only at hS_); go_simp; (try (with_reducible rfl)))
          try simp only [Act.put, List.setIfInBounds_toArray, List.set_cons_zero, List.set_cons_succ]
          refine wpAnyH_take' (i := 9) (v := ?v9_pfalse) 8 rfl rfl (by kernel_rfl) (by kernel_rfl) (by kernel_rfl) (fun _ _ _ h => h) (Or.inl ⟨by kernel_rfl, ?hy9_pfalse⟩) (by assumption) ?rest9_pfalse
          case hy9_pfalse => (intro W_ hS_; (try dsimp only at hS_); go_simp; (try (with_reducible rfl)))
          try simp only [Act.put, List.setIfInBounds_toArray, List.set_cons_zero, List.set_cons_succ]
          refine wpAnyH_done (by kernel_rfl) ?_ _
          go_wp2_with fail
          go_meet
          exact ⟨rfl, below_then (below_drew1 _) hBr7⟩
        · skip
          refine wp_region_held_drew (S := fun W => W.cell? (ad.add (k * 3)) = some (.bool f.x) ∧ W.cell? ⟨(ad.add (k * 3)).block, (ad.add (k * 3)).off + 1, none⟩ = some (.int .i64 f.k) ∧ W.cell? ⟨(ad.add (k * 3)).block, (ad.add (k * 3)).off + 2, none⟩ = some (.int .i64 f.m) ∧ W.cell? ⟨w.heap.size, 0, none⟩ = some (.bool x.x) ∧ W.cell? ⟨w.heap.size, 1, none⟩ = some (.int .i64 x.i) ∧ W.cell? ⟨w.heap.size, 2, none⟩ = some (.bool x.r) ∧ W.cell? ⟨w.heap.size, 3, none⟩ = some (.int .i64 x.n) ∧ W.cell? ⟨w.heap.size, 4, none⟩ = some (.slice x.a x.m x.c)) (by kernel_rfl) (by exact held_lf hat hbl hxr (below_drew1 _)) (fun hHeld_ => ?_)
          refine wpAnyH_take' (i := 0) (v := ?v0_ptrue) 48 rfl rfl (by kernel_rfl) (by kernel_rfl) (by kernel_rfl) (fun _ _ _ h => h) (Or.inl ⟨by kernel_rfl, ?hy0_ptrue⟩) (by assumption) ?rest0_ptrue
          case hy0_ptrue => (intro W_ hS_; (try dsimp only at hS_); go_simp; (try (with_reducible rfl)))
          try simp only [Act.put, List.setIfInBounds_toArray, List.set_cons_zero, List.set_cons_succ]
          refine wpAnyH_take' (i := 1) (v := ?v1_ptrue) 49 rfl rfl (by kernel_rfl) (by kernel_rfl) (by kernel_rfl) (fun _ _ _ h => h) (Or.inl ⟨by kernel_rfl, ?hy1_ptrue⟩) (by assumption) ?rest1_ptrue
          case hy1_ptrue => (intro W_ hS_; (try dsimp only at hS_); go_simp; (try (with_reducible rfl)))
          try simp only [Act.put, List.setIfInBounds_toArray, List.set_cons_zero, List.set_cons_succ]
          refine wpAnyH_take' (i := 2) (v := undef) 50 rfl rfl (by kernel_rfl) (by kernel_rfl) (by kernel_rfl) (fun _ _ _ h => h) (Or.inr ⟨by kernel_rfl, rfl⟩) (by assumption) ?_
          try simp only [Act.put, List.setIfInBounds_toArray, List.set_cons_zero, List.set_cons_succ]
          refine wpAnyH_take' (i := 3) (v := undef) 51 rfl rfl (by kernel_rfl) (by kernel_rfl) (by kernel_rfl) (fun _ _ _ h => h) (Or.inr ⟨by kernel_rfl, rfl⟩) (by assumption) ?_
          try simp only [Act.put, List.setIfInBounds_toArray, List.set_cons_zero, List.set_cons_succ]
          refine wpAnyH_take' (i := 4) (v := undef) 52 rfl rfl (by kernel_rfl) (by kernel_rfl) (by kernel_rfl) (fun _ _ _ h => h) (Or.inr ⟨by kernel_rfl, rfl⟩) (by assumption) ?_
          try simp only [Act.put, List.setIfInBounds_toArray, List.set_cons_zero, List.set_cons_succ]
          refine wpAnyH_take' (i := 5) (v := undef) 53 rfl rfl (by kernel_rfl) (by kernel_rfl) (by kernel_rfl) (fun _ _ _ h => h) (Or.inr ⟨by kernel_rfl, rfl⟩) (by assumption) ?_
          try simp only [Act.put, List.setIfInBounds_toArray, List.set_cons_zero, List.set_cons_succ]
          refine wpAnyH_take' (i := 6) (v := undef) 54 rfl rfl (by kernel_rfl) (by kernel_rfl) (by kernel_rfl) (fun _ _ _ h => h) (Or.inr ⟨by kernel_rfl, rfl⟩) (by assumption) ?_
          try simp only [Act.put, List.setIfInBounds_toArray, List.set_cons_zero, List.set_cons_succ]
          refine wpAnyH_skip (i := 7) 55 rfl rfl (by kernel_rfl) (by kernel_rfl) (by assumption) ?_
          try simp only [Act.put, List.setIfInBounds_toArray, List.set_cons_zero, List.set_cons_succ]
          refine wpAnyH_take' (i := 8) (v := ?v8_ptrue) 56 rfl rfl (by kernel_rfl) (by kernel_rfl) (by kernel_rfl) (fun _ _ _ h => h) (Or.inl ⟨by kernel_rfl, ?hy8_ptrue⟩) (by assumption) ?rest8_ptrue
          case hy8_ptrue => (intro W_ hS_; (try dsimp only at hS_); go_simp; (try (with_reducible rfl)))
          try simp only [Act.put, List.setIfInBounds_toArray, List.set_cons_zero, List.set_cons_succ]
          refine wpAnyH_take' (i := 9) (v := ?v9_ptrue) 8 rfl rfl (by kernel_rfl) (by kernel_rfl) (by kernel_rfl) (fun _ _ _ h => h) (Or.inl ⟨by kernel_rfl, ?hy9_ptrue⟩) (by assumption) ?rest9_ptrue
          case hy9_ptrue => (intro W_ hS_; (try dsimp only at hS_); go_simp; (try (with_reducible rfl)))
          try simp only [Act.put, List.setIfInBounds_toArray, List.set_cons_zero, List.set_cons_succ]
          refine wpAnyH_done (by kernel_rfl) ?_ _
          go_wp2_with fail
          go_meet
          exact ⟨rfl, below_drew1 _⟩
      case rest =>
      obtain ⟨rfl, hwc1⟩ := hcut
      obtain ⟨wc1_, e_⟩ : ∃ w_, w_ = wc := ⟨_, rfl⟩
      subst e_
      have hatc := lat_to hat hbl hwc1
      have hblc : (ad.add (k * 3)).block < wc1_.heap.size := Nat.lt_of_lt_of_le hbl hwc1.size
      have hgc := block_below hwc1 hgr
      go_wp2_with fail
      go_cut [9] from 57 to 65 (fun s wc => s = .bool (cv || u) ∧ Below wc1_.heap.size wc1_ wc)
      case first =>
        cases cv
        · skip
          refine wp_region_held_drew (S := fun W => W.cell? (ad.add (k * 3)) = some (.bool f.x) ∧ W.cell? ⟨(ad.add (k * 3)).block, (ad.add (k * 3)).off + 1, none⟩ = some (.int .i64 f.k) ∧ W.cell? ⟨(ad.add (k * 3)).block, (ad.add (k * 3)).off + 2, none⟩ = some (.int .i64 f.m) ∧ W.cell? ⟨w.heap.size + 1, 0, none⟩ = some (.bool g.x) ∧ W.cell? ⟨w.heap.size + 1, 1, none⟩ = some (.int .i64 g.k) ∧ W.cell? ⟨w.heap.size + 1, 2, none⟩ = some (.int .i64 g.m)) (by kernel_rfl) (by exact held_ll7 hatc hblc hgc (below_drew1 _)) (fun hHeld_ => ?_)
          refine wpAnyH_take' (i := 0) (v := ?v0_qfalse) 57 rfl rfl (by kernel_rfl) (by kernel_rfl) (by kernel_rfl) (fun _ _ _ h => h) (Or.inl ⟨by kernel_rfl, ?hy0_qfalse⟩) (by assumption) ?rest0_qfalse
          case hy0_qfalse => (intro W_ hS_; (try dsimp only at hS_); go_simp; (try (with_reducible rfl)))
          try simp only [Act.put, List.setIfInBounds_toArray, List.set_cons_zero, List.set_cons_succ]
          refine wpAnyH_take' (i := 1) (v := ?v1_qfalse) 58 rfl rfl (by kernel_rfl) (by kernel_rfl) (by kernel_rfl) (fun _ _ _ h => h) (Or.inl ⟨by kernel_rfl, ?hy1_qfalse⟩) (by assumption) ?rest1_qfalse
          case hy1_qfalse => (intro W_ hS_; (try dsimp only at hS_); go_simp; (try (with_reducible rfl)))
          try simp only [Act.put, List.setIfInBounds_toArray, List.set_cons_zero, List.set_cons_succ]
          refine wpAnyH_take' (i := 2) (v := ?v2_qfalse) 59 rfl rfl (by kernel_rfl) (by kernel_rfl) (by kernel_rfl) (fun _ _ _ h => h) (Or.inl ⟨by kernel_rfl, ?hy2_qfalse⟩) (by assumption) ?rest2_qfalse
          case hy2_qfalse => (intro W_ hS_; (try dsimp only at hS_); go_simp; (try (with_reducible rfl)))
          try simp only [Act.put, List.setIfInBounds_toArray, List.set_cons_zero, List.set_cons_succ]
          refine wpAnyH_take' (i := 3) (v := ?v3_qfalse) 60 rfl rfl (by kernel_rfl) (by kernel_rfl) (by kernel_rfl) (fun _ _ _ h => h) (Or.inl ⟨by kernel_rfl, ?hy3_qfalse⟩) (by assumption) ?rest3_qfalse
          case hy3_qfalse => (intro W_ hS_; (try dsimp only at hS_); go_simp; (try (with_reducible rfl)))
          try simp only [Act.put, List.setIfInBounds_toArray, List.set_cons_zero, List.set_cons_succ]
          refine wpAnyH_take' (i := 4) (v := ?v4_qfalse) 61 rfl rfl (by kernel_rfl) (by kernel_rfl) (by kernel_rfl) (fun _ _ _ h => h) (Or.inl ⟨by kernel_rfl, ?hy4_qfalse⟩) (by assumption) ?rest4_qfalse
          case hy4_qfalse => (intro W_ hS_; (try dsimp only at hS_); go_simp; (try (with_reducible rfl)))
          try simp only [Act.put, List.setIfInBounds_toArray, List.set_cons_zero, List.set_cons_succ]
          refine wpAnyH_take' (i := 5) (v := ?v5_qfalse) 62 rfl rfl (by kernel_rfl) (by kernel_rfl) (by kernel_rfl) (fun _ _ _ h => h) (Or.inl ⟨by kernel_rfl, ?hy5_qfalse⟩) (by assumption) ?rest5_qfalse
          case hy5_qfalse => (intro W_ hS_; (try dsimp only at hS_); go_simp; (try (with_reducible rfl)))
          try simp only [Act.put, List.setIfInBounds_toArray, List.set_cons_zero, List.set_cons_succ]
          refine wpAnyH_take' (i := 6) (v := ?v6_qfalse) 63 rfl rfl (by kernel_rfl) (by kernel_rfl) (by kernel_rfl) (fun _ _ _ h => h) (Or.inl ⟨by kernel_rfl, ?hy6_qfalse⟩) (by assumption) ?rest6_qfalse
          case hy6_qfalse => (intro W_ hS_; (try dsimp only at hS_); go_simp; (try (with_reducible rfl)))
          try simp only [Act.put, List.setIfInBounds_toArray, List.set_cons_zero, List.set_cons_succ]
          refine wpAnyH_ready (rs := [7]) (by kernel_rfl) (by simp) ?_
          refine AllReadyH.cons rfl (fun K_ hK_ => ?_) AllReadyH.nil
          go_simp
          refine (covers_q f g _ u Hu.out).mono ?_; rintro e wr7 ⟨rfl, hBr7⟩
          go_wp2_with fail
          refine hK_.out _ _ (by exact held_ll7 hatc hblc hgc (below_then (below_drew1 _) hBr7)) (fun hHeld_7 => ?_)
          clear hK_
          try simp only [Act.put, List.setIfInBounds_toArray, List.set_cons_zero, List.set_cons_succ]
          refine wpAnyH_take' (i := 8) (v := ?v8_qfalse) 65 rfl rfl (by kernel_rfl) (by kernel_rfl) (by kernel_rfl) (fun _ _ _ h => h) (Or.inl ⟨by kernel_rfl, ?hy8_qfalse⟩) (by assumption) ?rest8_qfalse
          case hy8_qfalse => (intro W_ hS_; (try dsimp only at hS_); go_simp; (try (with_reducible rfl)))
          try simp only [Act.put, List.setIfInBounds_toArray, List.set_cons_zero, List.set_cons_succ]
          refine wpAnyH_take' (i := 9) (v := ?v9_qfalse) 9 rfl rfl (by kernel_rfl) (by kernel_rfl) (by kernel_rfl) (fun _ _ _ h => h) (Or.inl ⟨by kernel_rfl, ?hy9_qfalse⟩) (by assumption) ?rest9_qfalse
          case hy9_qfalse => (intro W_ hS_; (try dsimp only at hS_); go_simp; (try (with_reducible rfl)))
          try simp only [Act.put, List.setIfInBounds_toArray, List.set_cons_zero, List.set_cons_succ]
          refine wpAnyH_done (by kernel_rfl) ?_ _
          go_wp2_with fail
          go_meet
          exact ⟨rfl, below_then (below_drew1 _) hBr7⟩
        · skip
          refine wp_region_held_drew (S := fun W => W.cell? (ad.add (k * 3)) = some (.bool f.x) ∧ W.cell? ⟨(ad.add (k * 3)).block, (ad.add (k * 3)).off + 1, none⟩ = some (.int .i64 f.k) ∧ W.cell? ⟨(ad.add (k * 3)).block, (ad.add (k * 3)).off + 2, none⟩ = some (.int .i64 f.m) ∧ W.cell? ⟨w.heap.size + 1, 0, none⟩ = some (.bool g.x) ∧ W.cell? ⟨w.heap.size + 1, 1, none⟩ = some (.int .i64 g.k) ∧ W.cell? ⟨w.heap.size + 1, 2, none⟩ = some (.int .i64 g.m)) (by kernel_rfl) (by exact held_ll7 hatc hblc hgc (below_drew1 _)) (fun hHeld_ => ?_)
          refine wpAnyH_take' (i := 0) (v := ?v0_qtrue) 57 rfl rfl (by kernel_rfl) (by kernel_rfl) (by kernel_rfl) (fun _ _ _ h => h) (Or.inl ⟨by kernel_rfl, ?hy0_qtrue⟩) (by assumption) ?rest0_qtrue
          case hy0_qtrue => (intro W_ hS_; (try dsimp only at hS_); go_simp; (try (with_reducible rfl)))
          try simp only [Act.put, List.setIfInBounds_toArray, List.set_cons_zero, List.set_cons_succ]
          refine wpAnyH_take' (i := 1) (v := ?v1_qtrue) 58 rfl rfl (by kernel_rfl) (by kernel_rfl) (by kernel_rfl) (fun _ _ _ h => h) (Or.inl ⟨by kernel_rfl, ?hy1_qtrue⟩) (by assumption) ?rest1_qtrue
          case hy1_qtrue => (intro W_ hS_; (try dsimp only at hS_); go_simp; (try (with_reducible rfl)))
          try simp only [Act.put, List.setIfInBounds_toArray, List.set_cons_zero, List.set_cons_succ]
          refine wpAnyH_take' (i := 2) (v := undef) 59 rfl rfl (by kernel_rfl) (by kernel_rfl) (by kernel_rfl) (fun _ _ _ h => h) (Or.inr ⟨by kernel_rfl, rfl⟩) (by assumption) ?_
          try simp only [Act.put, List.setIfInBounds_toArray, List.set_cons_zero, List.set_cons_succ]
          refine wpAnyH_take' (i := 3) (v := undef) 60 rfl rfl (by kernel_rfl) (by kernel_rfl) (by kernel_rfl) (fun _ _ _ h => h) (Or.inr ⟨by kernel_rfl, rfl⟩) (by assumption) ?_
          try simp only [Act.put, List.setIfInBounds_toArray, List.set_cons_zero, List.set_cons_succ]
          refine wpAnyH_take' (i := 4) (v := undef) 61 rfl rfl (by kernel_rfl) (by kernel_rfl) (by kernel_rfl) (fun _ _ _ h => h) (Or.inr ⟨by kernel_rfl, rfl⟩) (by assumption) ?_
          try simp only [Act.put, List.setIfInBounds_toArray, List.set_cons_zero, List.set_cons_succ]
          refine wpAnyH_take' (i := 5) (v := undef) 62 rfl rfl (by kernel_rfl) (by kernel_rfl) (by kernel_rfl) (fun _ _ _ h => h) (Or.inr ⟨by kernel_rfl, rfl⟩) (by assumption) ?_
          try simp only [Act.put, List.setIfInBounds_toArray, List.set_cons_zero, List.set_cons_succ]
          refine wpAnyH_take' (i := 6) (v := undef) 63 rfl rfl (by kernel_rfl) (by kernel_rfl) (by kernel_rfl) (fun _ _ _ h => h) (Or.inr ⟨by kernel_rfl, rfl⟩) (by assumption) ?_
          try simp only [Act.put, List.setIfInBounds_toArray, List.set_cons_zero, List.set_cons_succ]
          refine wpAnyH_skip (i := 7) 64 rfl rfl (by kernel_rfl) (by kernel_rfl) (by assumption) ?_
          try simp only [Act.put, List.setIfInBounds_toArray, List.set_cons_zero, List.set_cons_succ]
          refine wpAnyH_take' (i := 8) (v := ?v8_qtrue) 65 rfl rfl (by kernel_rfl) (by kernel_rfl) (by kernel_rfl) (fun _ _ _ h => h) (Or.inl ⟨by kernel_rfl, ?hy8_qtrue⟩) (by assumption) ?rest8_qtrue
          case hy8_qtrue => (intro W_ hS_; (try dsimp only at hS_); go_simp; (try (with_reducible rfl)))
          try simp only [Act.put, List.setIfInBounds_toArray, List.set_cons_zero, List.set_cons_succ]
          refine wpAnyH_take' (i := 9) (v := ?v9_qtrue) 9 rfl rfl (by kernel_rfl) (by kernel_rfl) (by kernel_rfl) (fun _ _ _ h => h) (Or.inl ⟨by kernel_rfl, ?hy9_qtrue⟩) (by assumption) ?rest9_qtrue
          case hy9_qtrue => (intro W_ hS_; (try dsimp only at hS_); go_simp; (try (with_reducible rfl)))
          try simp only [Act.put, List.setIfInBounds_toArray, List.set_cons_zero, List.set_cons_succ]
          refine wpAnyH_done (by kernel_rfl) ?_ _
          go_wp2_with fail
          go_meet
          exact ⟨rfl, below_drew1 _⟩
      case rest =>
      obtain ⟨rfl, hwd⟩ := hcut
      obtain ⟨wd_, e_⟩ : ∃ w_, w_ = wc := ⟨_, rfl⟩
      subst e_
      have hcd := below_then hwc1 hwd
      obtain ⟨e0, e1, e2⟩ := lat_to hat hbl hcd
      have hrd := LRow.to (LRow.to HI.out.2.2 hcd) (below_alloc1 wd_ (.cells #[.bool f.x, .int .i64 f.k, .int .i64 f.m] 23))
      have Hlen := Lib.hid (show ((fs.take k).reverse).length = k by rw [List.length_reverse, List.length_take, Hn.out]; omega)
      go_wp2_with (first | (at_builtin; refine wpList_append_fl _ rfl _ _ rfl wd_.heap.size _ 1 [f] rfl (lown_one wd_ _ f rfl (Nat.le_refl _)) A' k c' _ (fs.take k).reverse rfl Hlen.out hrd (by omega) (by simp) ?_; intro A2 c2 w2 own2 hc2 hB2) | fail)
      have hBB : Below w4.heap.size w4 w2 := hBr.trans ((hcd.trans (((below_alloc1 wd_ _).trans hB2).mono hcd.size)).mono hBr.size)
      have hown : LRow w2 w2.heap.size A2 (fs.take (k + 1)).reverse := by rw [rev_take Hf.out]; exact LRow.own own2
      refine ⟨⟨k + 1, A2, c2, iv || t, cv || u, by omega, by go_num, rfl, rfl, by rw [Nat.add_comm], ?_, ?_, hown, hBB⟩, by simp [intOf]; omega⟩
      · rw [any_take Hf.out, ← Bool.or_assoc, HI.out.1, Ht.out]
      · rw [any_take Hf.out, HI.out.2.1, Hu.out]
    · skip
      obtain rfl : k = n := by omega
      have hI := HI.out
      have hfull : fs.take k = fs := List.take_of_length_le (by rw [Hn.out]; exact Nat.le_refl _)
      rw [hfull] at hI
      rw [anyV_of fs x.x x.i (by rw [Hn.out]; exact HZ.out)] at hI
      have HI2 := Lib.hid (And.intro hI.1 hI.2.1)
      have hk0 := hI.2.2
      clear hI HI hfull
      have hTr := below_then hT4 hBr
      have hxr : HasF wr w.heap.size x := block_below hBr hx4
      have hgr : HasL wr (w.heap.size + 1) g := block_below hBr hg4
      have hlr := LRow.to hl4 hBr
      clear hT4 hx4 hg4 hl4 hBr
      obtain ⟨gc0, gc1, gc2⟩ := cells3' hgr
      go_wp2_with fail
      clear gc0 gc1 gc2
      go_cut [12] from 73 to 78 (fun s wb => ∃ (A3 : Option Addr) (c3 : Nat), s = .slice A3 (k + 1) c3 ∧ LRow wb wb.heap.size A3 (fs ++ [g]) ∧ Below wr.heap.size wr wb)
      case first =>
        refine wp_region_held_drew (S := fun W => W.cell? ⟨w.heap.size + 1, 0, none⟩ = some (.bool g.x) ∧ W.cell? ⟨w.heap.size + 1, 1, none⟩ = some (.int .i64 g.k) ∧ W.cell? ⟨w.heap.size + 1, 2, none⟩ = some (.int .i64 g.m)) (by kernel_rfl) (by exact cells3' (block_below (below_drew1 _) hgr)) (fun hHeld_ => ?_)
        refine wpAnyH_take' (i := 1) (v := ?v1_0_) 74 rfl rfl (by kernel_rfl) (by kernel_rfl) (by kernel_rfl) (fun _ _ _ h => h) (Or.inl ⟨by kernel_rfl, ?hy1_0_⟩) (by assumption) ?rest1_0_
        case hy1_0_ => (intro W_ hS_; (try dsimp only at hS_); go_simp; (try (with_reducible rfl)))
        try simp only [Act.put, List.setIfInBounds_toArray, List.set_cons_zero, List.set_cons_succ]
        refine wpAnyH_take' (i := 3) (v := ?v3_0_) 76 rfl rfl (by kernel_rfl) (by kernel_rfl) (by kernel_rfl) (fun _ _ _ h => h) (Or.inl ⟨by kernel_rfl, ?hy3_0_⟩) (by assumption) ?rest3_0_
        case hy3_0_ => (intro W_ hS_; (try dsimp only at hS_); go_simp; (try (with_reducible rfl)))
        try simp only [Act.put, List.setIfInBounds_toArray, List.set_cons_zero, List.set_cons_succ]
        refine wpAnyH_ready (rs := [0, 4]) (by kernel_rfl) (by simp) ?_
        refine (AllReadyH.cons rfl (fun K_ hK_ => ?_) (AllReadyH.cons rfl (fun K_ hK_ => ?_) AllReadyH.nil))
        · go_simp
          go_wp2_with fail
          refine hK_.out _ _ (by exact cells3' (block_below ((below_alloc1 wr (.cells #[] 23)).drew) hgr)) (fun hHeld_0_0 => ?_)
          clear hK_
          try simp only [Act.put, List.setIfInBounds_toArray, List.set_cons_zero, List.set_cons_succ]
          refine wpAnyH_ready (rs := [2, 4]) (by kernel_rfl) (by simp) ?_
          refine (AllReadyH.cons rfl (fun K_ hK_ => ?_) (AllReadyH.cons rfl (fun K_ hK_ => ?_) AllReadyH.nil))
          · refine step_append_fl rfl _ _ rfl wr.heap.size _ 0 [] rfl (lown_to (lown_empty wr _ _ rfl (Nat.le_refl _)) (below_drew1 _)) A k c _ fs rfl Hn.out (LRow.to hlr ((below_alloc1 wr (.cells #[] 23)).drew)) (by omega) (by first | (simp; done) | (simp; omega)) ?_
            intro A1 c1 w1 own1 hc1 hB1
            rw [Nat.zero_add, List.nil_append] at own1
            rw [Nat.zero_add]
            have hBw1 : Below wr.heap.size wr w1 := ((below_alloc1 wr (.cells #[] 23)).drew).trans hB1
            change K_ (Act.put _ (some 75) _) _
            refine hK_.out _ _ (by exact cells3' (block_below (hBw1) hgr)) (fun hHeld_2_1 => ?_)
            clear hK_
            try simp only [Act.put, List.setIfInBounds_toArray, List.set_cons_zero, List.set_cons_succ]
            refine wpAnyH_ready (rs := [4]) (by kernel_rfl) (by simp) ?_
            refine (AllReadyH.cons rfl (fun K_ hK_ => ?_) AllReadyH.nil)
            go_simp
            go_wp2_with fail
            refine hK_.out _ _ (by exact cells3' (block_below ((hBw1.alloc hBw1.size (.cells #[.bool g.x, .int .i64 g.k, .int .i64 g.m] 23))) hgr)) (fun hHeld_4_2 => ?_)
            clear hK_
            try simp only [Act.put, List.setIfInBounds_toArray, List.set_cons_zero, List.set_cons_succ]
            refine wpAnyH_ready (rs := [5]) (by kernel_rfl) (by simp) ?_
            refine (AllReadyH.cons rfl (fun K_ hK_ => ?_) AllReadyH.nil)
            refine step_append_fl rfl _ _ rfl wr.heap.size _ k fs rfl (lown_to own1 (below_alloc1 w1 (.cells #[.bool g.x, .int .i64 g.k, .int .i64 g.m] 23))) _ 1 1 _ [g] rfl rfl (LRow.lit1 w1 g rfl) (by omega) (by have := hBw1.size; simp; omega) ?_
            intro A3 c3 w3 own3 hc3 hB3
            have hBw3 : Below wr.heap.size wr w3 := (hBw1.alloc hBw1.size _).trans hB3
            change K_ (Act.put _ (some 78) _) _
            refine hK_.out _ _ (by exact cells3' (block_below (hBw3) hgr)) (fun hHeld_5_3 => ?_)
            clear hK_
            try simp only [Act.put, List.setIfInBounds_toArray, List.set_cons_zero, List.set_cons_succ]
            refine wpAnyH_take' (i := 6) (v := ?v6_4_0_2_4_5) 12 rfl rfl (by kernel_rfl) (by kernel_rfl) (by kernel_rfl) (fun _ _ _ h => h) (Or.inl ⟨by kernel_rfl, ?hy6_4_0_2_4_5⟩) (by assumption) ?rest6_4_0_2_4_5
            case hy6_4_0_2_4_5 => (intro W_ hS_; (try dsimp only at hS_); go_simp; (try (with_reducible rfl)))
            try simp only [Act.put, List.setIfInBounds_toArray, List.set_cons_zero, List.set_cons_succ]
            refine wpAnyH_done (by kernel_rfl) ?_ _
            go_wp2_with fail
            go_meet
            exact ⟨A3, c3, rfl, LRow.own own3, hBw3⟩
          · go_simp
            go_wp2_with fail
            refine hK_.out _ _ (by exact cells3' (block_below ((below_two wr (.cells #[] 23) (.cells #[.bool g.x, .int .i64 g.k, .int .i64 g.m] 23)).drew) hgr)) (fun hHeld_4_1 => ?_)
            clear hK_
            try simp only [Act.put, List.setIfInBounds_toArray, List.set_cons_zero, List.set_cons_succ]
            refine wpAnyH_ready (rs := [2]) (by kernel_rfl) (by simp) ?_
            refine (AllReadyH.cons rfl (fun K_ hK_ => ?_) AllReadyH.nil)
            refine step_append_fl rfl _ _ rfl wr.heap.size _ 0 [] rfl (lown_to (lown_to (lown_empty wr _ _ rfl (Nat.le_refl _)) (below_alloc1 _ (.cells #[.bool g.x, .int .i64 g.k, .int .i64 g.m] 23))) (below_drew1 _)) A k c _ fs rfl Hn.out (LRow.to hlr ((below_two wr (.cells #[] 23) (.cells #[.bool g.x, .int .i64 g.k, .int .i64 g.m] 23)).drew)) (by omega) (by first | (simp; done) | (simp; omega)) ?_
            intro A1 c1 w1 own1 hc1 hB1
            rw [Nat.zero_add, List.nil_append] at own1
            rw [Nat.zero_add]
            have hBw1 : Below wr.heap.size wr w1 := ((below_two wr (.cells #[] 23) (.cells #[.bool g.x, .int .i64 g.k, .int .i64 g.m] 23)).drew).trans hB1
            change K_ (Act.put _ (some 75) _) _
            refine hK_.out _ _ (by exact cells3' (block_below (hBw1) hgr)) (fun hHeld_2_2 => ?_)
            clear hK_
            try simp only [Act.put, List.setIfInBounds_toArray, List.set_cons_zero, List.set_cons_succ]
            refine wpAnyH_ready (rs := [5]) (by kernel_rfl) (by simp) ?_
            refine (AllReadyH.cons rfl (fun K_ hK_ => ?_) AllReadyH.nil)
            refine step_append_fl rfl _ _ rfl wr.heap.size _ k fs rfl own1 _ 1 1 _ [g] rfl rfl (lrow_grown (hc1 : World.grownBy _ _ (some wr.heap.size)) (by simp) (LRow.to (LRow.lit1 (wr.alloc (.cells #[] 23)) g (by simp)) (below_drew1 _))) (by omega) hBw1.size ?_
            intro A3 c3 w3 own3 hc3 hB3
            have hBw3 : Below wr.heap.size wr w3 := hBw1.trans hB3
            change K_ (Act.put _ (some 78) _) _
            refine hK_.out _ _ (by exact cells3' (block_below (hBw3) hgr)) (fun hHeld_5_3 => ?_)
            clear hK_
            try simp only [Act.put, List.setIfInBounds_toArray, List.set_cons_zero, List.set_cons_succ]
            refine wpAnyH_take' (i := 6) (v := ?v6_4_0_4_2_5) 12 rfl rfl (by kernel_rfl) (by kernel_rfl) (by kernel_rfl) (fun _ _ _ h => h) (Or.inl ⟨by kernel_rfl, ?hy6_4_0_4_2_5⟩) (by assumption) ?rest6_4_0_4_2_5
            case hy6_4_0_4_2_5 => (intro W_ hS_; (try dsimp only at hS_); go_simp; (try (with_reducible rfl)))
            try simp only [Act.put, List.setIfInBounds_toArray, List.set_cons_zero, List.set_cons_succ]
            refine wpAnyH_done (by kernel_rfl) ?_ _
            go_wp2_with fail
            go_meet
            exact ⟨A3, c3, rfl, LRow.own own3, hBw3⟩
        · go_simp
          go_wp2_with fail
          refine hK_.out _ _ (by exact cells3' (block_below ((below_alloc1 wr (.cells #[.bool g.x, .int .i64 g.k, .int .i64 g.m] 23)).drew) hgr)) (fun hHeld_4_0 => ?_)
          clear hK_
          try simp only [Act.put, List.setIfInBounds_toArray, List.set_cons_zero, List.set_cons_succ]
          refine wpAnyH_ready (rs := [0]) (by kernel_rfl) (by simp) ?_
          refine (AllReadyH.cons rfl (fun K_ hK_ => ?_) AllReadyH.nil)
          go_simp
          go_wp2_with fail
          refine hK_.out _ _ (by exact cells3' (block_below ((below_two wr (.cells #[.bool g.x, .int .i64 g.k, .int .i64 g.m] 23) (.cells #[] 23)).drew) hgr)) (fun hHeld_0_1 => ?_)
          clear hK_
          try simp only [Act.put, List.setIfInBounds_toArray, List.set_cons_zero, List.set_cons_succ]
          refine wpAnyH_ready (rs := [2]) (by kernel_rfl) (by simp) ?_
          refine (AllReadyH.cons rfl (fun K_ hK_ => ?_) AllReadyH.nil)
          refine step_append_fl rfl _ _ rfl wr.heap.size _ 0 [] rfl (lown_to (lown_empty (wr.alloc (.cells #[.bool g.x, .int .i64 g.k, .int .i64 g.m] 23)) wr.heap.size (wr.heap.size + 1) (by simp) (by simp)) (below_drew1 _)) A k c _ fs rfl Hn.out (LRow.to hlr ((below_two wr (.cells #[.bool g.x, .int .i64 g.k, .int .i64 g.m] 23) (.cells #[] 23)).drew)) (by omega) (by first | (simp; done) | (simp; omega)) ?_
          intro A1 c1 w1 own1 hc1 hB1
          rw [Nat.zero_add, List.nil_append] at own1
          rw [Nat.zero_add]
          have hBw1 : Below wr.heap.size wr w1 := ((below_two wr (.cells #[.bool g.x, .int .i64 g.k, .int .i64 g.m] 23) (.cells #[] 23)).drew).trans hB1
          change K_ (Act.put _ (some 75) _) _
          refine hK_.out _ _ (by exact cells3' (block_below (hBw1) hgr)) (fun hHeld_2_2 => ?_)
          clear hK_
          try simp only [Act.put, List.setIfInBounds_toArray, List.set_cons_zero, List.set_cons_succ]
          refine wpAnyH_ready (rs := [5]) (by kernel_rfl) (by simp) ?_
          refine (AllReadyH.cons rfl (fun K_ hK_ => ?_) AllReadyH.nil)
          refine step_append_fl rfl _ _ rfl wr.heap.size _ k fs rfl own1 _ 1 1 _ [g] rfl rfl (lrow_grown (hc1 : World.grownBy _ _ (some (wr.heap.size + 1))) (by simp) (LRow.to (LRow.to (LRow.lit1 wr g rfl) (below_alloc1 _ (.cells #[] 23))) (below_drew1 _))) (by omega) hBw1.size ?_
          intro A3 c3 w3 own3 hc3 hB3
          have hBw3 : Below wr.heap.size wr w3 := hBw1.trans hB3
          change K_ (Act.put _ (some 78) _) _
          refine hK_.out _ _ (by exact cells3' (block_below (hBw3) hgr)) (fun hHeld_5_3 => ?_)
          clear hK_
          try simp only [Act.put, List.setIfInBounds_toArray, List.set_cons_zero, List.set_cons_succ]
          refine wpAnyH_take' (i := 6) (v := ?v6_4_4_0_2_5) 12 rfl rfl (by kernel_rfl) (by kernel_rfl) (by kernel_rfl) (fun _ _ _ h => h) (Or.inl ⟨by kernel_rfl, ?hy6_4_4_0_2_5⟩) (by assumption) ?rest6_4_4_0_2_5
          case hy6_4_4_0_2_5 => (intro W_ hS_; (try dsimp only at hS_); go_simp; (try (with_reducible rfl)))
          try simp only [Act.put, List.setIfInBounds_toArray, List.set_cons_zero, List.set_cons_succ]
          refine wpAnyH_done (by kernel_rfl) ?_ _
          go_wp2_with fail
          go_meet
          exact ⟨A3, c3, rfl, LRow.own own3, hBw3⟩
      case rest =>
      obtain ⟨A3, c3, rfl, hb0, hBb⟩ := hcut
      have hTb := below_then hTr hBb
      have hxb := block_below hBb hxr
      have hgb := block_below hBb hgr
      have hlb := LRow.to hlr hBb
      have hkb := LRow.to hk0 hBb
      clear hTr hxr hgr hlr hk0 hBb
      have hT50 := hTb
      have hx50 := hxb
      have hg50 := hgb
      have hl50 := hlb
      have hk50 := hkb
      have hb50 := hb0
      clear hTb hxb hgb hlb hkb hb0
      obtain ⟨I, hI, -, mI⟩ := frRight_id Hqx.out
      obtain ⟨KK, MM, hgok⟩ := okL_of Hqg.out
      have hcov : cv = true → takesV g x.x x.i = true → fs.any (takesV · x.x x.i) = true := fun h1 h2 => by rw [hI] at h2 ⊢; exact covered_any Hql.out hgok (HI2.out.2.trans h1) (by omega) h2
      have HC := Lib.hid hcov
      clear hcov hgok hI mI
      obtain ⟨tm, htm⟩ : ∃ q, takesV g x.x x.i = q := ⟨_, rfl⟩
      have Htm := Lib.hid htm
      clear htm
      obtain ⟨p, hp⟩ : ∃ q, fs.any (takesV · x.x x.i) = q := ⟨_, rfl⟩
      have Hp := Lib.hid hp
      clear hp
      have hboth : anyV (fs ++ [g]) x.x x.i = (p || tm) := by rw [anyV_snoc, Hp.out, Htm.out]
      have HB := Lib.hid hboth
      clear hboth
      have hrev : anyV fs.reverse x.x x.i = iv := (anyV_rev fs x.x x.i).trans HI2.out.1
      have HV := Lib.hid hrev
      clear hrev
      have Hlr := Lib.hid (show fs.reverse.length = k by rw [List.length_reverse]; exact Hn.out)
      have Hlb := Lib.hid (show (fs ++ [g]).length = k + 1 by simp [Hn.out])
      obtain ⟨xc0, xc1, xc2, xc3, xc4⟩ := cells5' hx50
      obtain ⟨gc0, gc1, gc2⟩ := cells3' hg50
      go_wp2_with fail
      clear xc0 xc1 xc2 xc3 xc4 gc0 gc1 gc2
      refine (any_q x fs wc iv k Hn.out A c hl50 (by omega) HI2.out.1).mono ?_
      rintro e w51 ⟨rfl, hB51⟩
      have hT51 := below_then hT50 hB51
      have hx51 := block_below hB51 hx50
      have hg51 := block_below hB51 hg50
      have hl51 := LRow.to hl50 hB51
      have hk51 := LRow.to hk50 hB51
      have hb51 := LRow.to hb50 hB51
      clear hT50 hx50 hg50 hl50 hk50 hb50 hB51
      obtain ⟨xc0, xc1, xc2, xc3, xc4⟩ := cells5' hx51
      obtain ⟨gc0, gc1, gc2⟩ := cells3' hg51
      go_wp2_with fail
      clear xc0 xc1 xc2 xc3 xc4 gc0 gc1 gc2
      refine (any_q x fs.reverse w51 iv k Hlr.out A' c' hk51 (by omega) HV.out).mono ?_
      rintro e w52 ⟨rfl, hB52⟩
      have hT52 := below_then hT51 hB52
      have hx52 := block_below hB52 hx51
      have hg52 := block_below hB52 hg51
      have hl52 := LRow.to hl51 hB52
      have hk52 := LRow.to hk51 hB52
      have hb52 := LRow.to hb51 hB52
      clear hT51 hx51 hg51 hl51 hk51 hb51 hB52
      by_cases h0 : k = 0
      · skip
        have hfs : fs = [] := List.eq_nil_of_length_eq_zero (by rw [Hn.out]; exact h0)
        have hp0 : p = false := by rw [← Hp.out, hfs]; rfl
        have hi0 : iv = true := by rw [← HI2.out.1, hfs]; rfl
        have hc0 : cv = false := by rw [← HI2.out.2, hfs]; rfl
        subst hp0 hi0 hc0
        clear hfs
        have hd1 : decide ((0 : Int) < (k : Int)) = false := by simp; omega
        have hd2 : decide (0 < k) = false := by simp; omega
        have Hk0 := Lib.hid h0
        clear h0
        obtain ⟨xc0, xc1, xc2, xc3, xc4⟩ := cells5' hx52
        obtain ⟨gc0, gc1, gc2⟩ := cells3' hg52
        go_wp2_with fail
        clear xc0 xc1 xc2 xc3 xc4 gc0 gc1 gc2
        refine (any_q x (fs ++ [g]) w52 tm (k + 1) Hlb.out A3 c3 hb52 (by omega) (HB.out.trans (by simp))).mono ?_
        rintro e w53 ⟨rfl, hB53⟩
        have hT53 := below_then hT52 hB53
        have hx53 := block_below hB53 hx52
        have hg53 := block_below hB53 hg52
        have hl53 := LRow.to hl52 hB53
        have hk53 := LRow.to hk52 hB53
        have hb53 := LRow.to hb52 hB53
        clear hT52 hx52 hg52 hl52 hk52 hb52 hB53
        obtain ⟨xc0, xc1, xc2, xc3, xc4⟩ := cells5' hx53
        obtain ⟨gc0, gc1, gc2⟩ := cells3' hg53
        go_wp2_with fail
        clear xc0 xc1 xc2 xc3 xc4 gc0 gc1 gc2
        refine (takes_q g x w53 tm Htm.out).mono ?_
        rintro e w54 ⟨rfl, hB54⟩
        have hT54 := below_then hT53 hB54
        have hx54 := block_below hB54 hx53
        have hg54 := block_below hB54 hg53
        have hl54 := LRow.to hl53 hB54
        have hk54 := LRow.to hk53 hB54
        have hb54 := LRow.to hb53 hB54
        clear hT53 hx53 hg53 hl53 hk53 hb53 hB54
        obtain ⟨xc0, xc1, xc2, xc3, xc4⟩ := cells5' hx54
        obtain ⟨gc0, gc1, gc2⟩ := cells3' hg54
        go_wp2_with fail
        go_ret
        exact ⟨rfl, hT54⟩
      · skip
        have hip : iv = p := by rw [← HI2.out.1, ← Hp.out]; unfold anyV; cases hfs : fs with | nil => (rw [hfs] at Hn; exact absurd Hn.out.symm h0) | cons => simp
        subst hip
        have hd1 : decide ((0 : Int) < (k : Int)) = true := by simp; omega
        have hd2 : decide (0 < k) = true := by simp; omega
        have Hk0 := Lib.hid h0
        clear h0
        cases iv
        · skip
          obtain ⟨xc0, xc1, xc2, xc3, xc4⟩ := cells5' hx52
          obtain ⟨gc0, gc1, gc2⟩ := cells3' hg52
          go_wp2_with fail
          clear xc0 xc1 xc2 xc3 xc4 gc0 gc1 gc2
          refine (any_q x (fs ++ [g]) w52 tm (k + 1) Hlb.out A3 c3 hb52 (by omega) (HB.out.trans (by simp))).mono ?_
          rintro e w53 ⟨rfl, hB53⟩
          have hT53 := below_then hT52 hB53
          have hx53 := block_below hB53 hx52
          have hg53 := block_below hB53 hg52
          have hl53 := LRow.to hl52 hB53
          have hk53 := LRow.to hk52 hB53
          have hb53 := LRow.to hb52 hB53
          clear hT52 hx52 hg52 hl52 hk52 hb52 hB53
          obtain ⟨xc0, xc1, xc2, xc3, xc4⟩ := cells5' hx53
          obtain ⟨gc0, gc1, gc2⟩ := cells3' hg53
          go_wp2_with fail
          clear xc0 xc1 xc2 xc3 xc4 gc0 gc1 gc2
          refine (takes_q g x w53 tm Htm.out).mono ?_
          rintro e w54 ⟨rfl, hB54⟩
          have hT54 := below_then hT53 hB54
          have hx54 := block_below hB54 hx53
          have hg54 := block_below hB54 hg53
          have hl54 := LRow.to hl53 hB54
          have hk54 := LRow.to hk53 hB54
          have hb54 := LRow.to hb53 hB54
          clear hT53 hx53 hg53 hl53 hk53 hb53 hB54
          cases cv
          · skip
            obtain ⟨xc0, xc1, xc2, xc3, xc4⟩ := cells5' hx54
            obtain ⟨gc0, gc1, gc2⟩ := cells3' hg54
            go_wp2_with fail
            go_ret
            exact ⟨rfl, hT54⟩
          · skip
            have htm : tm = false := by
              cases htm : tm
              · rfl
              · have := HC.out rfl (Htm.out.trans htm)
                rw [Hp.out] at this
                cases this
            subst htm
            obtain ⟨xc0, xc1, xc2, xc3, xc4⟩ := cells5' hx54
            obtain ⟨gc0, gc1, gc2⟩ := cells3' hg54
            go_wp2_with fail
            clear xc0 xc1 xc2 xc3 xc4 gc0 gc1 gc2
            refine (any_q x (fs ++ [g]) w54 false (k + 1) Hlb.out A3 c3 hb54 (by omega) (HB.out.trans (by simp))).mono ?_
            rintro e w55 ⟨rfl, hB55⟩
            have hT55 := below_then hT54 hB55
            have hx55 := block_below hB55 hx54
            have hg55 := block_below hB55 hg54
            have hl55 := LRow.to hl54 hB55
            have hk55 := LRow.to hk54 hB55
            have hb55 := LRow.to hb54 hB55
            clear hT54 hx54 hg54 hl54 hk54 hb54 hB55
            obtain ⟨xc0, xc1, xc2, xc3, xc4⟩ := cells5' hx55
            obtain ⟨gc0, gc1, gc2⟩ := cells3' hg55
            go_wp2_with fail
            go_ret
            exact ⟨rfl, hT55⟩
        · skip
          obtain ⟨xc0, xc1, xc2, xc3, xc4⟩ := cells5' hx52
          obtain ⟨gc0, gc1, gc2⟩ := cells3' hg52
          go_wp2_with fail
          clear xc0 xc1 xc2 xc3 xc4 gc0 gc1 gc2
          refine (any_q x (fs ++ [g]) w52 true (k + 1) Hlb.out A3 c3 hb52 (by omega) (HB.out.trans (by simp))).mono ?_
          rintro e w53 ⟨rfl, hB53⟩
          have hT53 := below_then hT52 hB53
          have hx53 := block_below hB53 hx52
          have hg53 := block_below hB53 hg52
          have hl53 := LRow.to hl52 hB53
          have hk53 := LRow.to hk52 hB53
          have hb53 := LRow.to hb52 hB53
          clear hT52 hx52 hg52 hl52 hk52 hb52 hB53
          cases cv
          · skip
            obtain ⟨xc0, xc1, xc2, xc3, xc4⟩ := cells5' hx53
            obtain ⟨gc0, gc1, gc2⟩ := cells3' hg53
            go_wp2_with fail
            go_ret
            exact ⟨rfl, hT53⟩
          · skip
            obtain ⟨xc0, xc1, xc2, xc3, xc4⟩ := cells5' hx53
            obtain ⟨gc0, gc1, gc2⟩ := cells3' hg53
            go_wp2_with fail
            clear xc0 xc1 xc2 xc3 xc4 gc0 gc1 gc2
            refine (any_q x (fs ++ [g]) w53 true (k + 1) Hlb.out A3 c3 hb53 (by omega) (HB.out.trans (by simp))).mono ?_
            rintro e w54 ⟨rfl, hB54⟩
            have hT54 := below_then hT53 hB54
            have hx54 := block_below hB54 hx53
            have hg54 := block_below hB54 hg53
            have hl54 := LRow.to hl53 hB54
            have hk54 := LRow.to hk53 hB54
            have hb54 := LRow.to hb53 hB54
            clear hT53 hx53 hg53 hl53 hk53 hb53 hB54
            obtain ⟨xc0, xc1, xc2, xc3, xc4⟩ := cells5' hx54
            obtain ⟨gc0, gc1, gc2⟩ := cells3' hg54
            go_wp2_with fail
            go_ret
            exact ⟨rfl, hT54⟩

end Go.Proofs.Ytmffflckcpgjiaa
