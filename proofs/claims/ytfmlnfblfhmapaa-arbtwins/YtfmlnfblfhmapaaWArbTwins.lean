/-
  ArbTwins.
-/
import Derived.Test.YtfmlnfblfhmapaaArbX
import Derived.Test.YtfmlnfblfhmapaaFrTwo
import Derived.Test.YtfmlnfblfhmapaaHead6
import Derived.Test.YtfmlnfblfhmapaaAny
import Derived.Deep.CutRange
namespace Go.Proofs.Ytfmlnfblfhmapaa
open Go.RowKit
set_option linter.unusedVariables false
set_option linter.unusedSimpArgs false

theorem and_keep (U k : Nat) (hk : k ≤ 61) (h : U < 2 ^ k) : bits .and .i64 (U : Int) ((2 ^ k - 1 : Nat) : Int) = U := by
  have e : bits .and .i64 (U : Int) ((2 ^ k - 1 : Nat) : Int) = IntKind.i64.wrap ((BitVec.ofInt 64 (U : Int) &&& BitVec.ofInt 64 ((2 ^ k - 1 : Nat) : Int)).toNat : Int) := rfl
  have h2 : 2 ^ k ≤ 2 ^ 61 := Nat.pow_le_pow_right (by omega) hk
  rw [e, BitVec.ofInt_natCast, BitVec.ofInt_natCast, BitVec.toNat_and, BitVec.toNat_ofNat, BitVec.toNat_ofNat, Nat.mod_eq_of_lt (show U < 2 ^ 64 by omega), Nat.mod_eq_of_lt (show 2 ^ k - 1 < 2 ^ 64 by omega), Nat.and_two_pow_sub_one_eq_mod, Nat.mod_eq_of_lt h, IntKind.wrap_i64]
  omega
theorem idm_keep {f : FV} (h : FOk f) : idm f.x f.i = f.i := by
  obtain ⟨U, e, hU⟩ := h
  rw [e]
  cases hx : f.x <;> rw [hx] at hU
  · exact and_keep U 11 (by omega) hU
  · exact and_keep U 29 (by omega) hU

structure TwinAt (w3 wc : World) (t : Nat) (tw g : FV) : Prop where
  blk : wc.heap[t]? = some (.cells #[.bool tw.x, .int .i64 tw.i, .bool tw.r, .int .i64 tw.n, .slice tw.a tw.m tw.c] 35)
  ok : FOk tw
  rank : rankF tw = rankF g
  below : Below w3.heap.size w3 wc
theorem twin_rank {w : World} {g tw f : FV} (hg : FOk g) (h : MadeOf w f tw) (hx : f.x = g.x) (hi : f.i = g.i) (hr : f.r = g.r) : rankF tw = rankF g := by
  have e := h.i
  rw [hx, hi, idm_keep hg] at e
  unfold rankF
  rw [h.x, h.r, e, hx, hr]
theorem fat_set5 {w : World} {t : Nat} {a : Addr} {f : FV} (h : FAt w a f) (hne : a.block ≠ t) (v0 v1 v2 v3 v4 : Value) : FAt (set5 w t v0 v1 v2 v3 v4) a f := by
  have hg := set5_grown w t v0 v1 v2 v3 v4
  obtain ⟨h0, h1, h2, h3, h4⟩ := h
  exact ⟨hg.cell h0 (by simpa using hne), hg.cell h1 (by simpa using hne), hg.cell h2 (by simpa using hne), hg.cell h3 (by simpa using hne), hg.cell h4 (by simpa using hne)⟩

theorem least_more {W : List Int} {gs : List FV} {tw : FV} (h : LeastE W (ranks gs)) (e0 : rankF tw = W) : LeastE W (ranks (gs ++ [tw])) where
  all := by
    intro r hr
    obtain ⟨f, hf, rfl⟩ := ranks_mem hr
    rcases List.mem_append.1 hf with e | e
    · exact h.all _ (rank_in e)
    · simp at e; subst e; exact .inl e0
  mem := fun _ => by rw [← e0]; exact rank_in (by simp)
  right := fun r hr => by obtain ⟨f, _, rfl⟩ := ranks_mem hr; exact rankF_right f
  rw_ := h.rw_
  none_ := fun e => by have := congrArg List.length e; simp [ranks] at this
  pos := fun r hr => by obtain ⟨f, _, rfl⟩ := ranks_mem hr; exact rankF_ne f

set_option maxRecDepth 100000 in
set_option maxHeartbeats 8000000 in
theorem arbTwins_any (fs : List FV) (n0 : Nat) (hn : fs.length = n0) (A : Option Addr) (c : Nat) (dl : List Int) (m0 : Nat) (hdl : dl.length = m0) (A' : Option Addr) (c' : Nat) (w : World) (h : FRow w w.heap.size A fs) (hd : ∀ f ∈ fs, FData w f) (hm : n0 ≤ maxLen) (hk : Row .u8 w w.heap.size A' dl) (hm' : m0 ≤ maxLen) (hc' : m0 ≤ c') :
    Calls Try.prog 8 #[.slice A n0 c, .slice A' m0 c'] w fun e w' => e = .returned (.bool true) ∧ Below w.heap.size w w' := by
  have HD := Lib.hid hdl
  clear hdl
  go_enter Try.func8, Try.ntmps8
  go_wp2_with fail
  refine (head6_any w).mono ?_
  rintro e w1 ⟨rfl, hB1⟩
  have h1 := h.to hB1
  have hd1 : ∀ f ∈ fs, FData w1 f := fun f hf => (hd f hf).to hB1
  clear h hd
  go_wp2_with fail
  refine (frames_any 9 (by omega) fs n0 hn A c w1 h1 hd1 hm).mono ?_
  rintro e w2 ⟨A2, n, c2, gs, rfl, hl2, hn8, hnc2, hok, hown2, hB2⟩
  have hT2 := below_then hB1 hB2
  have hr2 := FRow.own hown2
  obtain ⟨W, q, hW, hWq, hq⟩ := least_fs gs hok
  obtain ⟨z, hz⟩ : ∃ z, winOf W (ranks gs) = z := ⟨_, rfl⟩
  have HG := Lib.hid (And.intro hl2 (And.intro hok (And.intro hW (And.intro hWq hz))))
  clear hl2 hok hown2 hB1 hB2 h1 hd1 hn hm hW hWq hz
  go_wp2_with fail
  refine (win_any gs n HG.out.1 A2 c2 w2 hr2 HG.out.2.1 (by omega) W HG.out.2.2.1 q HG.out.2.2.2.1 hq z HG.out.2.2.2.2).mono ?_
  rintro e w3 ⟨rfl, hB3⟩
  have hr3 := hr2.to hB3
  have hT3 := below_then hT2 hB3
  have hk3 := hk.to hT3
  clear hr2 hT2 hB3 hk
  by_cases hn0 : n = 0
  · subst hn0
    obtain rfl : z = -1 := by
      rw [← HG.out.2.2.2.2, List.eq_nil_of_length_eq_zero HG.out.1]; rfl
    go_wp2_with fail
    go_ret
    exact ⟨rfl, hT3⟩
  · have hdn : ((n : Int) == 0) = false := by simp; omega
    obtain ⟨b, g, hbl, hg, hgW, hwin, hfirst⟩ := winner HG.out.2.2.1 (by rw [HG.out.1]; omega)
    have hbn : b < n := by rw [← HG.out.1]; exact hbl
    obtain rfl : (b : Int) = z := by rw [← hwin, HG.out.2.2.2.2]
    have hgok := HG.out.2.1 g (List.mem_of_getElem? hg)
    have hdb : decide ((b : Int) < 0) = false := by simp
    have hdb2 : decide ((n : Int) ≤ (b : Int)) = false := by simp; omega
    have hdb3 : decide (n ≤ b) = false := by simp; omega
    obtain ⟨ad, g', rfl, hg', hg0, hg1, hg2, hg3, hg4⟩ := hr3.get_ (k := b) (by rw [HG.out.1]; exact hbn)
    obtain rfl : g = g' := by rw [hg] at hg'; exact Option.some.inj hg'
    have hne : (ad.add (b * 5)).block ≠ w3.heap.size := by
      have := World.block_lt_of_cell? w3 _ hg0
      omega
    have HX := Lib.hid (And.intro hg (And.intro hgW (And.intro hfirst (show (rankF g).length = q by rw [hgW]; exact HG.out.2.2.2.1))))
    clear hbl hg hgW hwin hfirst hg'
    go_wp2_with fail
    go_cut [7] from 32 to 49 (fun p wc => ∃ (t : Nat) (tw : FV), p = .pointer (some ⟨t, 0, none⟩) ∧ TwinAt w3 wc t tw g)
    case first =>
      --begin
      refine wp_region_held_drew (S := fun W => FCells W (ad.add (b * 5)) g) (by kernel_rfl) (by exact FRow.at_ (B := _) (by repeat (first | assumption | exact Below.refl _ _ | ((with_reducible refine lit2 _ _ _ _ _ ?_); (first | (with_reducible rfl) | (simp; done))) | ((with_reducible refine lit1 _ _ _ _ ?_); (first | (with_reducible rfl) | (simp; done))) | refine frow_step (by first | assumption | exact below_alloc1 _ _ | exact below_drew1 _ | exact below_drewN0 _ _) ?_ | refine row_step (by first | assumption | exact below_alloc1 _ _ | exact below_drew1 _ | exact below_drewN0 _ _) ?_ | refine block_below (by first | assumption | exact below_alloc1 _ _ | exact below_drew1 _ | exact below_drewN0 _ _) ?_ | refine below_then ?_ (by first | assumption | exact below_alloc1 _ _ | exact below_drew1 _ | exact below_drewN0 _ _))) HX.out.1) (fun hHeld_ => ?_)
      refine wpAnyH_take' (i := 0) (v := ?v0_0_) 32 rfl rfl (by kernel_rfl) (by kernel_rfl) (by kernel_rfl) (fun _ _ _ h => h) (Or.inl ⟨by kernel_rfl, ?hy0_0_⟩) (by assumption) ?rest0_0_
      case hy0_0_ => (intro W_ hS_; (try dsimp only at hS_); go_simp; (try (with_reducible rfl)))
      try simp only [Act.put, List.setIfInBounds_toArray, List.set_cons_zero, List.set_cons_succ]
      refine wpAnyH_take' (i := 1) (v := ?v1_0_) 33 rfl rfl (by kernel_rfl) (by kernel_rfl) (by kernel_rfl) (fun _ _ _ h => h) (Or.inl ⟨by kernel_rfl, ?hy1_0_⟩) (by assumption) ?rest1_0_
      case hy1_0_ => (intro W_ hS_; (try dsimp only at hS_); go_simp; (try (with_reducible rfl)))
      try simp only [Act.put, List.setIfInBounds_toArray, List.set_cons_zero, List.set_cons_succ]
      refine wpAnyH_take' (i := 2) (v := ?v2_0_) 34 rfl rfl (by kernel_rfl) (by kernel_rfl) (by kernel_rfl) (fun _ _ _ h => h) (Or.inl ⟨by kernel_rfl, ?hy2_0_⟩) (by assumption) ?rest2_0_
      case hy2_0_ => (intro W_ hS_; (try dsimp only at hS_); go_simp; (try (with_reducible rfl)))
      try simp only [Act.put, List.setIfInBounds_toArray, List.set_cons_zero, List.set_cons_succ]
      refine wpAnyH_take' (i := 3) (v := ?v3_0_) 35 rfl rfl (by kernel_rfl) (by kernel_rfl) (by kernel_rfl) (fun _ _ _ h => h) (Or.inl ⟨by kernel_rfl, ?hy3_0_⟩) (by assumption) ?rest3_0_
      case hy3_0_ => (intro W_ hS_; (try dsimp only at hS_); go_simp; (try (with_reducible rfl)))
      try simp only [Act.put, List.setIfInBounds_toArray, List.set_cons_zero, List.set_cons_succ]
      refine wpAnyH_take' (i := 4) (v := ?v4_0_) 36 rfl rfl (by kernel_rfl) (by kernel_rfl) (by kernel_rfl) (fun _ _ _ h => h) (Or.inl ⟨by kernel_rfl, ?hy4_0_⟩) (by assumption) ?rest4_0_
      case hy4_0_ => (intro W_ hS_; (try dsimp only at hS_); go_simp; (try (with_reducible rfl)))
      try simp only [Act.put, List.setIfInBounds_toArray, List.set_cons_zero, List.set_cons_succ]
      refine wpAnyH_take' (i := 5) (v := ?v5_0_) 37 rfl rfl (by kernel_rfl) (by kernel_rfl) (by kernel_rfl) (fun _ _ _ h => h) (Or.inl ⟨by kernel_rfl, ?hy5_0_⟩) (by assumption) ?rest5_0_
      case hy5_0_ => (intro W_ hS_; (try dsimp only at hS_); go_simp; (try (with_reducible rfl)))
      try simp only [Act.put, List.setIfInBounds_toArray, List.set_cons_zero, List.set_cons_succ]
      refine wpAnyH_take' (i := 6) (v := ?v6_0_) 38 rfl rfl (by kernel_rfl) (by kernel_rfl) (by kernel_rfl) (fun _ _ _ h => h) (Or.inl ⟨by kernel_rfl, ?hy6_0_⟩) (by assumption) ?rest6_0_
      case hy6_0_ => (intro W_ hS_; (try dsimp only at hS_); go_simp; (try (with_reducible rfl)))
      try simp only [Act.put, List.setIfInBounds_toArray, List.set_cons_zero, List.set_cons_succ]
      refine wpAnyH_take' (i := 7) (v := ?v7_0_) 39 rfl rfl (by kernel_rfl) (by kernel_rfl) (by kernel_rfl) (fun _ _ _ h => h) (Or.inl ⟨by kernel_rfl, ?hy7_0_⟩) (by assumption) ?rest7_0_
      case hy7_0_ => (intro W_ hS_; (try dsimp only at hS_); go_simp; (try (with_reducible rfl)))
      try simp only [Act.put, List.setIfInBounds_toArray, List.set_cons_zero, List.set_cons_succ]
      refine wpAnyH_take' (i := 8) (v := ?v8_0_) 40 rfl rfl (by kernel_rfl) (by kernel_rfl) (by kernel_rfl) (fun _ _ _ h => h) (Or.inl ⟨by kernel_rfl, ?hy8_0_⟩) (by assumption) ?rest8_0_
      case hy8_0_ => (intro W_ hS_; (try dsimp only at hS_); go_simp; (try (with_reducible rfl)))
      try simp only [Act.put, List.setIfInBounds_toArray, List.set_cons_zero, List.set_cons_succ]
      refine wpAnyH_take' (i := 9) (v := ?v9_0_) 41 rfl rfl (by kernel_rfl) (by kernel_rfl) (by kernel_rfl) (fun _ _ _ h => h) (Or.inl ⟨by kernel_rfl, ?hy9_0_⟩) (by assumption) ?rest9_0_
      case hy9_0_ => (intro W_ hS_; (try dsimp only at hS_); go_simp; (try (with_reducible rfl)))
      try simp only [Act.put, List.setIfInBounds_toArray, List.set_cons_zero, List.set_cons_succ]
      refine wpAnyH_take' (i := 10) (v := ?v10_0_) 42 rfl rfl (by kernel_rfl) (by kernel_rfl) (by kernel_rfl) (fun _ _ _ h => h) (Or.inl ⟨by kernel_rfl, ?hy10_0_⟩) (by assumption) ?rest10_0_
      case hy10_0_ => (intro W_ hS_; (try dsimp only at hS_); go_simp; (try (with_reducible rfl)))
      try simp only [Act.put, List.setIfInBounds_toArray, List.set_cons_zero, List.set_cons_succ]
      refine wpAnyH_take' (i := 11) (v := ?v11_0_) 43 rfl rfl (by kernel_rfl) (by kernel_rfl) (by kernel_rfl) (fun _ _ _ h => h) (Or.inl ⟨by kernel_rfl, ?hy11_0_⟩) (by assumption) ?rest11_0_
      case hy11_0_ => (intro W_ hS_; (try dsimp only at hS_); go_simp; (try (with_reducible rfl)))
      try simp only [Act.put, List.setIfInBounds_toArray, List.set_cons_zero, List.set_cons_succ]
      refine wpAnyH_take' (i := 12) (v := ?v12_0_) 44 rfl rfl (by kernel_rfl) (by kernel_rfl) (by kernel_rfl) (fun _ _ _ h => h) (Or.inl ⟨by kernel_rfl, ?hy12_0_⟩) (by assumption) ?rest12_0_
      case hy12_0_ => (intro W_ hS_; (try dsimp only at hS_); go_simp; (try (with_reducible rfl)))
      try simp only [Act.put, List.setIfInBounds_toArray, List.set_cons_zero, List.set_cons_succ]
      refine wpAnyH_take' (i := 13) (v := ?v13_0_) 45 rfl rfl (by kernel_rfl) (by kernel_rfl) (by kernel_rfl) (fun _ _ _ h => h) (Or.inl ⟨by kernel_rfl, ?hy13_0_⟩) (by assumption) ?rest13_0_
      case hy13_0_ => (intro W_ hS_; (try dsimp only at hS_); go_simp; (try (with_reducible rfl)))
      try simp only [Act.put, List.setIfInBounds_toArray, List.set_cons_zero, List.set_cons_succ]
      refine wpAnyH_take' (i := 14) (v := ?v14_0_) 46 rfl rfl (by kernel_rfl) (by kernel_rfl) (by kernel_rfl) (fun _ _ _ h => h) (Or.inl ⟨by kernel_rfl, ?hy14_0_⟩) (by assumption) ?rest14_0_
      case hy14_0_ => (intro W_ hS_; (try dsimp only at hS_); go_simp; (try (with_reducible rfl)))
      try simp only [Act.put, List.setIfInBounds_toArray, List.set_cons_zero, List.set_cons_succ]
      refine wpAnyH_take' (i := 15) (v := ?v15_0_) 47 rfl rfl (by kernel_rfl) (by kernel_rfl) (by kernel_rfl) (fun _ _ _ h => h) (Or.inl ⟨by kernel_rfl, ?hy15_0_⟩) (by assumption) ?rest15_0_
      case hy15_0_ => (intro W_ hS_; (try dsimp only at hS_); go_simp; (try (with_reducible rfl)))
      try simp only [Act.put, List.setIfInBounds_toArray, List.set_cons_zero, List.set_cons_succ]
      refine wpAnyH_take' (i := 16) (v := ?v16_0_) 48 rfl rfl (by kernel_rfl) (by kernel_rfl) (by kernel_rfl) (fun _ _ _ h => h) (Or.inl ⟨by kernel_rfl, ?hy16_0_⟩) (by assumption) ?rest16_0_
      case hy16_0_ => (intro W_ hS_; (try dsimp only at hS_); go_simp; (try (with_reducible rfl)))
      try simp only [Act.put, List.setIfInBounds_toArray, List.set_cons_zero, List.set_cons_succ]
      refine wpAnyH_ready (rs := [17, 18]) (by kernel_rfl) (by simp) ?_
      refine (AllReadyH.cons rfl (fun K_ hK_ => ?_) (AllReadyH.cons rfl (fun K_ hK_ => ?_) AllReadyH.nil))
      · go_simp
        go_at_call 25
        refine (made_any ⟨g.x, g.i, g.r, 0, A', m0, c'⟩ _ dl HD.out (by repeat (first | assumption | exact Below.refl _ _ | ((with_reducible refine lit2 _ _ _ _ _ ?_); (first | (with_reducible rfl) | (simp; done))) | ((with_reducible refine lit1 _ _ _ _ ?_); (first | (with_reducible rfl) | (simp; done))) | refine row_step (by first | assumption | exact below_alloc1 _ _ | exact below_drew1 _ | exact below_drewN0 _ _) ?_ | refine block_below (by first | assumption | exact below_alloc1 _ _ | exact below_drew1 _ | exact below_drewN0 _ _) ?_ | refine below_then ?_ (by first | assumption | exact below_alloc1 _ _ | exact below_drew1 _ | exact below_drewN0 _ _))) hm' hc').mono ?_
        rintro e w5 ⟨tw, rfl, hmade, hB5⟩
        have hmr := twin_rank hgok hmade rfl rfl rfl
        have hmo := hmade.ok
        go_wp2_with fail
        refine hK_.out _ _ (by exact FRow.at_ (B := _) (by repeat (first | assumption | exact Below.refl _ _ | ((with_reducible refine lit2 _ _ _ _ _ ?_); (first | (with_reducible rfl) | (simp; done))) | ((with_reducible refine lit1 _ _ _ _ ?_); (first | (with_reducible rfl) | (simp; done))) | refine frow_step (by first | assumption | exact below_alloc1 _ _ | exact below_drew1 _ | exact below_drewN0 _ _) ?_ | refine row_step (by first | assumption | exact below_alloc1 _ _ | exact below_drew1 _ | exact below_drewN0 _ _) ?_ | refine block_below (by first | assumption | exact below_alloc1 _ _ | exact below_drew1 _ | exact below_drewN0 _ _) ?_ | refine below_then ?_ (by first | assumption | exact below_alloc1 _ _ | exact below_drew1 _ | exact below_drewN0 _ _))) HX.out.1) (fun hHeld_17_0 => ?_)
        clear hK_
        try simp only [Act.put, List.setIfInBounds_toArray, List.set_cons_zero, List.set_cons_succ]
        refine wpAnyH_ready (rs := [18]) (by kernel_rfl) (by simp) ?_
        refine (AllReadyH.cons rfl (fun K_ hK_ => ?_) AllReadyH.nil)
        go_simp
        go_wp2_with fail
        refine hK_.out _ _ (by exact FRow.at_ (B := _) (by repeat (first | assumption | exact Below.refl _ _ | ((with_reducible refine lit2 _ _ _ _ _ ?_); (first | (with_reducible rfl) | (simp; done))) | ((with_reducible refine lit1 _ _ _ _ ?_); (first | (with_reducible rfl) | (simp; done))) | refine frow_step (by first | assumption | exact below_alloc1 _ _ | exact below_drew1 _ | exact below_drewN0 _ _) ?_ | refine row_step (by first | assumption | exact below_alloc1 _ _ | exact below_drew1 _ | exact below_drewN0 _ _) ?_ | refine block_below (by first | assumption | exact below_alloc1 _ _ | exact below_drew1 _ | exact below_drewN0 _ _) ?_ | refine below_then ?_ (by first | assumption | exact below_alloc1 _ _ | exact below_drew1 _ | exact below_drewN0 _ _))) HX.out.1) (fun hHeld_18_1 => ?_)
        clear hK_
        try simp only [Act.put, List.setIfInBounds_toArray, List.set_cons_zero, List.set_cons_succ]
        refine wpAnyH_ready (rs := [19]) (by kernel_rfl) (by simp) ?_
        refine (AllReadyH.cons rfl (fun K_ hK_ => ?_) AllReadyH.nil)
        go_simp
        go_wp2_with fail
        refine hK_.out _ _ (by exact FRow.at_ (B := _) (by repeat (first | assumption | exact Below.refl _ _ | ((with_reducible refine lit2 _ _ _ _ _ ?_); (first | (with_reducible rfl) | (simp; done))) | ((with_reducible refine lit1 _ _ _ _ ?_); (first | (with_reducible rfl) | (simp; done))) | refine frow_step (by first | assumption | exact below_alloc1 _ _ | exact below_drew1 _ | exact below_drewN0 _ _) ?_ | refine row_step (by first | assumption | exact below_alloc1 _ _ | exact below_drew1 _ | exact below_drewN0 _ _) ?_ | refine block_below (by first | assumption | exact below_alloc1 _ _ | exact below_drew1 _ | exact below_drewN0 _ _) ?_ | refine below_then ?_ (by first | assumption | exact below_alloc1 _ _ | exact below_drew1 _ | exact below_drewN0 _ _))) HX.out.1) (fun hHeld_19_2 => ?_)
        clear hK_
        try simp only [Act.put, List.setIfInBounds_toArray, List.set_cons_zero, List.set_cons_succ]
        refine wpAnyH_done (by kernel_rfl) ?_ _
        have hBw : Below w3.heap.size w3 w5 := by repeat (first | assumption | exact Below.refl _ _ | ((with_reducible refine lit2 _ _ _ _ _ ?_); (first | (with_reducible rfl) | (simp; done))) | ((with_reducible refine lit1 _ _ _ _ ?_); (first | (with_reducible rfl) | (simp; done))) | refine row_step (by first | assumption | exact below_alloc1 _ _ | exact below_drew1 _ | exact below_drewN0 _ _) ?_ | refine block_below (by first | assumption | exact below_alloc1 _ _ | exact below_drew1 _ | exact below_drewN0 _ _) ?_ | refine below_then ?_ (by first | assumption | exact below_alloc1 _ _ | exact below_drew1 _ | exact below_drewN0 _ _))
        go_wp2_with fail
        go_meet
        exact ⟨w5.heap.size, tw, rfl, ⟨World.alloc_heap_new _ _, hmo, hmr, below_then hBw (below_alloc1 _ _)⟩⟩
      · go_simp
        have hblk4 : (w3.alloc (.cells #[.bool false, .int .i64 0, .bool false, .int .i64 0, .slice none 0 0] 35)).drew.heap[w3.heap.size]? = some (.cells #[.bool false, .int .i64 0, .bool false, .int .i64 0, .slice none 0 0] 35) := World.alloc_heap_new w3 _
        go_wp2_with fail
        refine hK_.out _ _ (by exact FRow.at_ (B := _) (by repeat (first | assumption | exact Below.refl _ _ | ((with_reducible refine lit2 _ _ _ _ _ ?_); (first | (with_reducible rfl) | (simp; done))) | ((with_reducible refine lit1 _ _ _ _ ?_); (first | (with_reducible rfl) | (simp; done))) | refine frow_step (by first | assumption | exact below_alloc1 _ _ | exact below_drew1 _ | exact below_drewN0 _ _) ?_ | refine row_step (by first | assumption | exact below_alloc1 _ _ | exact below_drew1 _ | exact below_drewN0 _ _) ?_ | refine block_below (by first | assumption | exact below_alloc1 _ _ | exact below_drew1 _ | exact below_drewN0 _ _) ?_ | refine below_then ?_ (by first | assumption | exact below_alloc1 _ _ | exact below_drew1 _ | exact below_drewN0 _ _))) HX.out.1) (fun hHeld_18_0 => ?_)
        clear hK_
        try simp only [Act.put, List.setIfInBounds_toArray, List.set_cons_zero, List.set_cons_succ]
        refine wpAnyH_ready (rs := [17]) (by kernel_rfl) (by simp) ?_
        refine (AllReadyH.cons rfl (fun K_ hK_ => ?_) AllReadyH.nil)
        go_simp
        go_at_call 25
        refine (made_any ⟨g.x, g.i, g.r, 0, A', m0, c'⟩ _ dl HD.out (by repeat (first | assumption | exact Below.refl _ _ | ((with_reducible refine lit2 _ _ _ _ _ ?_); (first | (with_reducible rfl) | (simp; done))) | ((with_reducible refine lit1 _ _ _ _ ?_); (first | (with_reducible rfl) | (simp; done))) | refine row_step (by first | assumption | exact below_alloc1 _ _ | exact below_drew1 _ | exact below_drewN0 _ _) ?_ | refine block_below (by first | assumption | exact below_alloc1 _ _ | exact below_drew1 _ | exact below_drewN0 _ _) ?_ | refine below_then ?_ (by first | assumption | exact below_alloc1 _ _ | exact below_drew1 _ | exact below_drewN0 _ _))) hm' hc').mono ?_
        rintro e w5 ⟨tw, rfl, hmade, hB5⟩
        have hmr := twin_rank hgok hmade rfl rfl rfl
        have hmo := hmade.ok
        have hblk : w5.heap[w3.heap.size]? = some (.cells #[.bool false, .int .i64 0, .bool false, .int .i64 0, .slice none 0 0] 35) := block_below hB5 hblk4
        obtain ⟨⟨z0, z1, z2, z3, z4⟩, y0, y1, y2, y3, y4⟩ := cells5 hblk
        go_wp2_with fail
        refine hK_.out _ _ (by exact FRow.at_ (B := _) (by repeat (first | assumption | exact Below.refl _ _ | ((with_reducible refine lit2 _ _ _ _ _ ?_); (first | (with_reducible rfl) | (simp; done))) | ((with_reducible refine lit1 _ _ _ _ ?_); (first | (with_reducible rfl) | (simp; done))) | refine frow_step (by first | assumption | exact below_alloc1 _ _ | exact below_drew1 _ | exact below_drewN0 _ _) ?_ | refine row_step (by first | assumption | exact below_alloc1 _ _ | exact below_drew1 _ | exact below_drewN0 _ _) ?_ | refine block_below (by first | assumption | exact below_alloc1 _ _ | exact below_drew1 _ | exact below_drewN0 _ _) ?_ | refine below_then ?_ (by first | assumption | exact below_alloc1 _ _ | exact below_drew1 _ | exact below_drewN0 _ _))) HX.out.1) (fun hHeld_17_1 => ?_)
        clear hK_
        try simp only [Act.put, List.setIfInBounds_toArray, List.set_cons_zero, List.set_cons_succ]
        refine wpAnyH_ready (rs := [19]) (by kernel_rfl) (by simp) ?_
        refine (AllReadyH.cons rfl (fun K_ hK_ => ?_) AllReadyH.nil)
        go_simp
        go_wp2_with fail
        refine hK_.out _ _ (by exact fat_set5 (FRow.at_ (B := _) (by repeat (first | assumption | exact Below.refl _ _ | ((with_reducible refine lit2 _ _ _ _ _ ?_); (first | (with_reducible rfl) | (simp; done))) | ((with_reducible refine lit1 _ _ _ _ ?_); (first | (with_reducible rfl) | (simp; done))) | refine frow_step (by first | assumption | exact below_alloc1 _ _ | exact below_drew1 _ | exact below_drewN0 _ _) ?_ | refine row_step (by first | assumption | exact below_alloc1 _ _ | exact below_drew1 _ | exact below_drewN0 _ _) ?_ | refine block_below (by first | assumption | exact below_alloc1 _ _ | exact below_drew1 _ | exact below_drewN0 _ _) ?_ | refine below_then ?_ (by first | assumption | exact below_alloc1 _ _ | exact below_drew1 _ | exact below_drewN0 _ _))) HX.out.1) hne _ _ _ _ _) (fun hHeld_19_2 => ?_)
        clear hK_
        try simp only [Act.put, List.setIfInBounds_toArray, List.set_cons_zero, List.set_cons_succ]
        refine wpAnyH_done (by kernel_rfl) ?_ _
        have hBw : Below w3.heap.size w3 w5 := by repeat (first | assumption | exact Below.refl _ _ | ((with_reducible refine lit2 _ _ _ _ _ ?_); (first | (with_reducible rfl) | (simp; done))) | ((with_reducible refine lit1 _ _ _ _ ?_); (first | (with_reducible rfl) | (simp; done))) | refine row_step (by first | assumption | exact below_alloc1 _ _ | exact below_drew1 _ | exact below_drewN0 _ _) ?_ | refine block_below (by first | assumption | exact below_alloc1 _ _ | exact below_drew1 _ | exact below_drewN0 _ _) ?_ | refine below_then ?_ (by first | assumption | exact below_alloc1 _ _ | exact below_drew1 _ | exact below_drewN0 _ _))
        have g5 := set5_grown w5 w3.heap.size (.bool tw.x) (.int .i64 tw.i) (.bool tw.r) (.int .i64 tw.n) (.slice tw.a tw.m tw.c)
        go_wp2_with fail
        go_meet
        exact ⟨w3.heap.size, tw, rfl, ⟨set5_obj hblk _ _ _ _ _, hmo, hmr, below_of_grown' hBw g5 (Nat.le_refl _)⟩⟩
      --end
    case rest =>
      obtain ⟨t, tw, rfl, htw⟩ := hcut
      have hr4 := hr3.to htw.below
      have hT4 := hT3.trans (htw.below.mono hT3.size)
      have htl := (Array.getElem?_eq_some_iff.1 htw.blk).1
      have htwok := htw.ok
      have htwW : rankF tw = W := by rw [htw.rank]; exact HX.out.2.1
      obtain ⟨all, hall⟩ : ∃ all, gs ++ [tw] = all := ⟨_, rfl⟩
      have hallok : ∀ f ∈ all, FOk f := by
        intro f hf
        rw [← hall] at hf
        rcases List.mem_append.1 hf with e | e
        · exact HG.out.2.1 f e
        · simp at e; subst e; exact htwok
      have hWa : LeastE W (ranks all) := by rw [← hall]; exact least_more HG.out.2.2.1 htwW
      have hlen : all.length = n + 1 := by rw [← hall]; simp [HG.out.1]
      have hwa : winOf W (ranks all) = b := by
        refine winOf_at ?_ fun j hj e => ?_
        · rw [ranks, List.getElem?_map, ← hall, List.getElem?_append_left (by rw [HG.out.1]; exact hbn), HX.out.1]
          simp [HX.out.2.1]
        · rw [ranks, List.getElem?_map, ← hall, List.getElem?_append_left (by rw [HG.out.1]; omega), Option.map_eq_some_iff] at e
          obtain ⟨f, hf, e⟩ := e
          exact HX.out.2.2.1 j f hj hf e
      obtain ⟨ls, hls⟩ : ∃ ls, (ranks all).map (lostOf W) = ls := ⟨_, rfl⟩
      have hlsn : ls.length = n + 1 := by rw [← hls]; simp [ranks, hlen]
      have hlast : ls[n]? = some (-1) := by
        rw [← hls, List.getElem?_map, ranks, List.getElem?_map, ← hall, List.getElem?_append_right (by rw [HG.out.1]; omega), HG.out.1]
        simp [htwW, lostOf_self]
      have hltw : (rankF tw).length = q := by rw [htwW]; exact HG.out.2.2.2.1
      have HA := Lib.hid (And.intro hall (And.intro hallok (And.intro hWa (And.intro hlen (And.intro hwa (And.intro hls (And.intro hlsn (And.intro hlast (And.intro htwW hltw)))))))))
      have HT := Lib.hid htw
      clear hall hallok hWa hlen hwa hls hlsn hlast htwW hltw htw hg0 hg1 hg2 hg3 hg4 hr3 hT3 hk3
      have hB0 := Below.refl wc.heap.size wc
      go_wp2_with (first
        | (have hq_ := hown6; clear hq_; at_builtin; refine wpList_append_fr _ rfl _ _ rfl wc.heap.size _ n gs rfl (hown6.alloc _) (some ⟨w6.heap.size, 0, none⟩) 1 1 _ [tw] rfl rfl (FRow.lit1 w6 tw rfl) (by omega) (by have := hB46.size; simp; omega) ?_; intro A7 c7 w7 hown7 hc7 hB7)
        | (at_builtin; refine wpList_append_fr _ rfl _ _ rfl wc.heap.size _ 0 [] rfl (fown_empty wc _ _ rfl (Nat.le_refl _)) (some ad) n c2 wc.heap.size gs rfl HG.out.1 (hr4.below (below_alloc1 _ _)) (by omega) (by simp) ?_; intro A6 c6 w6 hown6 hc6 hB6; simp only [Nat.zero_add, List.nil_append] at hown6 hc6; have hB46 : Below wc.heap.size wc w6 := (((Below.refl _ wc).alloc (Nat.le_refl _) _).trans hB6); obtain ⟨t0, t1, t2, t3, t4⟩ := cells5' ((hB46.block t htl).trans HT.out.blk)))
      rw [HA.out.1] at hown7
      have hB57 : Below wc.heap.size wc w7 := (hB46.alloc hB46.size _).trans hB7
      have hf7 := FRow.own hown7
      have hT7 := hT4.trans (hB57.mono hT4.size)
      have ht7 := (hB57.block t htl).trans HT.out.blk
      clear hown7 hown6 hB6 hB7 hB46 hB57 t0 t1 t2 t3 t4 hr4 hT4 htl hB0
      have hn1 : ((n + 1 : Nat) : Int) = (n : Int) + 1 := by omega
      go_wp2_with fail
      refine (lost_any all (n + 1) HA.out.2.2.2.1 A7 c7 w7 hf7 HA.out.2.1 (by omega) W HA.out.2.2.1 q HG.out.2.2.2.1 hq).mono ?_
      rw [HA.out.2.2.2.2.2.1]
      rintro e w8 ⟨A8, rfl, hl8, hB8⟩
      have hf8 := hf7.to hB8
      have ht8 := block_below hB8 ht7
      have hT8 := below_then hT7 hB8
      obtain ⟨al, rfl⟩ := hl8.some_ (by rw [HA.out.2.2.2.2.2.2.1]; omega)
      clear hf7 ht7 hT7 hB8
      have hbb : ((b : Int) != (b : Int)) = false := by simp
      go_wp2_with fail
      refine (win_any all (n + 1) HA.out.2.2.2.1 A7 c7 w8 hf8 HA.out.2.1 (by omega) W HA.out.2.2.1 q HG.out.2.2.2.1 hq (b : Int) HA.out.2.2.2.2.1).mono ?_
      rintro e w9 ⟨rfl, hB9⟩
      have hf9 := hf8.to hB9
      have ht9 := block_below hB9 ht8
      have hT9 := below_then hT8 hB9
      have hl9 := hl8.to hB9
      have hlc := hl9.at_ HA.out.2.2.2.2.2.2.2.1
      clear hf8 ht8 hT8 hB9 hl8
      go_wp2_with fail
      go_loopw [10] (fun i wr => ∃ k : Nat, k ≤ n + 1 ∧ i = .int .i64 k ∧ Below w.heap.size w wr ∧ FRow wr wr.heap.size A7 all ∧ Row .i64 wr wr.heap.size (some al) ls ∧ wr.heap[t]? = some (.cells #[.bool tw.x, .int .i64 tw.i, .bool tw.r, .int .i64 tw.n, .slice tw.a tw.m tw.c] 35)) (fun i _ => n + 1 - (intOf i).toNat)
      case atStart => exact ⟨0, Nat.zero_le _, rfl, hT9, hf9, hl9, ht9⟩
      case round =>
        clear hf9 ht9 hT9 hl9 hlc
        obtain ⟨k, hk, rfl, hB, hr, hl, ht⟩ := hrel
        have hsz := hB.size
        by_cases hlt : k < n + 1
        · obtain ⟨a7, f, rfl, hf, hf0, hf1, hf2, hf3, hf4⟩ := hr.get_ (k := k) (by rw [HA.out.2.2.2.1]; exact hlt)
          obtain ⟨x, hx⟩ : ∃ x, ls[k]? = some x := ⟨_, List.getElem?_eq_getElem (by rw [HA.out.2.2.2.2.2.2.1]; exact hlt)⟩
          have hxc := hl.at_ hx
          have hfok := HA.out.2.1 f (List.mem_of_getElem? hf)
          have hxe : x = lostOf W (rankF f) := by
            rw [← HA.out.2.2.2.2.2.1, List.getElem?_map, ranks, List.getElem?_map, hf] at hx
            simpa using hx.symm
          obtain ⟨p, hp⟩ : ∃ p, (rankF f).length = p := ⟨_, rfl⟩
          have hp32 : p ≤ 32 := by rw [← hp]; exact rankF_le f
          obtain ⟨u, hu⟩ : ∃ u, (x == -1) = u := ⟨_, rfl⟩
          have huu : (u != u) = false := by simp
          have hsame : sameB (rankF f) (rankF tw) = u := by
            rw [← hu, hxe, HA.out.2.2.2.2.2.2.2.2.1]
            by_cases e : rankF f = W
            · rw [e, lostOf_self]; simp [sameB]
            · have : lostOf W (rankF f) ≠ -1 := fun h => e (lostOf_no h)
              simp [sameB, e, this]
          have hlt2 : (k : Int) < (n : Int) + 1 := by omega
          have HY := Lib.hid (And.intro hf (And.intro hp (And.intro hx hsame)))
          obtain ⟨tc0, tc1, tc2, tc3, tc4⟩ := cells5' ht
          clear hf hp hx hxe hsame
          go_wp2_with fail
          go_region_held3 (fun W => FCells W (a7.add (k * 5)) f ∧ W.cell? (al.add k) = some (.int .i64 x) ∧ W.cell? ⟨t, 0, none⟩ = some (.bool tw.x) ∧ W.cell? ⟨t, 1, none⟩ = some (.int .i64 tw.i) ∧ W.cell? ⟨t, 2, none⟩ = some (.bool tw.r) ∧ W.cell? ⟨t, 3, none⟩ = some (.int .i64 tw.n) ∧ W.cell? ⟨t, 4, none⟩ = some (.slice tw.a tw.m tw.c))
            (exact ⟨FRow.at_ (B := _) (by repeat (first | assumption | exact Below.refl _ _ | ((with_reducible refine lit2 _ _ _ _ _ ?_); (first | (with_reducible rfl) | (simp; done))) | ((with_reducible refine lit1 _ _ _ _ ?_); (first | (with_reducible rfl) | (simp; done))) | refine frow_step (by first | assumption | exact below_alloc1 _ _ | exact below_drew1 _ | exact below_drewN0 _ _) ?_ | refine row_step (by first | assumption | exact below_alloc1 _ _ | exact below_drew1 _ | exact below_drewN0 _ _) ?_ | refine block_below (by first | assumption | exact below_alloc1 _ _ | exact below_drew1 _ | exact below_drewN0 _ _) ?_ | refine below_then ?_ (by first | assumption | exact below_alloc1 _ _ | exact below_drew1 _ | exact below_drewN0 _ _))) HY.out.1, Row.at_ (B := _) (by repeat (first | assumption | exact Below.refl _ _ | ((with_reducible refine lit2 _ _ _ _ _ ?_); (first | (with_reducible rfl) | (simp; done))) | ((with_reducible refine lit1 _ _ _ _ ?_); (first | (with_reducible rfl) | (simp; done))) | refine row_step (by first | assumption | exact below_alloc1 _ _ | exact below_drew1 _ | exact below_drewN0 _ _) ?_ | refine block_below (by first | assumption | exact below_alloc1 _ _ | exact below_drew1 _ | exact below_drewN0 _ _) ?_ | refine below_then ?_ (by first | assumption | exact below_alloc1 _ _ | exact below_drew1 _ | exact below_drewN0 _ _))) HY.out.2.2.1, cells5' (by repeat (first | assumption | exact Below.refl _ _ | ((with_reducible refine lit2 _ _ _ _ _ ?_); (first | (with_reducible rfl) | (simp; done))) | ((with_reducible refine lit1 _ _ _ _ ?_); (first | (with_reducible rfl) | (simp; done))) | refine row_step (by first | assumption | exact below_alloc1 _ _ | exact below_drew1 _ | exact below_drewN0 _ _) ?_ | refine block_below (by first | assumption | exact below_alloc1 _ _ | exact below_drew1 _ | exact below_drewN0 _ _) ?_ | refine below_then ?_ (by first | assumption | exact below_alloc1 _ _ | exact below_drew1 _ | exact below_drewN0 _ _)))⟩)
            (first
              | (go_at_call 16; refine (ints_q (rankF f) (rankF tw) p q HY.out.2.1 HA.out.2.2.2.2.2.2.2.2.2 A11 A12 c11 c12 _ (by repeat (first | assumption | exact Below.refl _ _ | ((with_reducible refine lit2 _ _ _ _ _ ?_); (first | (with_reducible rfl) | (simp; done))) | ((with_reducible refine lit1 _ _ _ _ ?_); (first | (with_reducible rfl) | (simp; done))) | refine row_step (by first | assumption | exact below_alloc1 _ _ | exact below_drew1 _ | exact below_drewN0 _ _) ?_ | refine block_below (by first | assumption | exact below_alloc1 _ _ | exact below_drew1 _ | exact below_drewN0 _ _) ?_ | refine below_then ?_ (by first | assumption | exact below_alloc1 _ _ | exact below_drew1 _ | exact below_drewN0 _ _))) (by repeat (first | assumption | exact Below.refl _ _ | ((with_reducible refine lit2 _ _ _ _ _ ?_); (first | (with_reducible rfl) | (simp; done))) | ((with_reducible refine lit1 _ _ _ _ ?_); (first | (with_reducible rfl) | (simp; done))) | refine row_step (by first | assumption | exact below_alloc1 _ _ | exact below_drew1 _ | exact below_drewN0 _ _) ?_ | refine block_below (by first | assumption | exact below_alloc1 _ _ | exact below_drew1 _ | exact below_drewN0 _ _) ?_ | refine below_then ?_ (by first | assumption | exact below_alloc1 _ _ | exact below_drew1 _ | exact below_drewN0 _ _))) (by unfold maxLen; omega) (by unfold maxLen; omega) u HY.out.2.2.2).mono ?_; rintro e w13 ⟨rfl, hB13⟩)
              | (go_at_call_of 24 (Value.agg #[.bool f.x, .int .i64 f.i, .bool f.r, .int .i64 f.n, .slice f.a f.m f.c]); refine (rank6_at f hfok p HY.out.2.1 _).mono ?_; rintro e w11 ⟨A11, c11, rfl, hr11, hc11, hB11⟩)
              | (go_at_call_of 24 (Value.agg #[.bool tw.x, .int .i64 tw.i, .bool tw.r, .int .i64 tw.n, .slice tw.a tw.m tw.c]); refine (rank6_at tw htwok q HA.out.2.2.2.2.2.2.2.2.2 _).mono ?_; rintro e w12 ⟨A12, c12, rfl, hr12, hc12, hB12⟩))
          all_goals
            have hBw : Below wr.heap.size wr w13 := by clear hB; repeat (first | assumption | exact Below.refl _ _ | ((with_reducible refine lit2 _ _ _ _ _ ?_); (first | (with_reducible rfl) | (simp; done))) | ((with_reducible refine lit1 _ _ _ _ ?_); (first | (with_reducible rfl) | (simp; done))) | refine row_step (by first | assumption | exact below_alloc1 _ _ | exact below_drew1 _ | exact below_drewN0 _ _) ?_ | refine block_below (by first | assumption | exact below_alloc1 _ _ | exact below_drew1 _ | exact below_drewN0 _ _) ?_ | refine below_then ?_ (by first | assumption | exact below_alloc1 _ _ | exact below_drew1 _ | exact below_drewN0 _ _))
            have HZ := Lib.hid (And.intro (hB.trans (hBw.mono hsz)) (And.intro (hr.to hBw) (And.intro (hl.to hBw) (block_below hBw ht))))
            clear hB hr hl ht hBw hB11 hB12 hB13 hr11 hr12 hf0 hf1 hf2 hf3 hf4 hxc tc0 tc1 tc2 tc3 tc4
            go_wp2_with fail
            exact ⟨⟨k + 1, by omega, by go_num, HZ.out.1, HZ.out.2.1, HZ.out.2.2.1, HZ.out.2.2.2⟩, by simp [intOf]; omega⟩
        · obtain rfl : k = n + 1 := by omega
          go_wp2
          go_ret
          exact ⟨rfl, hB⟩

end Go.Proofs.Ytfmlnfblfhmapaa
