/-
  The document's Win (layer 6).
-/
import Derived.Test.YtfmlnfblfhmapaaArbL
import Derived.Deep.RegionHeld3
namespace Go.Proofs.Ytfmlnfblfhmapaa
open Go.RowKit
set_option linter.unusedVariables false
set_option linter.unusedSimpArgs false

theorem frow_step {a b : World} {A : Option Addr} {fs : List FV} (k : Below a.heap.size a b) (h : FRow a a.heap.size A fs) : FRow b b.heap.size A fs := h.to k
/-- The cells of two frames of a row. -/
abbrev FCells (W : World) (a : Addr) (f : FV) : Prop := W.cell? a = some (.bool f.x) ∧ W.cell? ⟨a.block, a.off + 1, none⟩ = some (.int .i64 f.i) ∧ W.cell? ⟨a.block, a.off + 2, none⟩ = some (.bool f.r) ∧ W.cell? ⟨a.block, a.off + 3, none⟩ = some (.int .i64 f.n) ∧ W.cell? ⟨a.block, a.off + 4, none⟩ = some (.slice f.a f.m f.c)
theorem FRow.at_ {w : World} {B : Nat} {ad : Addr} {fs : List FV} (h : FRow w B (some ad) fs) {k : Nat} {f : FV} (hf : fs[k]? = some f) : FAt w (ad.add (k * 5)) f := by
  rcases h with rfl | ⟨ad', e, _, hc⟩
  · simp at hf
  · cases e
    exact hc k f hf

theorem less_of {f g : FV} (hf : FOk f) (hg : FOk g) (h : lessB (rankF f) (rankF g) = true) : lessR (rankF f) (rankF g) := by
  rcases rank_cmp hf hg with e | e | e
  · rw [e, lessB_self] at h; cases h
  · exact e
  · rw [lessB_no e] at h; cases h
/-- b is the first of the least of the first k. -/
def Best (fs : List FV) (k b : Nat) : Prop := ∃ g, fs[b]? = some g ∧ (∀ (j : Nat) (f : FV), j < k → fs[j]? = some f → lessB (rankF f) (rankF g) = false) ∧ (∀ (j : Nat) (f : FV), j < b → fs[j]? = some f → rankF f ≠ rankF g)
theorem Best.start {fs : List FV} {f : FV} (h : fs[0]? = some f) : Best fs 1 0 := by
  refine ⟨f, h, fun j f' hj hf => ?_, fun j f' hj => by omega⟩
  obtain rfl : j = 0 := by omega
  rw [h] at hf
  cases hf
  exact lessB_self _
theorem Best.turn {fs : List FV} {k b : Nat} (hok : ∀ f ∈ fs, FOk f) (h : Best fs k b) {f g : FV} (hf : fs[k]? = some f) (hg : fs[b]? = some g) (hl : lessB (rankF f) (rankF g) = true) : Best fs (k + 1) k := by
  obtain ⟨g', h1, h2, h3⟩ := h
  rw [hg] at h1
  cases h1
  have of := hok f (List.mem_of_getElem? hf)
  have og := hok g (List.mem_of_getElem? hg)
  refine ⟨f, hf, fun j f' hj hf' => ?_, fun j f' hj hf' e => ?_⟩
  · rcases Nat.lt_or_ge j k with hjk | hjk
    · cases e : lessB (rankF f') (rankF f) with
      | false => rfl
      | true =>
        have := less_trans (less_of (hok f' (List.mem_of_getElem? hf')) of e) (less_of of og hl)
        have h4 := h2 j f' hjk hf'
        rw [lessB_yes this] at h4
        cases h4
    · obtain rfl : j = k := by omega
      rw [hf] at hf'
      cases hf'
      exact lessB_self _
  · have h4 := h2 j f' hj hf'
    rw [e, hl] at h4
    cases h4
theorem Best.keep {fs : List FV} {k b : Nat} (h : Best fs k b) {f g : FV} (hf : fs[k]? = some f) (hg : fs[b]? = some g) (hl : lessB (rankF f) (rankF g) = false) : Best fs (k + 1) b := by
  obtain ⟨g', h1, h2, h3⟩ := h
  rw [hg] at h1
  cases h1
  refine ⟨g, hg, fun j f' hj hf' => ?_, h3⟩
  rcases Nat.lt_or_ge j k with hjk | hjk
  · exact h2 j f' hjk hf'
  · obtain rfl : j = k := by omega
    rw [hf] at hf'
    cases hf'
    exact hl
theorem Best.win {fs : List FV} {k b : Nat} (hok : ∀ f ∈ fs, FOk f) (h : Best fs k b) (hk : fs.length = k) {W : List Int} (hW : LeastE W (ranks fs)) : winOf W (ranks fs) = b := by
  obtain ⟨g, h1, h2, h3⟩ := h
  have hg := List.mem_of_getElem? h1
  have hL := least_of fs hok g hg (fun f hf => by
    obtain ⟨j, hj, e⟩ := List.getElem_of_mem hf
    exact h2 j f (by omega) (by rw [List.getElem?_eq_getElem hj, e]))
  have hgr : rankF g ∈ ranks fs := List.mem_map.2 ⟨g, hg, rfl⟩
  have e := hW.uniq hL (hW.ne (by intro e; rw [e] at hgr; cases hgr)) hgr
  subst e
  refine winOf_at (by rw [ranks, List.getElem?_map, h1]; rfl) fun j hj e => ?_
  rw [ranks, List.getElem?_map, Option.map_eq_some_iff] at e
  obtain ⟨f, hf, e⟩ := e
  exact h3 j f hj hf e

/-- Who wins, of some right frames. -/
theorem winner {gs : List FV} {W : List Int} (hW : LeastE W (ranks gs)) (h0 : 0 < gs.length) : ∃ (i : Nat) (f : FV), i < gs.length ∧ gs[i]? = some f ∧ rankF f = W ∧ winOf W (ranks gs) = i ∧ ∀ (j : Nat) (g : FV), j < i → gs[j]? = some g → rankF g ≠ W := by
  obtain ⟨i, h1, h2, h3, h4⟩ := winOf_spec hW (by intro e; have := congrArg List.length e; simp [ranks] at this; subst this; simp at h0)
  simp only [ranks, List.length_map] at h1
  rw [ranks, List.getElem?_map, Option.map_eq_some_iff] at h2
  obtain ⟨f, h5, h6⟩ := h2
  refine ⟨i, f, h1, h5, h6, h4, fun j g hj hg e => h3 j hj ?_⟩
  rw [ranks, List.getElem?_map, hg]
  simp [e]
theorem ahead_no {gs : List FV} {W : List Int} (hW : LeastE W (ranks gs)) {g : FV} (hg : g ∈ gs) : lessB (rankF g) W = false := by
  rcases hW.all _ (List.mem_map.2 ⟨g, hg, rfl⟩) with e | e
  · rw [e]; exact lessB_self _
  · exact lessB_no e

/-- What is best so far, as the loop has it. -/
def BestV (fs : List FV) (k : Nat) (z : Int) : Prop := (k = 0 ∧ z = -1) ∨ ∃ b : Nat, z = b ∧ b < k ∧ Best fs k b

set_option maxRecDepth 100000 in
set_option maxHeartbeats 4000000 in
theorem refWin_any (fs : List FV) (n : Nat) (hn : fs.length = n) (A : Option Addr) (c : Nat) (w : World) (h : FRow w w.heap.size A fs) (hok : ∀ f ∈ fs, FOk f) (hm : n ≤ 100) (W : List Int) (hW : LeastE W (ranks fs)) (z : Int) (hz : winOf W (ranks fs) = z) :
    Calls Try.prog 15 #[.slice A n c] w fun e w' => e = .returned (.int .i64 z) ∧ Below w.heap.size w w' := by
  have HW := Lib.hid (And.intro hW (And.intro hz (And.intro hn hok)))
  clear hW hz hn hok
  go_enter Try.func15, Try.ntmps15
  go_wp2_with fail
  go_loopw [3, 4] (fun be i wr => ∃ (k : Nat) (y : Int), k ≤ n ∧ i = .int .i64 k ∧ be = .int .i64 y ∧ BestV fs k y ∧ Below w.heap.size w wr)
    (fun _ i _ => n - (intOf i).toNat)
  case atStart => exact ⟨0, -1, Nat.zero_le _, rfl, rfl, .inl ⟨rfl, rfl⟩, Below.refl _ _⟩
  case round =>
    obtain ⟨k, y, hk, rfl, rfl, hb, hB⟩ := hrel
    have hsz := hB.size
    by_cases hlt : k < n
    · have hr := h.to hB
      obtain ⟨ad, f, rfl, hf, hf0, hf1, hf2, hf3, hf4⟩ := hr.get_ (k := k) (by rw [HW.out.2.2.1]; exact hlt)
      rcases hb with ⟨rfl, rfl⟩ | ⟨b, rfl, hbk, hb⟩
      · have HS := Lib.hid (Best.start hf)
        clear hf
        go_wp2_with fail
        first
          | (go_quiet (fail))
          | fail
        go_wp2_with fail
        exact ⟨⟨0 + 1, 0, by omega, by go_num, rfl, .inr ⟨0, rfl, by omega, HS.out⟩, below_drewN' hB _⟩, by simp [intOf]; omega⟩
      · obtain ⟨g, hg⟩ : ∃ g, fs[b]? = some g := ⟨_, List.getElem?_eq_getElem (by rw [HW.out.2.2.1]; omega)⟩
        obtain ⟨hg0, hg1, hg2, hg3, hg4⟩ := hr.at_ hg
        have hfok := HW.out.2.2.2 f (List.mem_of_getElem? hf)
        have hgok := HW.out.2.2.2 g (List.mem_of_getElem? hg)
        obtain ⟨p, hp⟩ : ∃ p, (rankF f).length = p := ⟨_, rfl⟩
        obtain ⟨q, hq⟩ : ∃ q, (rankF g).length = q := ⟨_, rfl⟩
        have hp32 : p ≤ 32 := by rw [← hp]; exact rankF_le f
        have hq32 : q ≤ 32 := by rw [← hq]; exact rankF_le g
        obtain ⟨t, ht⟩ : ∃ t, lessB (rankF f) (rankF g) = t := ⟨_, rfl⟩
        have hd : decide ((b : Int) < 0) = false := by simp
        have hbn : b < n := by omega
        have HX := Lib.hid (And.intro hf (And.intro hg (And.intro hp (And.intro hq (And.intro ht hb)))))
        clear hf hg hp hq ht hb
        go_wp2_with fail
        go_region_held3 (fun W => FCells W (ad.add (k * 5)) f ∧ FCells W (ad.add (b * 5)) g)
          (exact ⟨FRow.at_ (B := _) (by repeat (first | assumption | exact Below.refl _ _ | ((with_reducible refine lit2 _ _ _ _ _ ?_); (first | (with_reducible rfl) | (simp; done))) | ((with_reducible refine lit1 _ _ _ _ ?_); (first | (with_reducible rfl) | (simp; done))) | refine frow_step (by first | assumption | exact below_alloc1 _ _ | exact below_drew1 _ | exact below_drewN0 _ _) ?_ | refine row_step (by first | assumption | exact below_alloc1 _ _ | exact below_drew1 _ | exact below_drewN0 _ _) ?_ | refine block_below (by first | assumption | exact below_alloc1 _ _ | exact below_drew1 _ | exact below_drewN0 _ _) ?_ | refine below_then ?_ (by first | assumption | exact below_alloc1 _ _ | exact below_drew1 _ | exact below_drewN0 _ _))) HX.out.1, FRow.at_ (B := _) (by repeat (first | assumption | exact Below.refl _ _ | ((with_reducible refine lit2 _ _ _ _ _ ?_); (first | (with_reducible rfl) | (simp; done))) | ((with_reducible refine lit1 _ _ _ _ ?_); (first | (with_reducible rfl) | (simp; done))) | refine frow_step (by first | assumption | exact below_alloc1 _ _ | exact below_drew1 _ | exact below_drewN0 _ _) ?_ | refine row_step (by first | assumption | exact below_alloc1 _ _ | exact below_drew1 _ | exact below_drewN0 _ _) ?_ | refine block_below (by first | assumption | exact below_alloc1 _ _ | exact below_drew1 _ | exact below_drewN0 _ _) ?_ | refine below_then ?_ (by first | assumption | exact below_alloc1 _ _ | exact below_drew1 _ | exact below_drewN0 _ _))) HX.out.2.1⟩)
          (first
            | (go_at_call 23; refine (lessGo_any (rankF f) (rankF g) p q HX.out.2.2.1 HX.out.2.2.2.1 A5 A6 c5 c6 _ (by repeat (first | assumption | exact Below.refl _ _ | ((with_reducible refine lit2 _ _ _ _ _ ?_); (first | (with_reducible rfl) | (simp; done))) | ((with_reducible refine lit1 _ _ _ _ ?_); (first | (with_reducible rfl) | (simp; done))) | refine row_step (by first | assumption | exact below_alloc1 _ _ | exact below_drew1 _ | exact below_drewN0 _ _) ?_ | refine block_below (by first | assumption | exact below_alloc1 _ _ | exact below_drew1 _ | exact below_drewN0 _ _) ?_ | refine below_then ?_ (by first | assumption | exact below_alloc1 _ _ | exact below_drew1 _ | exact below_drewN0 _ _))) (by repeat (first | assumption | exact Below.refl _ _ | ((with_reducible refine lit2 _ _ _ _ _ ?_); (first | (with_reducible rfl) | (simp; done))) | ((with_reducible refine lit1 _ _ _ _ ?_); (first | (with_reducible rfl) | (simp; done))) | refine row_step (by first | assumption | exact below_alloc1 _ _ | exact below_drew1 _ | exact below_drewN0 _ _) ?_ | refine block_below (by first | assumption | exact below_alloc1 _ _ | exact below_drew1 _ | exact below_drewN0 _ _) ?_ | refine below_then ?_ (by first | assumption | exact below_alloc1 _ _ | exact below_drew1 _ | exact below_drewN0 _ _))) (by omega) (by omega) t HX.out.2.2.2.2.1).mono ?_; rintro e w7 ⟨rfl, hB7⟩)
            | (go_at_call_of 24 (Value.agg #[.bool f.x, .int .i64 f.i, .bool f.r, .int .i64 f.n, .slice f.a f.m f.c]); refine (rank6_at f hfok p HX.out.2.2.1 _).mono ?_; rintro e w5 ⟨A5, c5, rfl, hr5, hc5, hB5⟩)
            | (go_at_call_of 24 (Value.agg #[.bool g.x, .int .i64 g.i, .bool g.r, .int .i64 g.n, .slice g.a g.m g.c]); refine (rank6_at g hgok q HX.out.2.2.2.1 _).mono ?_; rintro e w6 ⟨A6, c6, rfl, hr6, hc6, hB6⟩))
        all_goals
          have hBB : Below w.heap.size w w7 := hB.trans (Below.mono (B := wr.heap.size) (by clear hB; repeat (first | assumption | exact Below.refl _ _ | ((with_reducible refine lit2 _ _ _ _ _ ?_); (first | (with_reducible rfl) | (simp; done))) | ((with_reducible refine lit1 _ _ _ _ ?_); (first | (with_reducible rfl) | (simp; done))) | refine row_step (by first | assumption | exact below_alloc1 _ _ | exact below_drew1 _ | exact below_drewN0 _ _) ?_ | refine block_below (by first | assumption | exact below_alloc1 _ _ | exact below_drew1 _ | exact below_drewN0 _ _) ?_ | refine below_then ?_ (by first | assumption | exact below_alloc1 _ _ | exact below_drew1 _ | exact below_drewN0 _ _))) hsz)
          cases t
          · go_wp2_with fail
            exact ⟨⟨k + 1, b, by omega, by go_num, rfl, .inr ⟨b, rfl, by omega, HX.out.2.2.2.2.2.keep HX.out.1 HX.out.2.1 HX.out.2.2.2.2.1⟩, hBB⟩, by simp [intOf]; omega⟩
          · go_wp2_with fail
            exact ⟨⟨k + 1, k, by omega, by go_num, rfl, .inr ⟨k, rfl, by omega, HX.out.2.2.2.2.2.turn HW.out.2.2.2 HX.out.1 HX.out.2.1 HX.out.2.2.2.2.1⟩, hBB⟩, by simp [intOf]; omega⟩
    · obtain rfl : k = n := by omega
      have e : y = z := by
        rcases hb with ⟨rfl, rfl⟩ | ⟨b, rfl, hbk, hb⟩
        · obtain rfl : fs = [] := List.eq_nil_of_length_eq_zero HW.out.2.2.1
          rw [← HW.out.2.1]; rfl
        · rw [← HW.out.2.1, hb.win HW.out.2.2.2 HW.out.2.2.1 HW.out.1]
      subst e
      clear hb
      go_wp2
      go_ret
      exact ⟨rfl, hB⟩

end Go.Proofs.Ytfmlnfblfhmapaa
