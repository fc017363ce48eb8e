/-
  ArbAnd.
-/
import Derived.Test.YtfmlnfblfhmapaaHead6
import Derived.Test.YtfmlnfblfhmapaaTwo
namespace Go.Proofs.Ytfmlnfblfhmapaa
open Go.RowKit
set_option linter.unusedVariables false
set_option linter.unusedSimpArgs false

theorem and_01 (l : List Int) : andL l = 0 ∨ andL l = 1 := by unfold andL; split <;> simp
theorem and_rev (l : List Int) : andL l.reverse = andL l := by simp [andL]
theorem and_more (l : List Int) (y : Int) (hy : y = 0 ∨ y = 1) : andL (l ++ [y]) = min (andL l) y := by
  unfold andL
  rcases hy with rfl | rfl
  · simp; split <;> omega
  · by_cases h : (0 : Int) ∈ l <;> simp [h] <;> omega
theorem and_le {l : List Int} (hr : rightB l = true) {k : Nat} {v : Int} (hv : l[k]? = some v) : andL l ≤ v := by
  unfold andL
  rcases rightB_at hr hv with rfl | rfl
  · rw [if_pos (List.mem_of_getElem? hv)]; omega
  · split <;> omega
theorem drop_rev {l : List Int} {k : Nat} {v : Int} (hv : l[k]? = some v) : (l.drop k).reverse = (l.drop (k + 1)).reverse ++ [v] := by
  have hk := (List.getElem?_eq_some_iff.1 hv).1
  rw [List.drop_eq_getElem_cons hk, List.reverse_cons]
  have : l[k] = v := (List.getElem?_eq_some_iff.1 hv).2
  rw [this]

set_option maxRecDepth 100000 in
set_option maxHeartbeats 4000000 in
theorem arbAnd_any (l : List Int) (n : Nat) (hn : l.length = n) (A : Option Addr) (c : Nat) (b : Int) (w : World) (h : Row .i64 w w.heap.size A l) (hm : n ≤ maxLen) :
    Calls Try.prog 10 #[.slice A n c, .int .i64 b] w fun e w' => e = .returned (.bool true) ∧ Below w.heap.size w w' := by
  subst hn
  obtain ⟨i0, hi, hz0, hz1, hz2⟩ := info_parts Try.infoInt
  obtain ⟨y, hy⟩ : ∃ y, bits .and .i64 b 1 = y := ⟨_, rfl⟩
  have hy01 : y = 0 ∨ y = 1 := by rw [← hy]; exact low_01 b
  have HY := Lib.hid hy01
  clear hy01
  go_enter Try.func10, Try.ntmps10
  go_wp2_with fail
  refine (head6_any w).mono ?_
  rintro e w1 ⟨rfl, hB1⟩
  have h1 := h.to hB1
  clear h
  go_wp2_with fail
  refine (refBits_any 50 (by omega) l A c w1 h1 hm).mono ?_
  rintro e w2 ⟨A2, c2, m, rfl, hlm, hc2, hown2, hB2⟩
  have hr2 := Row.own hown2
  have hm50 : m ≤ 50 := by rw [← hlm]; simp [lowM]; omega
  obtain ⟨ls, hls⟩ : ∃ ls, lowM 50 l = ls := ⟨_, rfl⟩
  have hright : rightB ls = true := by rw [← hls]; exact lowM_right 50 l
  rw [hls] at hr2 hlm hown2
  have HL := Lib.hid (And.intro hlm hright)
  have hT2 := below_then hB1 hB2
  clear hls hright hown2 h1 hB1 hB2 hlm
  go_wp2_with (first
    | (have hq_ := hown3; clear hq_; at_builtin; refine wpList_append_two _ .i64 rfl _ _ 23 rfl w2.heap.size 3 i0 (.int .i64 0) 8 Try.underlying23 hi hz0 hz1 hz2 rfl _ m ls rfl ((hown3.alloc _).alloc _) ⟨w3.heap.size + 1, 0, none⟩ 1 1 _ [y] rfl rfl hlit (by unfold maxLen; omega) (by omega) (by simp; omega) (.slice (some ⟨w3.heap.size, 0, none⟩) 0 0) 0 (([] : List Int).map (Value.int .i64)) ((own_empty .i64 w3 _ _ _ rfl hs3).alloc _) hTT ?_; intro A4 c4 w4 hown4 hB4 htn4 hTT4)
    | (at_builtin; refine wpList_append_row _ .i64 rfl _ _ 23 rfl w2.heap.size 3 i0 (.int .i64 0) 8 Try.underlying23 hi hz0 hz1 hz2 rfl _ 0 [] rfl (own_empty .i64 _ _ _ _ rfl (Nat.le_refl _)) A2 m c2 w2.heap.size ls rfl HL.out.1 (hr2.below (below_alloc1 _ _)) (by unfold maxLen; omega) (by omega) (by simp) ?_; intro A3 c3 w3 hown3 hc3 hB3; simp only [Nat.zero_add, List.nil_append] at hown3 hc3; have hs3 : w2.heap.size ≤ w3.heap.size := (by have := hB3.size; simp at this; omega); have hTT : TwoRows (.slice A3 m c3) (.slice (some ⟨w3.heap.size, 0, none⟩) 0 0) := (by intro g e1 e2; have := (hown3.lt g e1).2; simp [Value.ownBlock] at e2; omega); have hlit : Row .i64 ((w3.alloc (.cells #[] 3)).alloc (.cells #[.int .i64 y] 3)) (w3.heap.size + 1 + 1) (some ⟨w3.heap.size + 1, 0, none⟩) [y] := (by have := Row.lit (w3.alloc (.cells #[] 3)) .i64 [y] 3 (cs := #[.int .i64 y]) rfl; simpa using this)))
  have hB24 : Below w2.heap.size w2 w4 := (((Below.refl _ w2).alloc (Nat.le_refl _) _).trans hB3).trans ((((Below.refl _ w3).alloc hs3 _).alloc (by simp; omega) _).trans hB4)
  clear hown3 hTT hlit hB3 hB4 hs3 hc3
  go_loopw [7, 8] (fun t i wr => ∃ (k r : Nat) (z : Int) (A' : Option Addr) (c' : Nat), k + r = m ∧ i = .int .i64 z ∧ z = (k : Int) - 1 ∧ t = .slice A' r c' ∧ wr.ownsRow w2.heap.size 3 1 (.slice A' r c') r ((ls.drop k).reverse.map (Value.int .i64)) ∧ wr.ownsRow w2.heap.size 3 1 (.slice A4 (m + 1) c4) (m + 1) ((ls ++ [y]).map (Value.int .i64)) ∧ TwoRows (.slice A' r c') (.slice A4 (m + 1) c4) ∧ Below w2.heap.size w2 wr)
    (fun _ i _ => (intOf i + 1).toNat)
  case atStart =>
    refine ⟨m, 0, (m : Int) - 1, _, 0, by omega, rfl, rfl, rfl, ?_, hown4, hTT4.symm, hB24⟩
    rw [List.drop_eq_nil_of_le (Nat.le_of_eq HL.out.1)]
    exact htn4
  case round =>
    clear hown4 htn4 hTT4 hB24
    obtain ⟨k, r, z, A', c', hkr, rfl, hz, rfl, hown, hmore, hT, hB⟩ := hrel
    have hsz := hB.size
    rcases k with _ | k
    · obtain rfl : z = -1 := by simpa using hz
      obtain rfl : r = m := by omega
      have hrt := Row.own hown
      have hrm := Row.own hmore
      rw [List.drop_zero] at hrt
      have hr3 := hr2.below hB
      obtain ⟨x, hx⟩ : ∃ x, andL ls = x := ⟨_, rfl⟩
      obtain ⟨z2, hz2'⟩ : ∃ z, min x y = z := ⟨_, rfl⟩
      have hx01 := and_01 ls
      have hxt : andL ls.reverse = x := by rw [and_rev, hx]
      have hxm : andL (ls ++ [y]) = z2 := by rw [and_more ls y HY.out, hx, hz2']
      have hxle : ∀ (k : Nat) v, ls[k]? = some v → x ≤ v := fun k v hv => by rw [← hx]; exact and_le HL.out.2 hv
      rw [hx] at hx01
      have hT3 : Below w.heap.size w wr := hT2.trans (hB.mono hT2.size)
      have HX := Lib.hid (And.intro hx (And.intro hxt (And.intro hxm (And.intro hx01 hxle))))
      clear hx hxt hxm hx01 hxle hown hmore hT hB hr2 hT2 hkr hz
      go_wp2_with fail
      refine (and_any ls r HL.out.1 A2 c2 _ wr hr3 (by unfold maxLen; omega) x HX.out.1).mono ?_
      rintro e w' ⟨rfl, rfl⟩
      go_wp2_with fail
      go_loop [10] (fun i => ∃ k : Nat, k ≤ r ∧ i = .int .i64 k) (fun i => r - (intOf i).toNat)
      case atStart => exact ⟨0, Nat.zero_le _, rfl⟩
      case round =>
        obtain ⟨k, hk, rfl⟩ := hrel
        by_cases hlt : k < r
        · obtain ⟨ad, v, rfl, hv, hcell⟩ := hr3.get_ (k := k) (by rw [HL.out.1]; exact hlt)
          have hxv := HX.out.2.2.2.2 k v hv
          have hd : decide (v < x) = false := by simp; omega
          clear hv hxv
          go_wp2
          go_round
          case measure => simp [intOf]; omega
          exact ⟨k + 1, by omega, by go_num⟩
        · obtain rfl : k = r := by omega
          have hl2 : (ls ++ [y]).length = k + 1 := by rw [List.length_append, HL.out.1]; rfl
          have hlr : ls.reverse.length = k := by rw [List.length_reverse, HL.out.1]
          have HLL := Lib.hid (And.intro hl2 hlr)
          clear hl2 hlr
          have hk1 : k + 1 ≤ 51 := by omega
          rcases HX.out.2.2.2.1 with e0 | e0
          · have d0 : (x == 0) = true := by simp [e0]
            clear e0
            go_wp2_with (first
              | (have hq_ := hT5; clear hq_; go_at_call 21; refine (and_any (ls ++ [y]) (k + 1) HLL.out.1 A4 c4 _ wr hrm (by unfold maxLen; omega) z2 HX.out.2.2.1).mono ?_; rintro e w' ⟨rfl, rfl⟩)
              | (go_at_call 21; refine (and_any ls.reverse k HLL.out.2 A' c' _ wr hrt (by unfold maxLen; omega) x HX.out.2.1).mono ?_; rintro e w' ⟨rfl, rfl⟩; have hT5 := hk1))
            go_ret
            exact ⟨rfl, hT3⟩
          · have d0 : (x == 0) = false := by simp [e0]
            have d1 : (x == 1) = true := by simp [e0]
            clear e0
            go_wp2_with (first
              | (have hq_ := hT5; clear hq_; go_at_call 21; refine (and_any (ls ++ [y]) (k + 1) HLL.out.1 A4 c4 _ wr hrm (by unfold maxLen; omega) z2 HX.out.2.2.1).mono ?_; rintro e w' ⟨rfl, rfl⟩)
              | (go_at_call 21; refine (and_any ls.reverse k HLL.out.2 A' c' _ wr hrt (by unfold maxLen; omega) x HX.out.2.1).mono ?_; rintro e w' ⟨rfl, rfl⟩; have hT5 := hk1))
            go_ret
            exact ⟨rfl, hT3⟩
    · obtain rfl : z = (k : Int) := by rw [hz]; omega
      obtain ⟨ad, v, rfl, hv, hcell⟩ := (hr2.below hB).get_ (k := k) (by rw [HL.out.1]; omega)
      have HV := Lib.hid (drop_rev hv)
      have hkm : k < m := by omega
      have hlit : Row .i64 (wr.alloc (.cells #[.int .i64 v] 3)) (wr.heap.size + 1) (some ⟨wr.heap.size, 0, none⟩) [v] := Row.lit wr .i64 [v] 3 rfl
      clear hz hv
      go_wp2_with (at_builtin; refine wpList_append_two _ .i64 rfl _ _ 23 rfl w2.heap.size 3 i0 (.int .i64 0) 8 Try.underlying23 hi hz0 hz1 hz2 rfl _ r (ls.drop (k + 1)).reverse rfl (hown.alloc _) ⟨wr.heap.size, 0, none⟩ 1 1 _ [v] rfl rfl hlit (by unfold maxLen; omega) (by omega) (by simp; omega) (.slice A4 (m + 1) c4) (m + 1) ((ls ++ [y]).map (Value.int .i64)) (hmore.alloc _) hT ?_; intro A5 c5 w5 hown5 hB5 hmore5 hT5)
      refine ⟨⟨k, r + 1, _, A5, c5, by omega, rfl, by omega, rfl, ?_, hmore5, hT5, (hB.alloc hsz _).trans hB5⟩, by simp [intOf]⟩
      rw [HV.out]
      exact hown5

end Go.Proofs.Ytfmlnfblfhmapaa
