/-
  The document's 'bare' and 'last' of layer 5, walked. (Written by wip/tools/mk_bare.py.)
-/
import Derived.Test.YtmapkjjglhpamaaWBare
import Derived.OwnWalk
namespace Go.Proofs.Ytmapkjjglhpamaa
open Go.RowKit

theorem bef_next {l : List Int} {many : Nat} {en : Bool} {k : Nat} (h : ∀ j, j < k → need l many en j) (hk : need l many en k) : ∀ j, j < k + 1 → need l many en j := fun j hj => by
  by_cases e : j < k
  · exact h j e
  · obtain rfl : j = k := by omega
    exact hk

set_option maxRecDepth 100000 in
set_option maxHeartbeats 4000000 in
theorem bare_any (l : List Int) (A : Option Addr) (c : Nat) (many : Nat) (en : Bool) (w : World) (h : Row .i64 w w.heap.size A l) (hm : l.length ≤ 10000) (hmany : many ≤ 10000) :
    Calls Try.prog 46 #[.slice A l.length c, .int .i64 many, .bool en] w fun e w' => ∃ k m A' c' v, e = .returned (.tuple #[.slice A' m c', .int .i64 (k : Nat), .int .i64 v]) ∧ (pl l k).length = m ∧ m ≤ c' ∧ Bare l many en k v ∧ Row .i64 w' w'.heap.size A' (pl l k) ∧ Below w.heap.size w w' := by
  obtain ⟨i0, hi, hz0, hz1, hz2⟩ := info_parts Try.infoInt
  go_enter Try.func46, Try.ntmps46
  go_wp2_with fail
  go_loopw [9, 10, 11] (fun o rn i wr => ∃ (k m : Nat) (A' : Option Addr) (c' q : Nat), k ≤ l.length ∧ i = .int .i64 k ∧ (pl l k).length = m ∧ m ≤ c' ∧ o = .slice A' m c' ∧ rn = .int .i64 q ∧ (runOf (l.take k)).2 = q ∧ okTo l k ∧ (∀ j, j < k → need l many en j) ∧
      wr.ownsRow w.heap.size 3 1 (.slice A' m c') m ((pl l k).map (Value.int .i64)) ∧ Below w.heap.size w wr)
    (fun _ _ i _ => l.length - (intOf i).toNat)
  case atStart => exact ⟨0, 0, none, 0, 0, Nat.zero_le _, rfl, rfl, Nat.le_refl _, rfl, rfl, rfl, (fun j hj => by omega), (fun j hj => by omega), World.ownsRow_nil _ _ _ _, Below.refl _ _⟩
  case round =>
    obtain ⟨k, m, A', c', q, hk, rfl, hml, hmc, rfl, rfl, hq, hok, hbef, hown, hB⟩ := hrel
    have hsz := hB.size
    have hq5 := hok.run hk
    have hmk := pl_len l k
    rw [hq] at hq5
    rw [hml] at hmk
    obtain ⟨u, hu⟩ : ∃ u, pl l k = u := ⟨_, rfl⟩
    rw [hu] at hown
    have Hml := Lib.hid hml
    have Hq := Lib.hid hq
    have Hok := Lib.hid hok
    have Hbef := Lib.hid hbef
    have HU := Lib.hid hu
    clear hml hq hok hbef hu
    by_cases h1 : m < many
    · have d1 : decide ((m : Int) < (many : Int)) = true := by simp; omega
      have Hnd := Lib.hid (show need l many en k from .inl (by rw [Hml.out]; exact h1))
      by_cases hlt : k < l.length
      rotate_left
      · obtain rfl : k = l.length := by omega
        clear hlt
        go_wp2_with fail
        go_ret3
        exact ⟨_, _, _, _, _, rfl, Hml.out, hmc, ⟨hk, Hok.out, Hbef.out, .inr (.inl ⟨rfl, rfl, Hnd.out⟩)⟩, by rw [HU.out]; exact Row.own hown, hB⟩
      obtain ⟨ad, x, rfl, hx, hc⟩ := (h.below hB).get_ hlt
      have hxd : l.getD k 0 = x := by simp [List.getD, hx]
      have hkl : ((k : Int) == (l.length : Int)) = false := by simp; omega
      have hkl2 : (k == l.length) = false := by simp; omega
      have hkl3 : (k : Int) < (l.length : Int) := by omega
      have Hxd := Lib.hid hxd
      clear hx hxd
      by_cases h5 : q = 5
      · skip
        obtain rfl : q = 5 := by omega
        have hf := Lib.hid ((Hok.out.five hk).2 Hq.out)
        have hk1 : 1 ≤ k := by have := runOf_le (l.take k); rw [Hq.out] at this; simp at this; omega
        obtain ⟨p, rfl⟩ : ∃ p, k = p + 1 := ⟨k - 1, by omega⟩
        obtain ⟨y, hy⟩ : ∃ y, l[p]? = some y := ⟨_, List.getElem?_eq_getElem (by omega)⟩
        have hc3 := (h.below hB).at_ hy
        have hy1 : (runOf (l.take (p + 1))).1 = y := by rw [take_snoc hy, runOf_snoc, tick_fst]
        have Hy1 := Lib.hid hy1
        simp [Addr.add] at hc
        have c1 : (0 : Int) < (p : Int) + 1 := by omega
        have c2' : (p : Int) + 1 - 1 = (p : Int) := by omega
        have c5 : (p : Int) < (l.length : Int) := by omega
        have c6 : (p : Int) + 1 < (l.length : Int) := by omega
        clear hy hy1
        by_cases hxy : x = y
        · subst hxy
          go_wp2_with fail
          go_ret3
          exact ⟨_, _, _, _, _, rfl, Hml.out, hmc, ⟨hk, Hok.out, Hbef.out, .inr (.inr ⟨rfl, by omega, Hnd.out, hf.out, by rw [Hxd.out, Hy1.out]⟩)⟩, by rw [HU.out]; exact Row.own hown, hB⟩
        have dxy : (x == y) = false := by simp [hxy]
        have hok' := Lib.hid (show okTo l (p + 1 + 1) from fun j hj => by
          by_cases e : j < p + 1
          · exact Hok.out j e
          · obtain rfl : j = p + 1 := by omega
            exact fun e2 => hxy (by rw [← Hxd.out, ← Hy1.out]; exact e2.2))
        have hq' := Lib.hid (show (runOf (l.take (p + 1 + 1))).2 = 1 by rw [take_next (by omega), runOf_snoc, Hxd.out, tick_other (by rw [Hy1.out]; exact hxy)])
        go_wp2_with fail
        refine ⟨⟨p + 1 + 1, m, A', c', 1, by omega, by go_num, by rw [pl_five hf.out]; exact Hml.out, hmc, rfl, by go_num, hq'.out, hok'.out, bef_next Hbef.out Hnd.out, by rw [pl_five hf.out, HU.out]; exact hown, hB⟩, by simp [intOf]; omega⟩
      have d5 : ((q : Int) == 5) = false := by simp; omega
      have d5' : (q == 5) = false := by simp; omega
      have hnf := Lib.hid (show ¬ fiveB (l.take k) = true from fun e => h5 (by rw [← Hq.out]; exact (Hok.out.five hk).1 e))
      by_cases h0 : k = 0
      · subst h0
        obtain rfl : q = 0 := by rw [← Hq.out]; rfl
        simp [Addr.add] at hc
        have z1 : ((0 : Int) == (l.length : Int)) = false := by simp; omega
        have z2 : (0 : Int) < (l.length : Int) := by omega
        clear hkl hkl2 hkl3 d5 d5' h5
        have hq' := Lib.hid (show (runOf (l.take (0 + 1))).2 = 1 by rw [take_next (by omega), runOf_snoc, Hxd.out]; show (tick (0, 0) x).2 = 1; unfold tick; split <;> simp)
        have hok' := Lib.hid (show okTo l (0 + 1) from fun j hj => by
          by_cases e : j < 0
          · exact Hok.out j e
          · obtain rfl : j = 0 := by omega
            exact fun e2 => hnf.out e2.1)
        have hp' := Lib.hid (show pl l (0 + 1) = u ++ [x] by rw [pl_more hnf.out, HU.out, Hxd.out])
        have hl' := Lib.hid (show (pl l (0 + 1)).length = m + 1 by rw [hp'.out, List.length_append, ← HU.out, Hml.out]; rfl)
        go_wp2_with (at_builtin; refine wpList_append_row _ .i64 rfl _ _ 25 rfl w.heap.size 3 i0 (.int .i64 0) 8 Try.underlying25 hi hz0 hz1 hz2 rfl _ m u rfl (hown.alloc _) (some ⟨wr.heap.size, 0, none⟩) 1 1 _ [x] rfl rfl (Row.lit wr .i64 [x] 3 rfl) (by unfold maxLen; omega) (by omega) (by simp; omega) ?_; intro A2 c2 w2 hown2 hc2 hB2)
        refine ⟨⟨0 + 1, m + 1, A2, c2, 1, by omega, by go_num, hl'.out, hc2, rfl, by go_num, hq'.out, hok'.out, bef_next Hbef.out Hnd.out, by rw [hp'.out]; exact hown2, (hB.alloc hsz _).trans hB2⟩, by simp [intOf]; omega⟩
      obtain ⟨p, rfl⟩ : ∃ p, k = p + 1 := ⟨k - 1, by omega⟩
      obtain ⟨y, hy⟩ : ∃ y, l[p]? = some y := ⟨_, List.getElem?_eq_getElem (by omega)⟩
      have hc3 := (h.below hB).at_ hy
      have hy1 : (runOf (l.take (p + 1))).1 = y := by rw [take_snoc hy, runOf_snoc, tick_fst]
      have Hy1 := Lib.hid hy1
      simp [Addr.add] at hc
      have c1 : (0 : Int) < (p : Int) + 1 := by omega
      have c2' : (p : Int) + 1 - 1 = (p : Int) := by omega
      have c5 : (p : Int) < (l.length : Int) := by omega
      have c6 : (p : Int) + 1 < (l.length : Int) := by omega
      clear hy hy1
      by_cases hxy : x = y
      · subst hxy
        clear h5
        have hq' := Lib.hid (show (runOf (l.take (p + 1 + 1))).2 = (q + 1) by rw [take_next (by omega), runOf_snoc, Hxd.out]; rw [← Hy1.out, tick_same]; exact congrArg (· + 1) Hq.out)
        have hok' := Lib.hid (show okTo l (p + 1 + 1) from fun j hj => by
          by_cases e : j < p + 1
          · exact Hok.out j e
          · obtain rfl : j = p + 1 := by omega
            exact fun e2 => hnf.out e2.1)
        have hp' := Lib.hid (show pl l (p + 1 + 1) = u ++ [x] by rw [pl_more hnf.out, HU.out, Hxd.out])
        have hl' := Lib.hid (show (pl l (p + 1 + 1)).length = m + 1 by rw [hp'.out, List.length_append, ← HU.out, Hml.out]; rfl)
        go_wp2_with (at_builtin; refine wpList_append_row _ .i64 rfl _ _ 25 rfl w.heap.size 3 i0 (.int .i64 0) 8 Try.underlying25 hi hz0 hz1 hz2 rfl _ m u rfl (hown.alloc _) (some ⟨wr.heap.size, 0, none⟩) 1 1 _ [x] rfl rfl (Row.lit wr .i64 [x] 3 rfl) (by unfold maxLen; omega) (by omega) (by simp; omega) ?_; intro A2 c2 w2 hown2 hc2 hB2)
        refine ⟨⟨p + 1 + 1, m + 1, A2, c2, (q + 1), by omega, by go_num, hl'.out, hc2, rfl, by go_num, hq'.out, hok'.out, bef_next Hbef.out Hnd.out, by rw [hp'.out]; exact hown2, (hB.alloc hsz _).trans hB2⟩, by simp [intOf]; omega⟩
      have dxy : (y == x) = false := by simp; exact fun e => hxy e.symm
      have hq' := Lib.hid (show (runOf (l.take (p + 1 + 1))).2 = 1 by rw [take_next (by omega), runOf_snoc, Hxd.out]; rw [tick_other (by rw [Hy1.out]; exact hxy)])
      have hok' := Lib.hid (show okTo l (p + 1 + 1) from fun j hj => by
        by_cases e : j < p + 1
        · exact Hok.out j e
        · obtain rfl : j = p + 1 := by omega
          exact fun e2 => hnf.out e2.1)
      have hp' := Lib.hid (show pl l (p + 1 + 1) = u ++ [x] by rw [pl_more hnf.out, HU.out, Hxd.out])
      have hl' := Lib.hid (show (pl l (p + 1 + 1)).length = m + 1 by rw [hp'.out, List.length_append, ← HU.out, Hml.out]; rfl)
      go_wp2_with (at_builtin; refine wpList_append_row _ .i64 rfl _ _ 25 rfl w.heap.size 3 i0 (.int .i64 0) 8 Try.underlying25 hi hz0 hz1 hz2 rfl _ m u rfl (hown.alloc _) (some ⟨wr.heap.size, 0, none⟩) 1 1 _ [x] rfl rfl (Row.lit wr .i64 [x] 3 rfl) (by unfold maxLen; omega) (by omega) (by simp; omega) ?_; intro A2 c2 w2 hown2 hc2 hB2)
      refine ⟨⟨p + 1 + 1, m + 1, A2, c2, 1, by omega, by go_num, hl'.out, hc2, rfl, by go_num, hq'.out, hok'.out, bef_next Hbef.out Hnd.out, by rw [hp'.out]; exact hown2, (hB.alloc hsz _).trans hB2⟩, by simp [intOf]; omega⟩
    · have d1 : decide ((m : Int) < (many : Int)) = false := by simp; omega
      cases en
      · skip
        go_wp2_with fail
        go_ret3
        exact ⟨_, _, _, _, _, rfl, Hml.out, hmc, ⟨hk, Hok.out, Hbef.out, .inl ⟨rfl, fun e => by rcases e with e | ⟨e, _⟩; rw [Hml.out] at e; omega; cases e⟩⟩, by rw [HU.out]; exact Row.own hown, hB⟩
      · by_cases h5 : q = 5
        rotate_left
        · have d5 : ((q : Int) == 5) = false := by simp; omega
          have d5' : (q == 5) = false := by simp; omega
          go_wp2_with fail
          go_ret3
          exact ⟨_, _, _, _, _, rfl, Hml.out, hmc, ⟨hk, Hok.out, Hbef.out, .inl ⟨rfl, fun e => by rcases e with e | ⟨_, e⟩; rw [Hml.out] at e; omega; exact h5 (by rw [← Hq.out]; exact (Hok.out.five hk).1 e)⟩⟩, by rw [HU.out]; exact Row.own hown, hB⟩
        have Hnd := Lib.hid (show need l many true k from .inr ⟨rfl, (Hok.out.five hk).2 (by rw [Hq.out]; exact h5)⟩)
        subst h5
        by_cases hlt : k < l.length
        rotate_left
        · obtain rfl : k = l.length := by omega
          clear hlt
          go_wp2_with fail
          go_ret3
          exact ⟨_, _, _, _, _, rfl, Hml.out, hmc, ⟨hk, Hok.out, Hbef.out, .inr (.inl ⟨rfl, rfl, Hnd.out⟩)⟩, by rw [HU.out]; exact Row.own hown, hB⟩
        obtain ⟨ad, x, rfl, hx, hc⟩ := (h.below hB).get_ hlt
        have hxd : l.getD k 0 = x := by simp [List.getD, hx]
        have hkl : ((k : Int) == (l.length : Int)) = false := by simp; omega
        have hkl2 : (k == l.length) = false := by simp; omega
        have hkl3 : (k : Int) < (l.length : Int) := by omega
        have Hxd := Lib.hid hxd
        clear hx hxd
        have hf := Lib.hid ((Hok.out.five hk).2 Hq.out)
        have hk1 : 1 ≤ k := by have := runOf_le (l.take k); rw [Hq.out] at this; simp at this; omega
        obtain ⟨p, rfl⟩ : ∃ p, k = p + 1 := ⟨k - 1, by omega⟩
        obtain ⟨y, hy⟩ : ∃ y, l[p]? = some y := ⟨_, List.getElem?_eq_getElem (by omega)⟩
        have hc3 := (h.below hB).at_ hy
        have hy1 : (runOf (l.take (p + 1))).1 = y := by rw [take_snoc hy, runOf_snoc, tick_fst]
        have Hy1 := Lib.hid hy1
        simp [Addr.add] at hc
        have c1 : (0 : Int) < (p : Int) + 1 := by omega
        have c2' : (p : Int) + 1 - 1 = (p : Int) := by omega
        have c5 : (p : Int) < (l.length : Int) := by omega
        have c6 : (p : Int) + 1 < (l.length : Int) := by omega
        clear hy hy1
        by_cases hxy : x = y
        · subst hxy
          go_wp2_with fail
          go_ret3
          exact ⟨_, _, _, _, _, rfl, Hml.out, hmc, ⟨hk, Hok.out, Hbef.out, .inr (.inr ⟨rfl, by omega, Hnd.out, hf.out, by rw [Hxd.out, Hy1.out]⟩)⟩, by rw [HU.out]; exact Row.own hown, hB⟩
        have dxy : (x == y) = false := by simp [hxy]
        have hok' := Lib.hid (show okTo l (p + 1 + 1) from fun j hj => by
          by_cases e : j < p + 1
          · exact Hok.out j e
          · obtain rfl : j = p + 1 := by omega
            exact fun e2 => hxy (by rw [← Hxd.out, ← Hy1.out]; exact e2.2))
        have hq' := Lib.hid (show (runOf (l.take (p + 1 + 1))).2 = 1 by rw [take_next (by omega), runOf_snoc, Hxd.out, tick_other (by rw [Hy1.out]; exact hxy)])
        go_wp2_with fail
        refine ⟨⟨p + 1 + 1, m, A', c', 1, by omega, by go_num, by rw [pl_five hf.out]; exact Hml.out, hmc, rfl, by go_num, hq'.out, hok'.out, bef_next Hbef.out Hnd.out, by rw [pl_five hf.out, HU.out]; exact hown, hB⟩, by simp [intOf]; omega⟩

end Go.Proofs.Ytmapkjjglhpamaa
