/-
  The document's 'last' of layer 5, walked. (Written by wip/tools/mk_last.py.)
-/
import Derived.Test.YtmapkjjglhpamaaWBareGo
namespace Go.Proofs.Ytmapkjjglhpamaa
open Go.RowKit

set_option maxRecDepth 100000 in
set_option maxHeartbeats 4000000 in
theorem last_any (l : List Int) (A : Option Addr) (c : Nat) (many p : Nat) (w : World) (h : Row .i64 w w.heap.size A l) (hm : l.length ≤ 10000) (hmany : many ≤ 10000) (hp : p < l.length) (hok : okTo l (p + 1)) (hlen : (pl l p).length + 1 = many) (h5 : ¬ fiveB (l.take p) = true) (hmin : ∀ j, j ≤ p → (pl l j).length < many) :
    Calls Try.prog 47 #[.slice A l.length c, .int .i64 many] w fun e w' => e = .returned (.int .i64 (p : Nat)) ∧ Below w.heap.size w w' := by
  have Hok := Lib.hid hok
  have Hlen := Lib.hid hlen
  have H5 := Lib.hid h5
  have Hmin := Lib.hid hmin
  clear hok hlen h5 hmin
  go_enter Try.func47, Try.ntmps47
  go_wp2_with fail
  go_loopw [5, 6, 7] (fun rn nn i wr => ∃ (k m q d : Nat), k ≤ p ∧ i = .int .i64 k ∧ (pl l k).length = m ∧ nn = .int .i64 m ∧ rn = .int .i64 q ∧ (runOf (l.take k)).2 = q ∧ wr = w.drewN d) (fun _ _ i _ => l.length - (intOf i).toNat)
  case atStart => exact ⟨0, 0, 0, 0, Nat.zero_le _, rfl, rfl, rfl, rfl, rfl, rfl⟩
  case round =>
    obtain ⟨k, m, q, d, hk, rfl, hml, rfl, rfl, hq, rfl⟩ := hrel
    have hokk := Hok.out.down (show k ≤ p + 1 by omega)
    have hq5 := hokk.run (by omega)
    have hmk := pl_len l k
    rw [hq] at hq5
    rw [hml] at hmk
    have Hml := Lib.hid hml
    have Hq := Lib.hid hq
    have Hokk := Lib.hid hokk
    clear hml hq hokk
    obtain ⟨ad, x, rfl, hx, hc⟩ := h.get_ (k := k) (by omega)
    have hxd : l.getD k 0 = x := by simp [List.getD, hx]
    have hkl : decide ((k : Int) < (l.length : Int)) = true := by simp; omega
    have hkl3 : (k : Int) < (l.length : Int) := by omega
    have Hxd := Lib.hid hxd
    clear hx hxd
    by_cases h5 : q = 5
    · subst h5
      have hf := Lib.hid ((Hokk.out.five (by omega)).2 Hq.out)
      have hkp : k ≠ p := fun e => H5.out (by rw [← e]; exact hf.out)
      have hk1 : 1 ≤ k := by have := runOf_le (l.take k); rw [Hq.out] at this; simp at this; omega
      have hq' := Lib.hid (show (runOf (l.take (k + 1))).2 = 1 by
        rw [take_next (by omega), runOf_snoc, tick_other (fun e => Hok.out k (by omega) ⟨hf.out, e⟩)])
      go_wp2_with fail
      refine ⟨⟨k + 1, m, 1, _, by omega, by go_num, by rw [pl_five hf.out]; exact Hml.out, rfl, by go_num, hq'.out, rfl⟩, by simp [intOf]; omega⟩
    have d5 : ((q : Int) == 5) = false := by simp; omega
    have d5' : (q == 5) = false := by simp; omega
    have hnf := Lib.hid (show ¬ fiveB (l.take k) = true from fun e => h5 (by rw [← Hq.out]; exact (Hokk.out.five (by omega)).1 e))
    by_cases h0 : k = 0
    · subst h0
      obtain rfl : q = 0 := by rw [← Hq.out]; rfl
      simp [Addr.add] at hc
      have z2 : (0 : Int) < (l.length : Int) := by omega
      clear hkl hkl3 d5 d5' h5
      have hq' := Lib.hid (show (runOf (l.take (0 + 1))).2 = 1 by rw [take_next (by omega), runOf_snoc, Hxd.out]; show (tick (0, 0) x).2 = 1; unfold tick; split <;> simp)
      by_cases hip : 0 = p
      · subst hip
        have dm : ((m : Int) + 1 == (many : Int)) = true := by have := Hlen.out; rw [Hml.out] at this; simp; omega
        have dm2 : (m : Int) + 1 = (many : Int) := by simpa using dm
        go_wp2_with fail
        go_quiet (fail)
        go_wp2_with fail
        go_ret
        exact ⟨by first | rfl | simp, below_drewN0 _ _⟩
      have hlt2 : (pl l (0 + 1)).length = m + 1 := by rw [pl_more hnf.out, List.length_append, Hml.out]; rfl
      have dm : ((m : Int) + 1 == (many : Int)) = false := by have := Hmin.out (0 + 1) (by omega); rw [hlt2] at this; simp; omega
      have dm2 : ¬ (m : Int) + 1 = (many : Int) := by simpa using dm
      have Hlt := Lib.hid hlt2
      have hlt3 : 0 + 1 ≤ p := by omega
      clear hlt2 hip
      go_wp2_with fail
      go_quiet (fail)
      go_wp2_with fail
      refine ⟨⟨0 + 1, m + 1, 1, _, by omega, by go_num, Hlt.out, by go_num, by go_num, hq'.out, rfl⟩, by simp [intOf]; omega⟩
    obtain ⟨a, rfl⟩ : ∃ a, k = a + 1 := ⟨k - 1, by omega⟩
    obtain ⟨y, hy⟩ : ∃ y, l[a]? = some y := ⟨_, List.getElem?_eq_getElem (by omega)⟩
    have hc3 := h.at_ hy
    have hy1 : (runOf (l.take (a + 1))).1 = y := by rw [take_snoc hy, runOf_snoc, tick_fst]
    have Hy1 := Lib.hid hy1
    simp [Addr.add] at hc
    have c1 : (0 : Int) < (a : Int) + 1 := by omega
    have c2' : (a : Int) + 1 - 1 = (a : Int) := by omega
    have c5 : (a : Int) < (l.length : Int) := by omega
    have c6 : (a : Int) + 1 < (l.length : Int) := by omega
    clear hy hy1
    by_cases hxy : x = y
    · subst hxy
      clear h5
      have hq' := Lib.hid (show (runOf (l.take (a + 1 + 1))).2 = (q + 1) by rw [take_next (by omega), runOf_snoc, Hxd.out]; rw [← Hy1.out, tick_same]; exact congrArg (· + 1) Hq.out)
      by_cases hip : a + 1 = p
      · subst hip
        have dm : ((m : Int) + 1 == (many : Int)) = true := by have := Hlen.out; rw [Hml.out] at this; simp; omega
        have dm2 : (m : Int) + 1 = (many : Int) := by simpa using dm
        go_wp2_with fail
        go_quiet (fail)
        go_wp2_with fail
        go_ret
        exact ⟨by first | rfl | simp, below_drewN0 _ _⟩
      have hlt2 : (pl l (a + 1 + 1)).length = m + 1 := by rw [pl_more hnf.out, List.length_append, Hml.out]; rfl
      have dm : ((m : Int) + 1 == (many : Int)) = false := by have := Hmin.out (a + 1 + 1) (by omega); rw [hlt2] at this; simp; omega
      have dm2 : ¬ (m : Int) + 1 = (many : Int) := by simpa using dm
      have Hlt := Lib.hid hlt2
      have hlt3 : a + 1 + 1 ≤ p := by omega
      clear hlt2 hip
      go_wp2_with fail
      go_quiet (fail)
      go_wp2_with fail
      refine ⟨⟨a + 1 + 1, m + 1, (q + 1), _, by omega, by go_num, Hlt.out, by go_num, by go_num, hq'.out, rfl⟩, by simp [intOf]; omega⟩
    have dxy : (y == x) = false := by simp; exact fun e => hxy e.symm
    have hq' := Lib.hid (show (runOf (l.take (a + 1 + 1))).2 = 1 by rw [take_next (by omega), runOf_snoc, Hxd.out]; rw [tick_other (by rw [Hy1.out]; exact hxy)])
    by_cases hip : a + 1 = p
    · subst hip
      have dm : ((m : Int) + 1 == (many : Int)) = true := by have := Hlen.out; rw [Hml.out] at this; simp; omega
      have dm2 : (m : Int) + 1 = (many : Int) := by simpa using dm
      go_wp2_with fail
      go_quiet (fail)
      go_wp2_with fail
      go_ret
      exact ⟨by first | rfl | simp, below_drewN0 _ _⟩
    have hlt2 : (pl l (a + 1 + 1)).length = m + 1 := by rw [pl_more hnf.out, List.length_append, Hml.out]; rfl
    have dm : ((m : Int) + 1 == (many : Int)) = false := by have := Hmin.out (a + 1 + 1) (by omega); rw [hlt2] at this; simp; omega
    have dm2 : ¬ (m : Int) + 1 = (many : Int) := by simpa using dm
    have Hlt := Lib.hid hlt2
    have hlt3 : a + 1 + 1 ≤ p := by omega
    clear hlt2 hip
    go_wp2_with fail
    go_quiet (fail)
    go_wp2_with fail
    refine ⟨⟨a + 1 + 1, m + 1, 1, _, by omega, by go_num, Hlt.out, by go_num, by go_num, hq'.out, rfl⟩, by simp [intOf]; omega⟩

end Go.Proofs.Ytmapkjjglhpamaa
