/-
  Are rows of frames, and nodes, alike? Are there too many? (the document's SameAll, Same; the statements' Great.)
-/
import Derived.Test.YtlbgilbigcnleaaNdF
import Derived.Test.YtlbgilbigcnleaaNAny
import Derived.Deep.RegionWith
namespace Go.Proofs.Ytlbgilbigcnleaa
open Go.RowKit
set_option linter.unusedVariables false
set_option linter.unusedSimpArgs false

theorem neq_at {α : Type} [DecidableEq α] {a b : List α} {k : Nat} {x y : α} (h1 : a[k]? = some x) (h2 : b[k]? = some y) (h : x ≠ y) : decide (a = b) = false := by
  simp only [decide_eq_false_iff_not]
  intro e
  subst e
  exact h (Option.some.inj (h1.symm.trans h2))
theorem eq_all {α : Type} {a b : List α} (hl : a.length = b.length) (h : ∀ j, j < a.length → a[j]? = b[j]?) : a = b := by
  apply List.ext_getElem?
  intro i
  by_cases hi : i < a.length
  · exact h i hi
  · rw [List.getElem?_eq_none (by omega), List.getElem?_eq_none (by omega)]

set_option maxRecDepth 100000 in
set_option maxHeartbeats 2000000 in
theorem sameAll_c {w : World} {P P' : Nat → Prop} {A A' : Option Addr} {n c n' c' : Nat} {Fs Gs : List FC} (h : FSl w P A n c Fs) (h' : FSl w P' A' n' c' Gs) (q : Bool) (hq : sameFs Fs Gs = q) :
    Calls Try.prog 36 #[.slice A n c, .slice A' n' c'] w fun e w' => e = .returned (.bool q) ∧ Below w.heap.size w w' := by
  have hbig := h.big
  have hbig' := h'.big
  unfold maxLen at hbig hbig'
  unfold sameFs at hq
  have Hq := Lib.hid hq
  clear hq
  by_cases hlen : n = n'
  · subst hlen
    have d0 : ((n : Int) != (n : Int)) = false := by simp
    have d00 : (n != n) = false := by simp
    go_enter Try.func36, Try.ntmps36
    go_wp2_with fail
    go_loopw [5] (fun i wr => ∃ k : Nat, k ≤ n ∧ i = .int .i64 k ∧ Hid (∀ j, j < k → Fs[j]? = Gs[j]?) ∧ Below w.heap.size w wr) (fun i _ => n - (intOf i).toNat)
    case atStart => exact ⟨0, Nat.zero_le _, rfl, Lib.hid (fun j hj => absurd hj (by omega)), Below.refl _ _⟩
    case round =>
      obtain ⟨k, hk, rfl, Hr, hB⟩ := hrel
      by_cases hlt : k < n
      · obtain ⟨ad, f, F, rfl, hF, ⟨a0, a1, a2, a3, a4⟩, hfi⟩ := (h.to hB).at_ (k := k) hlt
        obtain ⟨ad', g, G, rfl, hG, ⟨b0, b1, b2, b3, b4⟩, hgi⟩ := (h'.to hB).at_ (k := k) hlt
        have HF := Lib.hid hF
        have HG := Lib.hid hG
        clear hF hG
        obtain ⟨r, hr⟩ : ∃ r, sameF F G = r := ⟨_, rfl⟩
        have HR := Lib.hid hr
        clear hr
        cases r
        · go_wp2_with fail
          go_region_with (first
            | (go_at_call 24; refine (refFrSame_c (hfi.to (below_drew1 _)) (hgi.to (below_drew1 _)) false HR.out).mono ?_; rintro e w2 ⟨rfl, hB2⟩)
            | fail)
          all_goals
            go_wp2_with fail
            go_ret
            exact ⟨ret_bool (by rw [← Hq.out]; exact (neq_at HF.out HG.out (by have := HR.out; unfold sameF at this; simpa using this)).symm), below_then hB (below_then (below_drew1 _) hB2)⟩
        · go_wp2_with fail
          go_region_with (first
            | (go_at_call 24; refine (refFrSame_c (hfi.to (below_drew1 _)) (hgi.to (below_drew1 _)) true HR.out).mono ?_; rintro e w2 ⟨rfl, hB2⟩)
            | fail)
          all_goals
            go_wp2_with fail
            go_round
            case measure => simp [intOf]; omega
            refine ⟨k + 1, by omega, by go_num, Lib.hid (fun j hj => ?_), below_then hB (below_then (below_drew1 _) hB2)⟩
            by_cases hjk : j < k
            · exact Hr.out j hjk
            · obtain rfl : j = k := by omega
              rw [HF.out, HG.out]
              have := HR.out
              unfold sameF at this
              simp only [decide_eq_true_eq] at this
              rw [this]
      · obtain rfl : k = n := by omega
        have hq2 := Hq.out
        have he := eq_all (h.len.trans h'.len.symm) (fun j hj => Hr.out j (by rw [h.len] at hj; exact hj))
        rw [he] at hq2
        simp only [decide_true] at hq2
        subst hq2
        go_wp2_with fail
        go_ret
        exact ⟨rfl, hB⟩
  · have d0 : ((n : Int) != (n' : Int)) = true := by simp; omega
    have d00 : (n != n') = true := by simp; omega
    have hq2 : false = q := by
      rw [← Hq.out]
      symm
      simp only [decide_eq_false_iff_not]
      intro e
      subst e
      exact hlen (h.len.symm.trans h'.len)
    subst hq2
    go_enter Try.func36, Try.ntmps36
    go_wp2_with fail
    go_ret
    exact ⟨rfl, Below.refl _ _⟩

end Go.Proofs.Ytlbgilbigcnleaa
