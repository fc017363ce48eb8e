/-
  arb.bitsAt, arb.staying.
-/
import Derived.Test.YtfmlnfblfhmapaaArbC
import Derived.Lib.SliceRun
namespace Go.Proofs.Ytfmlnfblfhmapaa
open Go.RowKit
set_option linter.unusedVariables false

def bitsL (ss : List Src) (p : Nat) : List Int := ss.filterMap fun s => s.r[p]?
theorem bitsL_snoc {ss : List Src} {k p : Nat} {s : Src} (h : ss[k]? = some s) : bitsL (ss.take (k + 1)) p = bitsL (ss.take k) p ++ (s.r[p]?).toList := by
  unfold bitsL
  rw [List.take_add_one, h, List.filterMap_append]
  cases e : s.r[p]? <;> simp [e]
theorem bitsL_le (ss : List Src) (p k : Nat) : (bitsL (ss.take k) p).length ≤ k := by
  unfold bitsL
  exact Nat.le_trans (List.length_filterMap_le _ _) (by simp; omega)

theorem own_made (W : World) (n : Nat) (hn : n ≤ maxLen) : (W.alloc (.cells (madeCells #[Value.int .i64 0] n) 3)).ownsRow W.heap.size 3 1 (.slice (some ⟨W.heap.size, 0, none⟩) 0 n) 0 (([] : List Int).map (Value.int .i64)) := by
  refine ⟨rfl, .inr ⟨W.heap.size, n, _, rfl, Nat.le_refl _, World.alloc_heap_new _ _, Nat.zero_le _, hn, ?_, by simp⟩⟩
  simp [madeCells]

set_option maxRecDepth 100000 in
set_option maxHeartbeats 1000000 in
theorem bitsAt_any (ss : List Src) (n : Nat) (hn : ss.length = n) (G cap p : Nat) (cs : List Value) (w : World) (hS : SBlk w G cs) (hcs : ∀ (k : Nat) (s : Src), ss[k]? = some s → cs[k]? = some s.v) (hok : ∀ s ∈ ss, SrcOk w G s) (hm : n ≤ 100) (hcap : n ≤ cap) (hp : p ≤ 100) :
    Calls Try.prog 28 #[.slice (some ⟨G, 0, none⟩) n cap, .int .i64 p] w fun e w' => ∃ (A' : Option Addr) (c' m : Nat), e = .returned (.slice A' m c') ∧ (bitsL ss p).length = m ∧ m ≤ n ∧ Row .i64 w' w'.heap.size A' (bitsL ss p) ∧ Below w.heap.size w w' := by
  obtain ⟨i0, hi, hz0, hz1, hz2⟩ := info_parts Try.infoInt
  have hmk := run_make_room (P := Try.prog) 23 3 (.int .i64 0) 8 Try.underlying23 Try.infoInt rfl .i64 .i64 n (by omega) (by omega)
  have Hn := Lib.hid hn
  have HCS := Lib.hid hcs
  have HOK := Lib.hid hok
  clear hn hcs hok
  have hm9 : n ≤ maxLen := by unfold maxLen; omega
  go_enter Try.func28, Try.ntmps28
  go_wp2_with fail
  go_loopw [5, 15] (fun o i wr => ∃ (k m : Nat) (A' : Option Addr) (c' : Nat), k ≤ n ∧ m ≤ k ∧ i = .int .i64 k ∧ o = .slice A' m c' ∧ (bitsL (ss.take k) p).length = m ∧
      wr.ownsRow w.heap.size 3 1 (.slice A' m c') m ((bitsL (ss.take k) p).map (Value.int .i64)) ∧ Below w.heap.size w wr)
    (fun _ i _ => n - (intOf i).toNat)
  case atStart => exact ⟨0, 0, _, n, Nat.zero_le _, Nat.zero_le _, rfl, rfl, rfl, own_made w n hm9, (Below.refl _ _).alloc (Nat.le_refl _) _⟩
  case round =>
    obtain ⟨k, m, A', c', hk, hmk', rfl, rfl, hml, hown, hB⟩ := hrel
    have hsz := hB.size
    by_cases hlt : k < n
    · obtain ⟨s, hs⟩ : ∃ s, ss[k]? = some s := ⟨_, List.getElem?_eq_getElem (by rw [Hn.out]; exact hlt)⟩
      have hso := (HOK.out s (List.mem_of_getElem? hs)).to (below_grown hB _)
      have hcell := (hS.to hB).cell (HCS.out k s hs)
      have hsn := bitsL_snoc (p := p) hs
      have hsm := hso.small
      have hrow := hso.row
      have hsl := hso.len
      obtain ⟨sa, sn, sc, sr⟩ := s
      simp only [Src.v] at hcell hsm hrow hsl hsn
      by_cases hb : p < sn
      · obtain ⟨x, hx⟩ : ∃ x, sr[p]? = some x := ⟨_, List.getElem?_eq_getElem (by rw [hsl]; exact hb)⟩
        rw [hx] at hsn
        have Hs := Lib.hid (And.intro hsn (And.intro hml (And.intro hs (And.intro hsl hx))))
        clear hsn hml hs hsl hx hso
        go_wp2_with (first
          | (go_at_call 33; refine (bit_yes sr sn Hs.out.2.2.2.1 (some sa) sc _ p x Hs.out.2.2.2.2 _ hrow (by omega)).mono ?_; rintro e w' ⟨rfl, rfl⟩)
          | (at_builtin; refine wpList_append_row _ .i64 rfl _ _ 23 rfl w.heap.size 3 i0 (.int .i64 0) 8 Try.underlying23 hi hz0 hz1 hz2 rfl _ m (bitsL (ss.take k) p) rfl (hown.alloc _) (some ⟨wr.heap.size, 0, none⟩) 1 1 _ [x] rfl rfl (Row.lit wr .i64 [x] 3 rfl) (by unfold maxLen; omega) (by omega) (by simp; omega) ?_; intro A2 c2 w2 hown2 hc2 hB2))
        have hBB : Below w.heap.size w w2 := (hB.alloc hsz _).trans hB2
        exact ⟨⟨k + 1, m + 1, A2, c2, by omega, by omega, by go_num, rfl, by rw [Hs.out.1, List.length_append, Hs.out.2.1]; rfl, by rw [Hs.out.1]; exact hown2, hBB⟩, by simp [intOf]; omega⟩
      · have hx : sr[p]? = none := List.getElem?_eq_none (by rw [hsl]; omega)
        rw [hx] at hsn
        have Hs := Lib.hid (And.intro hsn (And.intro hml (And.intro hs (And.intro hsl hx))))
        clear hsn hml hs hsl hx hso
        go_wp2_with (go_at_call 33; refine (bit_no sn (some sa) sc p (by omega) _ (by omega)).mono ?_; rintro e w' ⟨rfl, rfl⟩)
        exact ⟨⟨k + 1, m, A', c', by omega, by omega, by go_num, rfl, by rw [Hs.out.1, List.length_append, Hs.out.2.1]; rfl, by rw [Hs.out.1]; simpa using hown, hB⟩, by simp [intOf]; omega⟩
    · obtain rfl : k = n := by omega
      have e : ss.take k = ss := List.take_of_length_le (Nat.le_of_eq Hn.out)
      rw [e] at hown hml
      have Hm := Lib.hid hml
      clear hml e
      go_wp2
      go_ret
      exact ⟨A', c', m, rfl, Hm.out, hmk', Row.own hown, hB⟩

end Go.Proofs.Ytfmlnfblfhmapaa
