/-
  arb.sourcesOf.
-/
import Derived.Test.YtfmlnfblfhmapaaArbB
namespace Go.Proofs.Ytfmlnfblfhmapaa
open Go.RowKit
set_option linter.unusedVariables false

def isFn (v : Value) : Prop := ∀ n, v ≠ .int .i64 n
theorem SBlk.ne {w : World} {G B : Nat} {cs : List Value} (h : SBlk w G cs) (hf : ∀ v ∈ cs, isFn v) {ad : Addr} {r : List Int} (hr : Row .i64 w B (some ad) r) (h0 : r ≠ []) : ad.block ≠ G := by
  intro e
  rcases hr with e' | ⟨ad', e', _, hc⟩
  · exact h0 e'
  · obtain rfl := Option.some.inj e'
    obtain ⟨x, r', rfl⟩ : ∃ x r', r = x :: r' := by cases r with | nil => exact absurd rfl h0 | cons x r' => exact ⟨x, r', rfl⟩
    have := hc 0 x rfl
    have hh : w.heap[(ad.add 0).block]? = some (.cells cs.toArray 48 (0, 0)) := by rw [addr_block, e]; exact h
    simp only [World.cell?, hh] at this
    have hm : Value.int .i64 x ∈ cs := by
      have h2 := this
      simp at h2
      first
        | exact List.mem_of_getElem? h2
        | exact List.mem_of_getElem? h2.2
    exact hf _ hm x rfl
theorem below_grown {w w' : World} (b : Below w.heap.size w w') (row : Option Nat) : w.grownBy w' row := ⟨b.os, b.tape, b.output, b.size, fun k hk _ => b.block k hk⟩
theorem isFn_src (s : Src) : isFn s.v := fun n e => by cases e
theorem isFn_nil : isFn .nilFunc := fun n e => by cases e

def srcCells (ss : List Src) (n : Nat) : List Value := ss.map Src.v ++ List.replicate (n - ss.length) .nilFunc
theorem srcCells_len {ss : List Src} {n : Nat} (h : ss.length ≤ n) : (srcCells ss n).length = n := by simp [srcCells]; omega
theorem srcCells_fn (ss : List Src) (n : Nat) : ∀ v ∈ srcCells ss n, isFn v := by
  intro v hv
  rcases List.mem_append.1 hv with h | h
  · obtain ⟨s, _, rfl⟩ := List.mem_map.1 h
    exact isFn_src s
  · rw [List.eq_of_mem_replicate h]
    exact isFn_nil
theorem srcCells_set {ss : List Src} {n : Nat} (h : ss.length < n) (s : Src) : (srcCells ss n).set ss.length s.v = srcCells (ss ++ [s]) n := by
  unfold srcCells
  rw [List.set_append_right _ _ (by simp)]
  simp only [List.length_map, Nat.sub_self, List.map_append, List.append_assoc, List.length_append, List.length_singleton]
  obtain ⟨m, hm⟩ : ∃ m, n - ss.length = m + 1 := ⟨n - ss.length - 1, by omega⟩
  rw [hm, show n - (ss.length + 1) = m by omega, List.replicate_succ]
  simp
theorem madeCells_src (n : Nat) : madeCells #[Value.nilFunc] n = (srcCells [] n).toArray := by
  apply Array.ext
  · simp [madeCells, srcCells]
  · intro i h1 h2
    simp [madeCells, srcCells, Nat.mod_one]

set_option maxRecDepth 100000 in
set_option maxHeartbeats 1000000 in
theorem sourcesOf_any (fs : List FV) (n : Nat) (hn : fs.length = n) (A : Option Addr) (c : Nat) (w : World) (h : FRow w w.heap.size A fs) (hok : ∀ f ∈ fs, FOk f) (hm : n ≤ 100) :
    Calls Try.prog 27 #[.slice A n c] w fun e w' => ∃ (G : Nat) (ss : List Src), e = .returned (.slice (some ⟨G, 0, none⟩) n n) ∧ w.heap.size ≤ G ∧ SBlk w' G (ss.map Src.v) ∧ ss.map (·.r) = ranks fs ∧ (∀ s ∈ ss, SrcOk w' G s) ∧ (∀ s ∈ ss, w.heap.size ≤ s.ad.block) ∧ Below w.heap.size w w' := by
  have hmk := run_make_room (P := Try.prog) 45 48 .nilFunc 8 Try.underlying45 Try.infoSrc rfl .i64 .i64 n (by omega) (by omega)
  rw [madeCells_src n] at hmk
  have Hn := Lib.hid hn
  obtain ⟨G, hG⟩ : ∃ G, w.heap.size = G := ⟨_, rfl⟩
  have HG := Lib.hid hG
  clear hn
  go_enter Try.func27, Try.ntmps27
  go_wp2_with fail
  go_loopw [3, 11] (fun o i wr => ∃ (k : Nat) (ss : List Src), k ≤ n ∧ i = .int .i64 k ∧ o = .slice (some ⟨G, 0, none⟩) k n ∧ ss.length = k ∧ SBlk wr G (srcCells ss n) ∧ ss.map (·.r) = (ranks fs).take k ∧ (∀ s ∈ ss, SrcOk wr G s) ∧ (∀ s ∈ ss, w.heap.size ≤ s.ad.block) ∧ Below w.heap.size w wr)
    (fun _ i _ => n - (intOf i).toNat)
  case atStart =>
    refine ⟨0, [], Nat.zero_le _, rfl, rfl, rfl, ?_, by simp, by simp, by simp, (Below.refl _ _).alloc (Nat.le_refl _) _⟩
    rw [← HG.out]
    exact World.alloc_heap_new _ _
  case round =>
    obtain ⟨k, ss, hk, rfl, rfl, hsl, hS, hss, hso, hnew, hB⟩ := hrel
    have hsz := hB.size
    by_cases hlt : k < n
    · obtain ⟨ad, f, rfl, hf, h0, h1, h2, h3, h4⟩ := (h.below hB).get_ (k := k) (by rw [Hn.out]; exact hlt)
      have hfok : FOk f := hok f (List.mem_of_getElem? hf)
      have hnext : (ranks fs).take (k + 1) = (ranks fs).take k ++ [rankF f] := by
        rw [List.take_add_one]
        simp [ranks, hf]
      obtain ⟨q, hq⟩ : ∃ q, (rankF f).length = q := ⟨_, rfl⟩
      have hq32 : q ≤ 32 := by rw [← hq, rankF_len]; cases f.x <;> decide
      have hne : rankF f ≠ [] := by intro e; have := rankF_len f; rw [e] at this; cases hfx : f.x <;> rw [hfx] at this <;> cases this
      have HX := Lib.hid (And.intro hnext (And.intro hq (And.intro hsl (And.intro hss hG))))
      have HSO := Lib.hid (And.intro hso hnew)
      have HOK := Lib.hid hok
      have HNE := Lib.hid hne
      clear hnext hsl hss hf hso hok hne hG hnew
      go_wp2_with fail
      refine (rankF_at f hfok q hq _).mono ?_
      rintro e w1 ⟨ad1, c1, rfl, hr1, hc1, hB1, hfr1⟩
      have hfr1 : w.heap.size ≤ ad1.block := by simp at hfr1; omega
      obtain ⟨s, hs⟩ : ∃ s : Src, s = ⟨ad1, q, c1, rankF f⟩ := ⟨_, rfl⟩
      have hB1' := below_lit hB1
      have hS1 : SBlk w1 G (srcCells ss n) := hS.to hB1'
      obtain ⟨w2, hw2⟩ : ∃ w2, w1.alloc (.cells #[.func (.func 33) #[.slice (some ad1) q c1] #[]] 48) = w2 := ⟨_, rfl⟩
      have hB2 := below_lits hw2
      have hS2 : SBlk w2 G (srcCells ss n) := hS1.to hB2
      have hlen : (srcCells ss n).length = n := srcCells_len (by rw [HX.out.2.2.1]; omega)
      have hc2 : w2.cell? ⟨w1.heap.size, 0, none⟩ = some (.func (.func 33) #[.slice (some ad1) q c1] #[]) := by
        have := World.alloc_heap_new w1 (.cells #[.func (.func 33) #[.slice (some ad1) q c1] #[]] 48)
        rw [hw2] at this
        simp [World.cell?, this]
      have hrun := fun ty => run_append_src w2 ty G k n (srcCells ss n) hS2 hlen hlt ⟨w1.heap.size, 0, none⟩ 1 _ hc2 rfl
      have HRun := Lib.hid hrun
      have HW2 := Lib.hid hw2
      have HL := Lib.hid (And.intro hs hlen)
      clear hrun hc2 hw2 hs hlen hq h0 h1 h2 h3 h4
      go_wp2_with (at_builtin; rw [HW2.out]; refine Lib.wpList_append_run _ rfl _ _ _ _ rfl _ _ rfl rfl _ _ (HRun.out _) ?_)
      have hset : (srcCells ss n).set k (.func (.func 33) #[.slice (some ad1) q c1] #[]) = srcCells (ss ++ [s]) n := by
        have := srcCells_set (ss := ss) (n := n) (by rw [HX.out.2.2.1]; exact hlt) s
        rw [HX.out.2.2.1, HL.out.1] at this
        rw [HL.out.1]
        exact this
      have hg : wr.grownBy (w2.setRow G (srcCells (ss ++ [s]) n).toArray) (some G) := (below_grown (below_then hB1' hB2) _).trans (grown_setRow _ _ _)
      have hs1 : SrcOk w1 G s := by
        rw [HL.out.1]
        refine ⟨HX.out.2.1, hq32, ?_, hS1.ne (srcCells_fn _ _) hr1 HNE.out, hr1⟩
        rcases hr1 with e | ⟨ad', e, hb, _⟩
        · exact absurd e HNE.out
        · obtain rfl := Option.some.inj e
          exact hb
      rw [hset]
      refine ⟨⟨k + 1, ss ++ [s], by omega, by go_num, rfl, by simp [HX.out.2.2.1], hS2.set _, ?_, ?_, ?_, ?_⟩, by simp [intOf]; omega⟩
      · rw [List.map_append, HX.out.2.2.2.1, HX.out.1, HL.out.1]; rfl
      · intro s' hs'
        rcases List.mem_append.1 hs' with h' | h'
        · exact (HSO.out.1 s' h').to hg
        · obtain rfl : s' = s := by simpa using h'
          exact hs1.to ((below_grown hB2 _).trans (grown_setRow _ _ _))
      · intro s' hs'
        rcases List.mem_append.1 hs' with h' | h'
        · exact HSO.out.2 s' h'
        · obtain rfl : s' = s := by simpa using h'
          rw [HL.out.1]
          exact hfr1
      · exact (hB.trans ((below_then hB1' hB2).mono hsz)).trans (below_setRow _ (by rw [HG.out]; exact Nat.le_refl _))
    · obtain rfl : k = n := by omega
      go_wp2
      go_ret
      refine ⟨G, ss, rfl, by rw [HG.out]; exact Nat.le_refl _, ?_, ?_, hso, hnew, hB⟩
      · have : srcCells ss k = ss.map Src.v := by simp [srcCells, hsl]
        rw [this] at hS
        exact hS
      · rw [hss, List.take_of_length_le (by simp [ranks]; exact Nat.le_of_eq Hn.out)]

end Go.Proofs.Ytfmlnfblfhmapaa
