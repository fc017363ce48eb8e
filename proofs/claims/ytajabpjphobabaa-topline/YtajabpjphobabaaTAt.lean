/-
  ArbG: what this seat needs of them.
-/
import Derived.Test.YtajabpjphobabaaTBi
import Derived.Test.YtajabpjphobabaaTFr
import Derived.Test.YtajabpjphobabaaTSt
import Derived.Test.YtajabpjphobabaaTCr
import Derived.Test.YtajabpjphobabaaTWi
import Derived.Test.YtajabpjphobabaaTRk
import Derived.Test.YtajabpjphobabaaTAm
import Derived.Test.YtajabpjphobabaaTAr
import Derived.Test.YtajabpjphobabaaTAs
import Derived.WalkMore
namespace Go.Proofs.Ytajabpjphobabaa
open Go.RowKit
set_option linter.unusedVariables false
set_option linter.unusedSimpArgs false

def LBlk (w : World) (L : Nat) (vs : List Int) : Prop := w.heap[L]? = some (.cells (vs.map (Value.int .i64)).toArray 3 (0, 0))

theorem LBlk.lt {w : World} {L : Nat} {vs : List Int} (h : LBlk w L vs) : L < w.heap.size := (Array.getElem?_eq_some_iff.1 h).1

theorem LBlk.cell {w : World} {L : Nat} {vs : List Int} (h : LBlk w L vs) {k : Nat} (hk : k < vs.length) : ∃ x, w.cell? ⟨L, k, none⟩ = some (.int .i64 x) ∧ w.frozen? ⟨L, k, none⟩ = false := by
  refine ⟨vs[k], ?_, ?_⟩
  · simp [World.cell?, show w.heap[L]? = _ from h, hk]
  · simp [World.frozen?, show w.heap[L]? = _ from h]

theorem LBlk.setc {w : World} {L : Nat} {vs : List Int} (h : LBlk w L vs) (o : Nat) (x : Int) : LBlk (w.setCell ⟨L, o, none⟩ (.int .i64 x)) L (vs.set o x) := by
  show (w.setCell ⟨L, o, none⟩ (.int .i64 x)).heap[L]? = _
  rw [heap_setCell_same w L o _ _ _ h]
  simp [List.map_set]

theorem LBlk.row {w : World} {L : Nat} {vs : List Int} (h : LBlk w L vs) : Row .i64 w w.heap.size (some ⟨L, 0, none⟩) vs := by
  right
  refine ⟨_, rfl, h.lt, fun k x hx => ?_⟩
  have e : (⟨L, 0, none⟩ : Addr).add k = ⟨L, k, none⟩ := by unfold Addr.add; split <;> simp_all
  rw [e]
  simp [World.cell?, show w.heap[L]? = _ from h, hx]

def lostCells (ls : List Int) (n k : Nat) : List Int := ls.take k ++ List.replicate (n - k) 0

theorem lostCells_set {ls : List Int} {n k : Nat} {x : Int} (hl : ls.length = n) (hx : ls[k]? = some x) : (lostCells ls n k).set k x = lostCells ls n (k + 1) := by
  have hk : k < n := by rw [← hl]; exact (List.getElem?_eq_some_iff.1 hx).1
  unfold lostCells
  rw [List.set_append_right _ _ (by simp; omega), List.take_add_one, hx]
  simp only [List.length_take, Nat.min_eq_left (show k ≤ ls.length by omega), Nat.sub_self, Option.toList, List.append_assoc]
  obtain ⟨m, hm⟩ : ∃ m, n - k = m + 1 := ⟨n - k - 1, by omega⟩
  rw [hm, show n - (k + 1) = m by omega, List.replicate_succ]
  simp

theorem madeCells_int (n : Nat) (ls : List Int) : madeCells #[Value.int .i64 0] n = ((lostCells ls n 0).map (Value.int .i64)).toArray := by
  apply Array.ext
  · simp [madeCells, lostCells]
  · intro i h1 h2
    simp [madeCells, lostCells, Nat.mod_one]

theorem SrcOk.far {w w' : World} {G L : Nat} {s : Src} (h : SrcOk w G s) (g : w.grownBy w' (some L)) (hL : s.ad.block ≠ L) : SrcOk w' G s := by
  refine ⟨h.len, h.small, by have := g.size; have := h.lt; omega, h.ne, ?_⟩
  rcases h.row with e | ⟨ad, e, hb, hc⟩
  · exact .inl e
  · obtain rfl := Option.some.inj e
    refine .inr ⟨_, rfl, by have := g.size; omega, fun k x hx => ?_⟩
    rw [← hc k x hx]
    exact World.cell?_of_block (by rw [addr_block]; exact g.block _ h.lt (by simp; exact hL))

theorem LBlk.step {w : World} {L n k : Nat} {ls : List Int} {x : Int} (h : LBlk w L (lostCells ls n k)) (hl : ls.length = n) (hx : ls[k]? = some x) : LBlk (w.setCell ⟨L, k, none⟩ (.int .i64 x)) L (lostCells ls n (k + 1)) := by
  have := h.setc k x
  rw [lostCells_set hl hx] at this
  exact this

set_option maxRecDepth 100000 in
set_option maxHeartbeats 2000000 in
theorem lost_any (fs : List FV) (n : Nat) (hn : fs.length = n) (A : Option Addr) (c : Nat) (w : World) (h : FRow w w.heap.size A fs) (hok : ∀ f ∈ fs, FOk f) (hm : n ≤ 100) (W : List Int) (hW : LeastE W (ranks fs)) (q : Nat) (hq : W.length = q) (hq32 : q ≤ 32) :
    Calls Try.prog 17 #[.slice A n c] w fun e w' => ∃ A', e = .returned (.slice A' n n) ∧ Row .i64 w' w'.heap.size A' ((ranks fs).map (lostOf W)) ∧ Below w.heap.size w w' := by
  have hmk := run_make_row' (P := Try.prog) 27 3 (.int .i64 0) 8 Try.underlying27 Try.infoInt rfl .i64 .i64 n (by omega) (by omega)
  obtain ⟨ls, hls⟩ : ∃ ls, (ranks fs).map (lostOf W) = ls := ⟨_, rfl⟩
  have hlsn : ls.length = n := by rw [← hls, List.length_map]; simp [ranks, hn]
  rw [madeCells_int n ls] at hmk
  have HW := Lib.hid (And.intro hW (And.intro hq (And.intro hls hlsn)))
  rw [hls]
  clear hW hq hls hlsn
  go_enter Try.func17, Try.ntmps17
  go_wp2_with fail
  go_step3
  go_wp2_with fail
  refine (line_any fs n hn A c w h hok hm W HW.out.1 q HW.out.2.1 hq32).mono ?_
  rintro e w1 ⟨A1, c1, rfl, hqc, hr1, hB1⟩
  obtain ⟨L, hL⟩ : ∃ L, w1.heap.size = L := ⟨_, rfl⟩
  have HL := Lib.hid hL
  obtain ⟨w2, hw2⟩ : ∃ w2, w1.alloc (.cells ((lostCells ls n 0).map (Value.int .i64)).toArray 3) = w2 := ⟨_, rfl⟩
  have hB2 := below_lits hw2
  have hLB : LBlk w2 L (lostCells ls n 0) := by rw [← hw2, ← hL]; exact World.alloc_heap_new _ _
  have HW2 := Lib.hid hw2
  have hF2 := (h.to hB1).to hB2
  clear hw2
  go_wp2_with fail
  go_step3
  go_wp2_with fail
  try rw [HW2.out]
  refine (sourcesOf_any fs n hn A c w2 hF2 hok hm).mono ?_
  rintro e w3 ⟨G, ss, rfl, hG, hS, hss, hso, hnew, hB3⟩
  have hLG : L < w2.heap.size := hLB.lt
  have hlen : ss.length = n := by
    have := congrArg List.length hss
    simpa [ranks, hn] using this
  have HF := Lib.hid (And.intro hlen (And.intro hso (And.intro hnew (And.intro hS hss))))
  clear hlen hso hnew hS hss
  have hL3 : LBlk w3 L (lostCells ls n 0) := (hB3.block L hLG).trans hLB
  go_wp2_with fail
  go_loopw [19] (fun i wr => ∃ (k : Nat), k ≤ n ∧ i = .int .i64 k ∧ LBlk wr L (lostCells ls n k) ∧ w3.grownBy wr (some L))
    (fun i _ => n - (intOf i).toNat)
  case atStart => exact ⟨0, Nat.zero_le _, rfl, hL3, ⟨rfl, rfl, rfl, Nat.le_refl _, fun _ _ _ => rfl⟩⟩
  case round =>
    obtain ⟨k, hk, rfl, hLk, hgr⟩ := hrel
    by_cases hlt : k < n
    · obtain ⟨s, hs⟩ : ∃ s, ss[k]? = some s := ⟨_, List.getElem?_eq_getElem (by rw [HF.out.1]; exact hlt)⟩
      have hmem := List.mem_of_getElem? hs
      have hne : s.ad.block ≠ L := by have := HF.out.2.2.1 s hmem; omega
      have hso := (HF.out.2.1 s hmem).far hgr hne
      have hGlt := HF.out.2.2.2.1.lt
      have hcell : wr.cell? ⟨G, k, none⟩ = some s.v := by
        have h0 : SBlk wr G (ss.map Src.v) := (hgr.block G hGlt (by simp; omega)).trans HF.out.2.2.2.1
        exact h0.cell (by rw [List.getElem?_map, hs]; rfl)
      have hline : Row .i64 wr L A1 W := by
        rw [hL] at hr1
        refine hr1.move fun p hp => ?_
        have hp1 : p.block < w1.heap.size := by omega
        exact World.cell?_of_block (((hgr.block p.block (by have := hB2.size; have := hB3.size; omega) (by simp; omega)).trans (hB3.block _ (by have := hB2.size; omega))).trans (hB2.block _ hp1))
      obtain ⟨x0, hx0, hfz⟩ := hLk.cell (k := k) (by simp [lostCells]; rw [HW.out.2.2.2]; omega)
      have hall := HW.out.1.all s.r (by rw [← HF.out.2.2.2.2]; exact List.mem_map.2 ⟨s, hmem, rfl⟩)
      have hlk : ls[k]? = some (lostOf W s.r) := by
        rw [← HW.out.2.2.1, ← HF.out.2.2.2.2]
        simp [hs]
      have hsm := hso.small
      have hrow := hso.row
      have hsl := hso.len
      obtain ⟨sa, sn, sc, sr⟩ := s
      simp only [Src.v] at hcell hsm hrow hsl hall hlk
      have HX := Lib.hid (And.intro hlk (And.intro hall hsl))
      have HLK := Lib.hid (And.intro hLk hgr)
      clear hlk hall hsl hso hs hmem hne hLk hgr
      go_wp2_with fail
      go_loop [26] (fun i => ∃ p : Nat, p ≤ q ∧ i = .int .i64 p ∧ W.take p = sr.take p) (fun i => q - (intOf i).toNat)
      case atStart => exact ⟨0, Nat.zero_le _, rfl, by simp⟩
      case round =>
        obtain ⟨p, hp, rfl, htk⟩ := hrel
        by_cases hlt2 : p < q
        · obtain ⟨ad, x, rfl, hx, hc⟩ := hline.get_ (k := p) (by rw [HW.out.2.1]; exact hlt2)
          have hb : p < sn := by
            rcases HX.out.2.1 with e | ⟨j, g1, g2, g3⟩
            · rw [← HX.out.2.2, e, HW.out.2.1]; exact hlt2
            · rcases Nat.lt_or_ge p sn with h' | h'
              · exact h'
              · exfalso
                have hj : j < p := by have := (List.getElem?_eq_some_iff.1 g3).1; rw [HX.out.2.2] at this; omega
                have := take_get htk hj
                rw [g2, g3] at this
                simp at this
          obtain ⟨y, hy⟩ : ∃ y, sr[p]? = some y := ⟨_, List.getElem?_eq_getElem (by rw [HX.out.2.2]; exact hb)⟩
          by_cases hyx : y = x
          · have hd : (y != x) = false := by simp [hyx]
            have hnext : W.take (p + 1) = sr.take (p + 1) := take_next htk (by rw [hx, hy, hyx])
            have HN := Lib.hid (And.intro hnext hy)
            clear hnext hy hyx hx htk
            go_wp2_with (go_at_call 46; refine (bit_yes sr sn HX.out.2.2 (some sa) sc _ p y HN.out.2 _ hrow (by omega)).mono ?_; rintro e w' ⟨rfl, rfl⟩)
            go_round
            case rel => exact ⟨p + 1, by omega, by go_num, HN.out.1⟩
            case measure => simp [intOf]; omega
          · have hd : (y != x) = true := by simp [hyx]
            have hlost : lostOf W sr = p := lostOf_diff htk hx hy (fun e => hyx e.symm)
            have HN := Lib.hid (And.intro hlost hy)
            clear hlost hy hyx hx htk
            go_wp2_with (go_at_call 46; refine (bit_yes sr sn HX.out.2.2 (some sa) sc _ p y HN.out.2 _ hrow (by omega)).mono ?_; rintro e w' ⟨rfl, rfl⟩)
            have hx1 := HX.out.1
            rw [HN.out.1] at hx1
            exact ⟨⟨k + 1, by omega, by go_num, HLK.out.1.step HW.out.2.2.2 hx1, HLK.out.2.trans (grown_setAt _ _ _ _)⟩, by simp [intOf]; omega⟩
        · obtain rfl : p = q := by omega
          have hlost : lostOf W sr = -1 := by
            have := stay_end HX.out.2.1 (by rw [HW.out.2.1]; exact decide_eq_true htk.symm)
            rw [this]
            exact lostOf_self W
          have HN := Lib.hid hlost
          clear hlost htk
          go_wp2_with fail
          have hx1 := HX.out.1
          rw [HN.out] at hx1
          exact ⟨⟨k + 1, by omega, by go_num, HLK.out.1.step HW.out.2.2.2 hx1, HLK.out.2.trans (grown_setAt _ _ _ _)⟩, by simp [intOf]; omega⟩
    · obtain rfl : k = n := by omega
      go_wp2_with fail
      first | go_ret | (rw [Exit.noGoto_ret]; go_ret)
      have e : lostCells ls k k = ls := by unfold lostCells; rw [List.take_of_length_le (Nat.le_of_eq HW.out.2.2.2)]; simp
      rw [e] at hLk
      refine ⟨_, rfl, hLk.row, ?_⟩
      have hB13 : Below w.heap.size w w3 := (below_then hB1 hB2).trans (hB3.mono (below_then hB1 hB2).size)
      exact below_of_grown' hB13 hgr (by rw [← hL]; exact hB1.size)

set_option maxRecDepth 100000 in
set_option maxHeartbeats 2000000 in
theorem win_any (fs : List FV) (n : Nat) (hn : fs.length = n) (A : Option Addr) (c : Nat) (w : World) (h : FRow w w.heap.size A fs) (hok : ∀ f ∈ fs, FOk f) (hm : n ≤ 100) (W : List Int) (hW : LeastE W (ranks fs)) (q : Nat) (hq : W.length = q) (hq32 : q ≤ 32) (z : Int) (hz : winOf W (ranks fs) = z) :
    Calls Try.prog 16 #[.slice A n c] w fun e w' => e = .returned (.int .i64 z) ∧ Below w.heap.size w w' := by
  obtain ⟨ls, hls⟩ : ∃ ls, (ranks fs).map (lostOf W) = ls := ⟨_, rfl⟩
  have hlsn : ls.length = n := by rw [← hls, List.length_map]; simp [ranks, hn]
  have hidx : idxI (-1) ls = z := by rw [← hz, winOf, hls]
  have HX := Lib.hid (And.intro hls (And.intro hlsn (And.intro hidx (And.intro hW hq))))
  clear hls hlsn hidx hz hW hq
  go_enter Try.func16, Try.ntmps16
  go_wp2_with fail
  refine (lost_any fs n hn A c w h hok hm W HX.out.2.2.2.1 q HX.out.2.2.2.2 hq32).mono ?_
  rw [HX.out.1]
  rintro e w1 ⟨A1, rfl, hr1, hB1⟩
  go_wp2_with fail
  refine (index_any ls (-1) n HX.out.2.1 A1 n _ w1 hr1 (by unfold maxLen; omega)).mono ?_
  rw [HX.out.2.2.1]
  rintro e w' ⟨rfl, rfl⟩
  go_wp2_with fail
  go_ret
  exact ⟨rfl, hB1⟩

end Go.Proofs.Ytajabpjphobabaa
