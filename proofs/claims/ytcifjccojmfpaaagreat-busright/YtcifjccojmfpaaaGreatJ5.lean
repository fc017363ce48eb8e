/-
  NpB · NpS · NpA · NpT · NpU · NpW · NpL · NCm · NqM · NqL · NqN.
-/
import Derived.Test.YtcifjccojmfpaaaGreatJ0
import Derived.Test.YtcifjccojmfpaaaGreatJ1
import Derived.Test.YtcifjccojmfpaaaGreatJ2
import Derived.Test.YtcifjccojmfpaaaGreatJ3
import Derived.Test.YtcifjccojmfpaaaGreatJ4
set_option maxRecDepth 100000
set_option maxHeartbeats 4000000
namespace Go.Proofs.YtcifjccojmfpaaaGreat
open Go.RowKit
set_option linter.unusedVariables false
set_option linter.unusedSimpArgs false
theorem Tryz.infoBool10 : (Tryz.prog.info? 4).map (fun i => (i.zero, i.size, i.bytes)) = some (some (.bool false), 1, 1) := by kernel_rfl
theorem Tryz.makeB (n : Nat) (hn : n ≤ 1000) (w : World) : (Instr.makeSlice 74 (.int .i64 n) (.int .i64 n)).run Tryz.prog w = .ok (.slice (some ⟨w.heap.size, 0, none⟩) n n) (w.alloc (.cells (Array.replicate n (.bool false)) 4)) := by
  have h := run_make_row' (P := Tryz.prog) 74 4 (.bool false) 1 Tryz.underlying74 Tryz.infoBool10 rfl .i64 .i64 n (by omega) (by omega) w
  have e : madeCells #[Value.bool false] n = Array.replicate n (Value.bool false) := by rw [madeCells_bool]; simp
  rw [e] at h
  exact h
theorem bblk_made {w : World} {L n : Nat} (h : w.heap[L]? = some (.cells (Array.replicate n (.bool false)) 4)) : BBlk w L (List.replicate n false) := by
  unfold BBlk
  rw [h]; simp
theorem cell_gr {w w' : World} {p : Addr} {v : Value} {X : Nat} (h : w.cell? p = some v) (g : w.grownBy w' (some X)) (hX : p.block ≠ X) : w'.cell? p = some v :=
  (World.cell?_of_block (g.block _ (World.block_lt_of_cell? _ _ h) (by simpa using hX))).trans h
theorem fat_gr10 {w w' : World} {a : Addr} {f : FV} {X : Nat} (h : FAt w a f) (g : w.grownBy w' (some X)) (hX : a.block ≠ X) : FAt w' a f := by
  obtain ⟨h0, h1, h2, h3, h4⟩ := h
  exact ⟨cell_gr h0 g hX, cell_gr h1 g hX, cell_gr h2 g hX, cell_gr h3 g hX, cell_gr h4 g hX⟩
theorem frSame_c {w : World} {P P' : Nat → Prop} {f g : FV} {F G : FC} (h : FIs w P f F) (h' : FIs w P' g G) (q : Bool) (hq : sameF F G = q) : Calls Tryz.prog 68 #[f.v, g.v] w fun e w' => e = .returned (.bool q) ∧ Below w.heap.size w w' :=
  frSame_at f.x f.i f.r f.n F.d f.m h.len f.a f.c g.x g.i g.r g.n G.d g.m h'.len g.a g.c w h.row h'.row h.byte h'.byte q (by
    rw [← hq, h.x, h.i, h.r, h.n, h'.x, h'.i, h'.r, h'.n]
    unfold sameV sameF
    exact decide_eq_decide.2 fc_ext.symm)
theorem set2_objK {w : World} {F : Nat} {a b c d e f g i j k : Value} {t : TypeId} (h : w.heap[F]? = some (.cells #[a, b, c, d, e, f, g, i, j, k] t)) (c' : Value) :
    (w.setCell ⟨F, 2, none⟩ c').heap[F]? = some (.cells #[a, b, c', d, e, f, g, i, j, k] t) := by
  simp [World.setCell, Array.getElem?_modify, h]
theorem set9_objK {w : World} {F : Nat} {a b c d e f g i j k : Value} {t : TypeId} (h : w.heap[F]? = some (.cells #[a, b, c, d, e, f, g, i, j, k] t)) (k' : Value) :
    (w.setCell ⟨F, 9, none⟩ k').heap[F]? = some (.cells #[a, b, c, d, e, f, g, i, j, k'] t) := by
  simp [World.setCell, Array.getElem?_modify, h]
def set37 (w : World) (F : Nat) (d e f g i : Value) : World := ((((w.setCell ⟨F, 3, none⟩ d).setCell ⟨F, 4, none⟩ e).setCell ⟨F, 5, none⟩ f).setCell ⟨F, 6, none⟩ g).setCell ⟨F, 7, none⟩ i
theorem set37_obj {w : World} {F : Nat} {a b c d e f g i j k : Value} {t : TypeId} (h : w.heap[F]? = some (.cells #[a, b, c, d, e, f, g, i, j, k] t)) (d' e' f' g' i' : Value) :
    (set37 w F d' e' f' g' i').heap[F]? = some (.cells #[a, b, c, d', e', f', g', i', j, k] t) := by
  simp [set37, World.setCell, Array.getElem?_modify, h]
theorem set37_grown (w : World) (F : Nat) (d e f g i : Value) : w.grownBy (set37 w F d e f g i) (some F) :=
  ((((grown_setAt w F 3 d).trans (grown_setAt _ F 4 e)).trans (grown_setAt _ F 5 f)).trans (grown_setAt _ F 6 g)).trans (grown_setAt _ F 7 i)
theorem fresh_ne {B X : Nat} {A : Option Addr} (h : fresh B A) (hX : X < B) {ad : Addr} (e : A = some ad) : ad.block ≠ X := by have := h ad e; omega
theorem add_block {a : Addr} {k X : Nat} (h : a.block ≠ X) : (a.add k).block ≠ X := by rw [addr_block]; exact h
theorem rankNew_c {w : World} {P : Nat → Prop} {f : FV} {F : FC} (h : FIs w P f F) (hok : okC F) (n : Nat) (hn : (rankC F).length = n) : Calls Tryz.prog 66 #[f.v] w fun e w' => ∃ A c', e = .returned (.slice A n c') ∧ Row .i64 w' w'.heap.size A (rankC F) ∧ n ≤ c' ∧ fresh w.heap.size A ∧ Below w.heap.size w w' :=
  (rankF_at f (fok_of h hok) n (by rw [rankF_eq h]; exact hn) w).mono (by
    rintro e w' ⟨ad, c', h1, h2, h3, h4, h5⟩
    exact ⟨some ad, c', h1, by rw [← rankF_eq h]; exact h2, h3, fun a e => by obtain rfl := Option.some.inj e; exact h5, h4⟩)
theorem begin_c {w : World} {P : Nat → Prop} {A : Option Addr} {n c : Nat} {Ns : List NC} {wa : Option Addr} {wn wcp : Nat} {H : List Int} (h : NSl w P A n c Ns) (hok : OkNs Ns) (h1 : 1 ≤ n) (hm : n ≤ 8) (hH : Row .i64 w w.heap.size wa H) (hHl : H.length = wn) (hwm : wn ≤ 1000) (hP : ∀ b, w.heap.size ≤ b → P b) :
    Calls Tryz.prog 40 #[.slice A n c, .agg #[.slice wa wn wcp]] w fun e w' => ∃ k : KV, e = .returned k.v ∧ KIs w' P k Ns H (winF Ns) (alongs Ns) ∧ k.w = winN Ns ∧ k.la = A ∧ k.lm = n ∧ k.lc = c ∧ (0 ≤ winN Ns → k.d = hitN Ns H) ∧ Below w.heap.size w w' := by
  have Hok := Lib.hid hok
  have Hl := Lib.hid h.len
  have HHl := Lib.hid hHl
  have hmk := Tryz.makeB n (by omega)
  clear hok hHl
  obtain ⟨w0, hw0⟩ : ∃ w0, ((w.alloc (.cells #[.slice wa wn wcp] 41)).alloc (.cells #[.slice none 0 0, .slice none 0 0, .int .i64 0, .bool false, .int .i64 0, .bool false, .int .i64 0, .slice none 0 0, .slice none 0 0, .bool false] 76)) = w0 := ⟨_, rfl⟩
  have hT0 : Below w.heap.size w w0 := by rw [← hw0]; exact below_then (below_alloc1 _ _) (below_alloc1 _ _)
  have hh0 : w0.heap[w.heap.size]? = some (.cells #[.slice wa wn wcp] 41) := by rw [← hw0]; exact block_below (below_alloc1 _ _) (World.alloc_heap_new _ _)
  have hr0 : w0.heap[(w.heap.size + 1)]? = some (.cells #[.slice none 0 0, .slice none 0 0, .int .i64 0, .bool false, .int .i64 0, .bool false, .int .i64 0, .slice none 0 0, .slice none 0 0, .bool false] 76) := by rw [← hw0]; exact alloc_at _ _ (by simp)
  have hs0 : w0.heap.size = w.heap.size + 2 := by rw [← hw0]; simp
  have Hs0 := Lib.hid hs0
  clear hs0
  have hc0 := cells1' hh0
  obtain ⟨rc0, rc1, rc2, rc3, rc4, rc5, rc6, rc7, rc8, rc9⟩ := cellsK' hr0
  go_enter Tryz.func40, Tryz.ntmps40
  go_upto_region 1 with fail
  clear hc0 rc0 rc1 rc2 rc3 rc4 rc5 rc6 rc7 rc8 rc9
  clear hw0
  have hZ0 := Below.refl w0.heap.size w0
  go_cut [5] from 12 to 18 (fun p wc => ∃ (X L : Nat), p = .pointer (some ⟨X, 0, none⟩) ∧ X ≠ L ∧ w0.heap.size ≤ X ∧ w0.heap.size ≤ L ∧ X < wc.heap.size ∧ wc.heap[X]? = some (.cells #[.slice A n c, .slice wa wn wcp, .int .i64 (-1), .bool false, .int .i64 0, .bool false, .int .i64 0, .slice none 0 0, .slice (some ⟨L, 0, none⟩) n n, .bool false] 76) ∧ BBlk wc L (List.replicate n false) ∧ Below w0.heap.size w0 wc)
  case first =>
    refine wp_region_held_drew (S := fun W => W.cell? ⟨w.heap.size, 0, none⟩ = some (.slice wa wn wcp)) (by kernel_rfl) (by exact cells1' (block_below (below_drew1 _) hh0)) (fun hHeld_ => ?_)
    refine wpAnyH_take' (i := 0) (v := ?v0_0_) 12 rfl rfl (by kernel_rfl) (by kernel_rfl) (by kernel_rfl) (fun _ _ _ h => h) (Or.inl ⟨by kernel_rfl, ?hy0_0_⟩) (by assumption) ?rest0_0_
    case hy0_0_ => (intro W_ hS_; (try dsimp only at hS_); go_simp; (try (with_reducible rfl)))
    try simp only [Act.put, siA, scZ, scS]
    refine wpAnyH_take' (i := 1) (v := ?v1_0_) 13 rfl rfl (by kernel_rfl) (by kernel_rfl) (by kernel_rfl) (fun _ _ _ h => h) (Or.inl ⟨by kernel_rfl, ?hy1_0_⟩) (by assumption) ?rest1_0_
    case hy1_0_ => (intro W_ hS_; (try dsimp only at hS_); go_simp; (try (with_reducible rfl)))
    try simp only [Act.put, siA, scZ, scS]
    refine wpAnyH_take' (i := 2) (v := ?v2_0_) 14 rfl rfl (by kernel_rfl) (by kernel_rfl) (by kernel_rfl) (fun _ _ _ h => h) (Or.inl ⟨by kernel_rfl, ?hy2_0_⟩) (by assumption) ?rest2_0_
    case hy2_0_ => (intro W_ hS_; (try dsimp only at hS_); go_simp; (try (with_reducible rfl)))
    try simp only [Act.put, siA, scZ, scS]
    refine wpAnyH_take' (i := 3) (v := ?v3_0_) 15 rfl rfl (by kernel_rfl) (by kernel_rfl) (by kernel_rfl) (fun _ _ _ h => h) (Or.inl ⟨by kernel_rfl, ?hy3_0_⟩) (by assumption) ?rest3_0_
    case hy3_0_ => (intro W_ hS_; (try dsimp only at hS_); go_simp; (try (with_reducible rfl)))
    try simp only [Act.put, siA, scZ, scS]
    refine wpAnyH_take' (i := 4) (v := ?v4_0_) 16 rfl rfl (by kernel_rfl) (by kernel_rfl) (by kernel_rfl) (fun _ _ _ h => h) (Or.inl ⟨by kernel_rfl, ?hy4_0_⟩) (by assumption) ?rest4_0_
    case hy4_0_ => (intro W_ hS_; (try dsimp only at hS_); go_simp; (try (with_reducible rfl)))
    try simp only [Act.put, siA, scZ, scS]
    refine wpAnyH_ready (rs := [5, 7]) (by kernel_rfl) (by simp) ?_
    refine (AllReadyH.cons rfl (fun K_ hK_ => ?_) (AllReadyH.cons rfl (fun K_ hK_ => ?_) AllReadyH.nil))
    · go_simp
      go_wp2_with fail
      refine hK_.out _ _ (by exact cells1' (block_below (below_then (below_alloc1 _ _) (below_drew1 _)) hh0)) (fun hHeld_5_0 => ?_)
      clear hK_
      try simp only [Act.put, siA, scZ, scS]
      refine wpAnyH_take' (i := 6) (v := ?v6_1_5) 18 rfl rfl (by kernel_rfl) (by kernel_rfl) (by kernel_rfl) (fun _ _ _ h => h) (Or.inl ⟨by kernel_rfl, ?hy6_1_5⟩) (by assumption) ?rest6_1_5
      case hy6_1_5 => (intro W_ hS_; (try dsimp only at hS_); go_simp; (try (with_reducible rfl)))
      try simp only [Act.put, siA, scZ, scS]
      refine wpAnyH_ready (rs := [7]) (by kernel_rfl) (by simp) ?_
      refine (AllReadyH.cons rfl (fun K_ hK_ => ?_) AllReadyH.nil)
      go_simp
      have hX57_ : True := trivial
      have hL57 : BBlk ((w0.alloc (.cells (Array.replicate n (.bool false)) 4)).alloc (.cells #[.slice none 0 0, .slice none 0 0, .int .i64 0, .bool false, .int .i64 0, .bool false, .int .i64 0, .slice none 0 0, .slice none 0 0, .bool false] 76)).drew w0.heap.size (List.replicate n false) := bblk_made (block_below (below_then (below_alloc1 _ _) (below_drew1 _)) (World.alloc_heap_new w0 (.cells (Array.replicate n (.bool false)) 4)))
      go_wp2_with fail
      refine hK_.out _ _ (by exact cells1' (block_below (below_then (below_then (below_alloc1 _ _) (below_alloc1 _ _)) (below_drew1 _)) hh0)) (fun hHeld_7_1 => ?_)
      clear hK_
      try simp only [Act.put, siA, scZ, scS]
      refine wpAnyH_ready (rs := [8]) (by kernel_rfl) (by simp) ?_
      refine (AllReadyH.cons rfl (fun K_ hK_ => ?_) AllReadyH.nil)
      go_simp
      go_wp2_with fail
      refine hK_.out _ _ (by exact cells1' (block_below (below_then (below_then (below_alloc1 _ _) (below_alloc1 _ _)) (below_drew1 _)) hh0)) (fun hHeld_8_2 => ?_)
      clear hK_
      try simp only [Act.put, siA, scZ, scS]
      refine wpAnyH_done (by kernel_rfl) ?_ _
      go_wp2_with fail
      go_meet
      exact ⟨(w0.heap.size + 1), w0.heap.size, rfl, by omega, by omega, by omega, by simp; (try omega), alloc_at _ _ (by simp), bblk_made (block_below (below_then (below_alloc1 _ _) (below_drew1 _)) (World.alloc_heap_new w0 (.cells (Array.replicate n (.bool false)) 4))), (below_then (below_then (below_alloc1 _ _) (below_alloc1 _ _)) (below_drew1 _))⟩
    · go_simp
      have hX7 : (w0.alloc (.cells #[.slice none 0 0, .slice none 0 0, .int .i64 0, .bool false, .int .i64 0, .bool false, .int .i64 0, .slice none 0 0, .slice none 0 0, .bool false] 76)).drew.heap[w0.heap.size]? = some (.cells #[.slice none 0 0, .slice none 0 0, .int .i64 0, .bool false, .int .i64 0, .bool false, .int .i64 0, .slice none 0 0, .slice none 0 0, .bool false] 76) := World.alloc_heap_new _ _
      go_wp2_with fail
      refine hK_.out _ _ (by exact cells1' (block_below (below_then (below_alloc1 _ _) (below_drew1 _)) hh0)) (fun hHeld_7_0 => ?_)
      clear hK_
      try simp only [Act.put, siA, scZ, scS]
      refine wpAnyH_ready (rs := [5]) (by kernel_rfl) (by simp) ?_
      refine (AllReadyH.cons rfl (fun K_ hK_ => ?_) AllReadyH.nil)
      go_simp
      have hX75 : ((w0.alloc (.cells #[.slice none 0 0, .slice none 0 0, .int .i64 0, .bool false, .int .i64 0, .bool false, .int .i64 0, .slice none 0 0, .slice none 0 0, .bool false] 76)).alloc (.cells (Array.replicate n (.bool false)) 4)).drew.heap[w0.heap.size]? = some (.cells #[.slice none 0 0, .slice none 0 0, .int .i64 0, .bool false, .int .i64 0, .bool false, .int .i64 0, .slice none 0 0, .slice none 0 0, .bool false] 76) := block_below (below_then (below_alloc1 _ _) (below_drew1 _)) (World.alloc_heap_new w0 (.cells #[.slice none 0 0, .slice none 0 0, .int .i64 0, .bool false, .int .i64 0, .bool false, .int .i64 0, .slice none 0 0, .slice none 0 0, .bool false] 76))
      have hL75 : BBlk ((w0.alloc (.cells #[.slice none 0 0, .slice none 0 0, .int .i64 0, .bool false, .int .i64 0, .bool false, .int .i64 0, .slice none 0 0, .slice none 0 0, .bool false] 76)).alloc (.cells (Array.replicate n (.bool false)) 4)).drew (w0.heap.size + 1) (List.replicate n false) := bblk_made (alloc_at _ _ (by simp))
      go_wp2_with fail
      refine hK_.out _ _ (by exact cells1' (block_below (below_then (below_then (below_alloc1 _ _) (below_alloc1 _ _)) (below_drew1 _)) hh0)) (fun hHeld_5_1 => ?_)
      clear hK_
      try simp only [Act.put, siA, scZ, scS]
      refine wpAnyH_take' (i := 6) (v := ?v6_2_7_5) 18 rfl rfl (by kernel_rfl) (by kernel_rfl) (by kernel_rfl) (fun _ _ _ h => h) (Or.inl ⟨by kernel_rfl, ?hy6_2_7_5⟩) (by assumption) ?rest6_2_7_5
      case hy6_2_7_5 => (intro W_ hS_; (try dsimp only at hS_); go_simp; (try (with_reducible rfl)))
      try simp only [Act.put, siA, scZ, scS]
      refine wpAnyH_ready (rs := [8]) (by kernel_rfl) (by simp) ?_
      refine (AllReadyH.cons rfl (fun K_ hK_ => ?_) AllReadyH.nil)
      go_simp
      go_wp2_with fail
      refine hK_.out _ _ (by exact cells1' (block_below (below_then (below_then (below_alloc1 _ _) (below_alloc1 _ _)) (below_drew1 _)) hh0)) (fun hHeld_8_2 => ?_)
      clear hK_
      try simp only [Act.put, siA, scZ, scS]
      refine wpAnyH_done (by kernel_rfl) ?_ _
      go_wp2_with fail
      go_meet
      exact ⟨w0.heap.size, (w0.heap.size + 1), rfl, by omega, by omega, by omega, by simp; (try omega), block_below (below_then (below_alloc1 _ _) (below_drew1 _)) (World.alloc_heap_new w0 _), bblk_made (alloc_at _ _ (by simp)), (below_then (below_then (below_alloc1 _ _) (below_alloc1 _ _)) (below_drew1 _))⟩
  case rest =>
    obtain ⟨X, L, rfl, hXL, hX0, hL0, hXlt, hx_, hL_, hB1⟩ := hcut
    obtain ⟨w1, e_⟩ : ∃ w_, w_ = wc := ⟨_, rfl⟩
    subst e_
    have hXr : X ≠ w.heap.size + 1 := by have h_ := Hs0.out; omega
    have hLr : L ≠ w.heap.size + 1 := by have h_ := Hs0.out; omega
    have hgex : w.heap.size ≤ X := by have h_ := Hs0.out; omega
    have hgeL : w.heap.size ≤ L := by have h_ := Hs0.out; omega
    have hLlt : L < w1.heap.size := hL_.lt
    have HX := Lib.hid (And.intro hXL (And.intro hXr hLr))
    clear hX0 hL0 hXL hXr hLr
    clear hh0
    clear hZ0
    have hT1 := below_then hT0 hB1
    have hr1 := block_below hB1 hr0
    clear hT0 hr0  hB1
    have hx1 := hx_
    have hL1 := hL_
    clear hx_ hL_
    obtain ⟨m, hm_⟩ : ∃ m, (offN Ns).length = m := ⟨_, rfl⟩
    have Hm := Lib.hid hm_
    have hm8 : m ≤ 8 := by rw [← hm_]; have h_ := off_le Ns Ns.length; rw [Hl.out] at h_; unfold offN; rw [Hl.out]; omega
    clear hm_
    go_wp2_with fail
    refine (offers_c (P := PLo P w.heap.size) ((h.mono plo_up).to hT1) Hok.out hm m Hm.out).mono ?_
    rintro e w2 ⟨A1, A2, c1, c2, fs, rfl, hR_, hfl, hc1, hS_, hI_, hc2, hf1, hf2, hB2⟩
    have hT2 := below_then hT1 hB2
    have hr2 := block_below hB2 hr1
    have hx2 := block_below hB2 hx1
    have hL2 := BBlk.to hL1 hB2
    clear hT1 hr1 hx1 hL1 hB2
    have hR2 := hR_
    have hS2 := FsIs.mono hS_ (fun _ _ h_ => h_.1)
    have hI2 := hI_
    clear hR_ hS_ hI_
    obtain ⟨z, hz⟩ : ∃ q, winPos Ns = q := ⟨_, rfl⟩
    have Hz := Lib.hid hz
    clear hz
    go_wp2_with fail
    refine (win_c hR2 hfl (by omega) hS2 Hok.out z Hz.out).mono ?_
    rintro e w3 ⟨rfl, hB3⟩
    have hT3 := below_then hT2 hB3
    have hr3 := block_below hB3 hr2
    have hx3 := block_below hB3 hx2
    have hL3 := BBlk.to hL2 hB3
    have hR3 := FRow.to hR2 hB3
    have hS3 := FsIs.to hS2 hB3
    have hI3 := Row.to hI2 hB3
    clear hT2 hr2 hx2 hL2 hR2 hS2 hI2 hB3
    by_cases hneg : winN Ns < 0
    · skip
      obtain rfl : -1 = z := by rw [← Hz.out]; unfold winPos; rw [if_pos hneg]
      have hwm1 : winN Ns = -1 := by have h_ := winTo_ge Ns Ns.length; unfold winN at *; omega
      have Hwm1 := Lib.hid hwm1
      have Hneg := Lib.hid hneg
      clear hwm1 hneg
      obtain ⟨⟨rc0, rc1, rc2, rc3, rc4, rc5, rc6, rc7, rc8, rc9⟩, rf0, rf1, rf2, rf3, rf4, rf5, rf6, rf7, rf8, rf9⟩ := cellsK hr3
      obtain ⟨xc0, xc1, xc2, xc3, xc4, xc5, xc6, xc7, xc8, xc9⟩ := cellsK' hx3
      go_wp2_with fail
      clear rc0 rc1 rc2 rc3 rc4 rc5 rc6 rc7 rc8 rc9 rf0 rf1 rf2 rf3 rf4 rf5 rf6 rf7 rf8 rf9 xc0 xc1 xc2 xc3 xc4 xc5 xc6 xc7 xc8 xc9
      exact bodyPost_ret (v := KV.v ⟨A, n, c, wa, wn, wcp, -1, zeroFV, some ⟨L, 0, none⟩, n, n, false⟩) (results_k (n := ⟨A, n, c, wa, wn, wcp, -1, zeroFV, some ⟨L, 0, none⟩, n, n, false⟩) rfl _ rfl (set10_obj hr3 _ _ _ _ _ _ _ _ _ _)) rfl ⟨⟨A, n, c, wa, wn, wcp, -1, zeroFV, some ⟨L, 0, none⟩, n, n, false⟩, rfl, ⟨h.to (below_g hT3 (set10_grown _ _ _ _ _ _ _ _ _ _ _ _) (by omega)), hH.to (below_g hT3 (set10_grown _ _ _ _ _ _ _ _ _ _ _ _) (by omega)), HHl.out, hwm, by rw [winF_none Hneg.out]; exact fis_zero, ⟨L, rfl, by rw [alongs_none Hneg.out, Hl.out]; exact BBlk.grow hL3 (set10_grown _ _ _ _ _ _ _ _ _ _ _ _) HX.out.2.2⟩, by rw [alongs_len, Hl.out]⟩, Hwm1.out.symm, rfl, rfl, rfl, fun h_ => absurd h_ (by have := Hneg.out; omega), below_g hT3 (set10_grown _ _ _ _ _ _ _ _ _ _ _ _) (by omega)⟩
    obtain ⟨a, i, hwa, han, hpi, hoi, hah, hwf⟩ := winPos_at (show 0 ≤ winN Ns by omega)
    obtain rfl : (i : Int) = z := by rw [← Hz.out, hpi]
    have hil : i < m := by rw [← Hm.out]; exact (List.getElem?_eq_some_iff.1 hoi).1
    have han2 : a < n := by rw [← Hl.out]; exact han
    have Hw0 := Lib.hid (show 0 ≤ winN Ns by omega)
    have HFr := Lib.hid (winF_right Hok.out (show 0 ≤ winN Ns by omega))
    have Hwa := Lib.hid hwa
    obtain ⟨F, hF_⟩ : ∃ F, winF Ns = F := ⟨_, rfl⟩
    rw [hF_] at HFr
    have HF := Lib.hid hF_
    obtain ⟨ad1, f, ea1, hfi, hfa3⟩ := FRow.get_ hR3 (k := i) (by rw [hfl]; exact hil)
    obtain ⟨ad2, y, ea2, hyi, hci3⟩ := Row.get_ hI3 (k := i) (by rw [show (offI (offN Ns)).length = m by unfold offI; rw [List.length_map]; exact Hm.out]; exact hil)
    obtain rfl : (a : Int) = y := by have h_ := hyi; unfold offI at h_; rw [List.getElem?_map, hoi] at h_; exact Option.some.inj h_
    have hf3 : FIs w3 (PLo P w.heap.size) f F := by refine hS3.2 i f F hfi ?_; unfold offF; rw [List.getElem?_map, hoi, ← hF_, hwf]; rfl
    have hne1 : (ad1.add (i * 5)).block ≠ X := add_block (fresh_ne hf1 hXlt ea1)
    have hne2 : (ad2.add i).block ≠ X := add_block (fresh_ne hf2 hXlt ea2)
    subst ea1 ea2
    have hne := Lib.hid (And.intro hne1 hne2)
    clear hne1 hne2 hneg hwa hpi hoi hah hwf hF_ hyi hfi
    have j1 : ¬ (i : Int) < 0 := by omega
    have j2 : (i : Int) < (m : Int) := by omega
    go_wp2_with fail
    refine wp_region_held_drew (S := fun W => (W.cell? (ad2.add i) = some (.int .i64 (a : Int))) ∧ (W.cell? (ad1.add (i * 5)) = some (.bool f.x) ∧ W.cell? ⟨(ad1.add (i * 5)).block, (ad1.add (i * 5)).off + 1, none⟩ = some (.int .i64 f.i) ∧ W.cell? ⟨(ad1.add (i * 5)).block, (ad1.add (i * 5)).off + 2, none⟩ = some (.bool f.r) ∧ W.cell? ⟨(ad1.add (i * 5)).block, (ad1.add (i * 5)).off + 3, none⟩ = some (.int .i64 f.n) ∧ W.cell? ⟨(ad1.add (i * 5)).block, (ad1.add (i * 5)).off + 4, none⟩ = some (.slice f.a f.m f.c))) (by kernel_rfl) (by exact ⟨cell_to10 hci3 (below_drew1 _), fat_to hfa3 (below_drew1 _)⟩) (fun hHeld_ => ?_)
    refine wpAnyH_take' (i := 0) (v := ?v0_b6) 29 rfl rfl (by kernel_rfl) (by kernel_rfl) (by kernel_rfl) (fun _ _ _ h => h) (Or.inl ⟨by kernel_rfl, ?hy0_b6⟩) (by assumption) ?rest0_b6
    case hy0_b6 => (intro W_ hS_; (try dsimp only at hS_); go_simp; (try (with_reducible rfl)))
    try simp only [Act.put, siA, scZ, scS]
    refine wpAnyH_take' (i := 1) (v := ?v1_b6) 30 rfl rfl (by kernel_rfl) (by kernel_rfl) (by kernel_rfl) (fun _ _ _ h => h) (Or.inl ⟨by kernel_rfl, ?hy1_b6⟩) (by assumption) ?rest1_b6
    case hy1_b6 => (intro W_ hS_; (try dsimp only at hS_); go_simp; (try (with_reducible rfl)))
    try simp only [Act.put, siA, scZ, scS]
    refine wpAnyH_take' (i := 2) (v := ?v2_b6) 31 rfl rfl (by kernel_rfl) (by kernel_rfl) (by kernel_rfl) (fun _ _ _ h => h) (Or.inl ⟨by kernel_rfl, ?hy2_b6⟩) (by assumption) ?rest2_b6
    case hy2_b6 => (intro W_ hS_; (try dsimp only at hS_); go_simp; (try (with_reducible rfl)))
    try simp only [Act.put, siA, scZ, scS]
    refine wpAnyH_take' (i := 3) (v := ?v3_b6) 32 rfl rfl (by kernel_rfl) (by kernel_rfl) (by kernel_rfl) (fun _ _ _ h => h) (Or.inl ⟨by kernel_rfl, ?hy3_b6⟩) (by assumption) ?rest3_b6
    case hy3_b6 => (intro W_ hS_; (try dsimp only at hS_); go_simp; (try (with_reducible rfl)))
    try simp only [Act.put, siA, scZ, scS]
    refine wpAnyH_take' (i := 4) (v := ?v4_b6) 33 rfl rfl (by kernel_rfl) (by kernel_rfl) (by kernel_rfl) (fun _ _ _ h => h) (Or.inl ⟨by kernel_rfl, ?hy4_b6⟩) (by assumption) ?rest4_b6
    case hy4_b6 => (intro W_ hS_; (try dsimp only at hS_); go_simp; (try (with_reducible rfl)))
    try simp only [Act.put, siA, scZ, scS]
    refine wpAnyH_take' (i := 5) (v := ?v5_b6) 34 rfl rfl (by kernel_rfl) (by kernel_rfl) (by kernel_rfl) (fun _ _ _ h => h) (Or.inl ⟨by kernel_rfl, ?hy5_b6⟩) (by assumption) ?rest5_b6
    case hy5_b6 => (intro W_ hS_; (try dsimp only at hS_); go_simp; (try (with_reducible rfl)))
    try simp only [Act.put, siA, scZ, scS]
    refine wpAnyH_take' (i := 6) (v := ?v6_b6) 35 rfl rfl (by kernel_rfl) (by kernel_rfl) (by kernel_rfl) (fun _ _ _ h => h) (Or.inl ⟨by kernel_rfl, ?hy6_b6⟩) (by assumption) ?rest6_b6
    case hy6_b6 => (intro W_ hS_; (try dsimp only at hS_); go_simp; (try (with_reducible rfl)))
    try simp only [Act.put, siA, scZ, scS]
    refine wpAnyH_take' (i := 7) (v := ?v7_b6) 36 rfl rfl (by kernel_rfl) (by kernel_rfl) (by kernel_rfl) (fun _ _ _ h => h) (Or.inl ⟨by kernel_rfl, ?hy7_b6⟩) (by assumption) ?rest7_b6
    case hy7_b6 => (intro W_ hS_; (try dsimp only at hS_); go_simp; (try (with_reducible rfl)))
    try simp only [Act.put, siA, scZ, scS]
    refine wpAnyH_take' (i := 8) (v := ?v8_b6) 37 rfl rfl (by kernel_rfl) (by kernel_rfl) (by kernel_rfl) (fun _ _ _ h => h) (Or.inl ⟨by kernel_rfl, ?hy8_b6⟩) (by assumption) ?rest8_b6
    case hy8_b6 => (intro W_ hS_; (try dsimp only at hS_); go_simp; (try (with_reducible rfl)))
    try simp only [Act.put, siA, scZ, scS]
    refine wpAnyH_ready (rs := [9]) (by kernel_rfl) (by simp) ?_
    refine AllReadyH.cons rfl (fun K_ hK_ => ?_) AllReadyH.nil
    obtain ⟨⟨z0, z1, z2, z3, z4, z5, z6, z7, z8, z9⟩, y0, y1, y2, y3, y4, y5, y6, y7, y8, y9⟩ := cellsK (block_below (below_drew1 _) hx3); go_simp; go_wp2_with fail; clear z0 z1 z2 z3 z4 z5 z6 z7 z8 z9 y0 y1 y2 y3 y4 y5 y6 y7 y8 y9
    refine hK_.out _ _ (by exact ⟨cell_gr (cell_to10 hci3 (below_drew1 _)) (grown_setAt _ X 2 _) hne.out.2, fat_gr10 (fat_to hfa3 (below_drew1 _)) (grown_setAt _ X 2 _) hne.out.1⟩) (fun hHeld_9 => ?_)
    obtain ⟨wA, hwA⟩ : ∃ w_, (w3.setCell ⟨X, 2, none⟩ (.int .i64 (a : Int))).drew = w_ := ⟨_, rfl⟩
    have hwA2 : w3.drew.setCell ⟨X, 2, none⟩ (.int .i64 (a : Int)) = wA := hwA
    have hGA : w3.drew.grownBy wA (some X) := by rw [← hwA2]; exact grown_setAt _ _ _ _
    have hTA := below_g (below_then hT3 (below_drew1 _)) hGA hgex
    have hxA : wA.heap[X]? = some (.cells #[.slice A n c, .slice wa wn wcp, .int .i64 (a : Int), .bool false, .int .i64 0, .bool false, .int .i64 0, .slice none 0 0, .slice (some ⟨L, 0, none⟩) n n, .bool false] 76) := by rw [← hwA2]; exact set2_objK (block_below (below_drew1 _) hx3) _
    have hrA := other_g hGA (block_below (below_drew1 _) hr3) (Ne.symm HX.out.2.1)
    have hLA := BBlk.grow (hL3.to (below_drew1 _)) hGA (Ne.symm HX.out.1)
    have hRA := frow_grow (hR3.to (below_drew1 _)) hGA (fun _ ad e => fresh_ne hf1 hXlt e)
    have hSA := FsIs.grow (hS3.to (below_drew1 _)) hGA (plo_not hgex)
    have hIA := row_grow (hI3.to (below_drew1 _)) hGA (fun _ ad e => fresh_ne hf2 hXlt e)
    have hciA := cell_gr (cell_to10 hci3 (below_drew1 _)) hGA hne.out.2
    have hfaA := fat_gr10 (fat_to hfa3 (below_drew1 _)) hGA hne.out.1
    have hfA := FIs.grow (hf3.to (below_drew1 _)) hGA (plo_not hgex)
    rw [hwA] at hHeld_9 ⊢
    clear hwA hwA2 hGA hT3 hx3 hr3 hL3 hR3 hS3 hI3 hci3 hfa3 hf3
    clear hK_
    try simp only [Act.put, siA, scZ, scS]
    refine wpAnyH_take' (i := 10) (v := ?v10_b6) 38 rfl rfl (by kernel_rfl) (by kernel_rfl) (by kernel_rfl) (fun _ _ _ h => h) (Or.inl ⟨by kernel_rfl, ?hy10_b6⟩) (by assumption) ?rest10_b6
    case hy10_b6 => (intro W_ hS_; (try dsimp only at hS_); go_simp; (try (with_reducible rfl)))
    try simp only [Act.put, siA, scZ, scS]
    refine wpAnyH_ready (rs := [11]) (by kernel_rfl) (by simp) ?_
    refine AllReadyH.cons rfl (fun K_ hK_ => ?_) AllReadyH.nil
    obtain ⟨⟨z0, z1, z2, z3, z4, z5, z6, z7, z8, z9⟩, y0, y1, y2, y3, y4, y5, y6, y7, y8, y9⟩ := cellsK hxA; go_simp; go_wp2_with fail; clear z0 z1 z2 z3 z4 z5 z6 z7 z8 z9 y0 y1 y2 y3 y4 y5 y6 y7 y8 y9
    refine hK_.out _ _ (by exact ⟨cell_gr hciA (set37_grown _ X _ _ _ _ _) hne.out.2, fat_gr10 hfaA (set37_grown _ X _ _ _ _ _) hne.out.1⟩) (fun hHeld_11 => ?_)
    clear hK_
    try simp only [Act.put, siA, scZ, scS]
    refine wpAnyH_done (by kernel_rfl) ?_ _
    obtain ⟨w4, hw4⟩ : ∃ w_, set37 wA X (.bool f.x) (.int .i64 f.i) (.bool f.r) (.int .i64 f.n) (.slice f.a f.m f.c) = w_ := ⟨_, rfl⟩
    have hGB : wA.grownBy w4 (some X) := by rw [← hw4]; exact set37_grown _ _ _ _ _ _ _
    have hT4 := below_g hTA hGB hgex
    have hx4 : w4.heap[X]? = some (.cells #[.slice A n c, .slice wa wn wcp, .int .i64 (a : Int), .bool f.x, .int .i64 f.i, .bool f.r, .int .i64 f.n, .slice f.a f.m f.c, .slice (some ⟨L, 0, none⟩) n n, .bool false] 76) := by rw [← hw4]; exact set37_obj hxA _ _ _ _ _
    have hr4 := other_g hGB hrA (Ne.symm HX.out.2.1)
    have hL4 := BBlk.grow hLA hGB (Ne.symm HX.out.1)
    have hR4 := frow_grow hRA hGB (fun _ ad e => fresh_ne hf1 hXlt e)
    have hS4 := FsIs.grow hSA hGB (plo_not hgex)
    have hI4 := row_grow hIA hGB (fun _ ad e => fresh_ne hf2 hXlt e)
    have hf4 := FIs.grow hfA hGB (plo_not hgex)
    unfold set37 at hw4
    rw [hw4]
    clear hw4 hGB hTA hxA hrA hLA hRA hSA hIA hciA hfaA hfA hHeld_ hHeld_9 hHeld_11
    obtain ⟨r, hr_⟩ : ∃ r, (rankC F).length = r := ⟨_, rfl⟩
    have hrl := rankC_le F
    rw [hr_] at hrl
    have Hr := Lib.hid hr_
    clear hr_
    obtain ⟨xc0, xc1, xc2, xc3, xc4, xc5, xc6, xc7, xc8, xc9⟩ := cellsK' hx4
    go_wp2_with fail
    clear xc0 xc1 xc2 xc3 xc4 xc5 xc6 xc7 xc8 xc9
    have hLb := hL4.lt
    refine (rankNew_c hf4 (okC_of HFr.out) r Hr.out).mono ?_
    rintro e w5 ⟨A3, c3, rfl, hk_, hc3, hfk, hB5⟩
    have hT5 := below_then hT4 hB5
    have hr5 := block_below hB5 hr4
    have hx5 := block_below hB5 hx4
    have hL5 := BBlk.to hL4 hB5
    have hR5 := FRow.to hR4 hB5
    have hS5 := FsIs.to hS4 hB5
    have hI5 := Row.to hI4 hB5
    have hf5 := FIs.to hf4 hB5
    clear hT4 hr4 hx4 hL4 hR4 hS4 hI4 hf4 hB5
    have hk5 := hk_
    clear hk_
    have HA3 := Lib.hid (show ∀ ad, A3 = some ad → ad.block ≠ L from fun ad e => fresh_ne hfk hLb e)
    clear hfk hLb
    go_wp2_with fail
    go_loopw [10, 44] (fun u i wr => ∃ (j : Nat) (ub : Bool), j ≤ m ∧ i = .int .i64 j ∧ u = .bool ub ∧ Hid (unlikeTo Ns j = ub) ∧ wr.heap[X]? = some (.cells #[.slice A n c, .slice wa wn wcp, .int .i64 (a : Int), .bool f.x, .int .i64 f.i, .bool f.r, .int .i64 f.n, .slice f.a f.m f.c, .slice (some ⟨L, 0, none⟩) n n, .bool false] 76) ∧ wr.heap[(w.heap.size + 1)]? = some (.cells #[.slice none 0 0, .slice none 0 0, .int .i64 0, .bool false, .int .i64 0, .bool false, .int .i64 0, .slice none 0 0, .slice none 0 0, .bool false] 76) ∧ BBlk wr L (sendTo Ns j) ∧ FRow wr wr.heap.size (some ad1) fs ∧ FsIs wr (PLo P w.heap.size) fs (offF Ns (offN Ns)) ∧ Row .i64 wr wr.heap.size (some ad2) (offI (offN Ns)) ∧ Row .i64 wr wr.heap.size A3 (rankC F) ∧ FIs wr (PLo P w.heap.size) f F ∧ Below w.heap.size w wr) (fun _ i _ => m - (intOf i).toNat)
    case atStart => exact ⟨0, false, Nat.zero_le _, rfl, rfl, Lib.hid rfl, hx5, hr5, by rw [sendTo_zero, Hl.out]; exact hL5, hR5, hS5, hI5, hk5, hf5, hT5⟩
    case round =>
      clear hx5 hr5 hL5 hR5 hS5 hI5 hk5 hf5 hT5
      obtain ⟨j, ub, hj, rfl, rfl, Hu, hx50, hr50, hL50, hR50, hS50, hI50, hk50, hf50, hT50⟩ := hrel
      by_cases hlt : j < m
      · skip
        have j3 : (j : Int) < (m : Int) := by omega
        obtain ⟨b, hob⟩ : ∃ b, (offN Ns)[j]? = some b := ⟨_, List.getElem?_eq_getElem (by rw [Hm.out]; exact hlt)⟩
        obtain ⟨hbn, hbh⟩ := off_lt hob
        rw [Hl.out] at hbn
        obtain ⟨ad_, g, ea1, hgj, hga50⟩ := FRow.get_ hR50 (k := j) (by rw [hfl]; exact hlt)
        obtain rfl := Option.some.inj ea1
        obtain ⟨ad_, y, ea2, hyj, hcj50⟩ := Row.get_ hI50 (k := j) (by rw [show (offI (offN Ns)).length = m by unfold offI; rw [List.length_map]; exact Hm.out]; exact hlt)
        obtain rfl := Option.some.inj ea2
        obtain rfl : (b : Int) = y := by have h_ := hyj; unfold offI at h_; rw [List.getElem?_map, hob] at h_; exact Option.some.inj h_
        obtain ⟨G, hG_⟩ : ∃ G, nextF (nd Ns b) = G := ⟨_, rfl⟩
        have hg50 : FIs wr (PLo P w.heap.size) g G := by refine hS50.2 j g G hgj ?_; unfold offF; rw [List.getElem?_map, hob, ← hG_]; rfl
        have HGr := Lib.hid (show rightC G = true by rw [← hG_]; exact next_right (Hok.out.at_ (by rw [Hl.out]; exact hbn)) hbh)
        obtain ⟨rg, hrg_⟩ : ∃ r, (rankC G).length = r := ⟨_, rfl⟩
        have hrgl := rankC_le G
        rw [hrg_] at hrgl
        have Hrg := Lib.hid hrg_
        clear hrg_
        obtain ⟨q, hq_⟩ : ∃ q, decide (rankC G = rankC F) = q := ⟨_, rfl⟩
        have Hq := Lib.hid hq_
        have Hal := Lib.hid (show alongN Ns b = q by rw [along_rank Hw0.out hbh, hG_, HF.out, hq_])
        have HG := Lib.hid hG_
        have Hst := Lib.hid (sendTo_step hob)
        have Hun := Lib.hid (show unlikeTo Ns (j + 1) = (ub || (q && !sameF G F)) by rw [unlikeTo, Hu.out, show (offN Ns).getD j 0 = b by rw [List.getD, hob]; rfl]; unfold unlikeAt; rw [Hal.out, HG.out, HF.out])
        clear hq_ hG_ hob hbh hgj hyj
        have ht_ := hga50
        obtain ⟨t0, t1, t2, t3, t4⟩ := ht_
        go_wp2_with fail
        clear t0 t1 t2 t3 t4
        refine (rank_c hg50 (okC_of HGr.out) rg Hrg.out).mono ?_
        rintro e w51 ⟨A4, c4, rfl, hv_, hc4, hB51⟩
        have hT51 := below_then hT50 hB51
        have hr51 := block_below hB51 hr50
        have hx51 := block_below hB51 hx50
        have hL51 := BBlk.to hL50 hB51
        have hR51 := FRow.to hR50 hB51
        have hS51 := FsIs.to hS50 hB51
        have hI51 := Row.to hI50 hB51
        have hf51 := FIs.to hf50 hB51
        have hk51 := Row.to hk50 hB51
        have hga51 := fat_to hga50 hB51
        have hcj51 := cell_to10 hcj50 hB51
        have hg51 := FIs.to hg50 hB51
        clear hT50 hr50 hx50 hL50 hR50 hS50 hI50 hf50 hk50 hga50 hcj50 hg50 hB51
        have hv51 := hv_
        clear hv_
        go_wp2_with fail
        refine (equal_c (rankC G) (rankC F) rg r Hrg.out Hr.out A4 A3 c4 c3 _ _ w51 hv51 hk51 (by omega) (by omega) q Hq.out).mono ?_
        rintro e w52 ⟨rfl, hB52⟩
        have hT52 := below_then hT51 hB52
        have hr52 := block_below hB52 hr51
        have hx52 := block_below hB52 hx51
        have hL52 := BBlk.to hL51 hB52
        have hR52 := FRow.to hR51 hB52
        have hS52 := FsIs.to hS51 hB52
        have hI52 := Row.to hI51 hB52
        have hf52 := FIs.to hf51 hB52
        have hk52 := Row.to hk51 hB52
        have hga52 := fat_to hga51 hB52
        have hcj52 := cell_to10 hcj51 hB52
        have hg52 := FIs.to hg51 hB52
        have hv52 := Row.to hv51 hB52
        clear hT51 hr51 hx51 hL51 hR51 hS51 hI51 hf51 hk51 hga51 hcj51 hg51 hv51 hB52
        clear hv52
        cases q
        · skip
          clear hga52
          clear hcj52
          clear hg52
          go_wp2_with fail
          go_round
          case measure => simp [intOf]; omega
          exact ⟨j + 1, ub, by omega, by go_num, rfl, Lib.hid (by rw [Hun.out]; simp), hx52, hr52, (by rw [Hst.out, Hal.out]; exact hL52), hR52, hS52, hI52, hk52, hf52, hT52⟩
        go_wp2_with fail
        obtain ⟨hlc, hlf⟩ := hL52.cell (k := b) (by rw [sendTo_len, Hl.out]; exact hbn)
        have j4 : (b : Int) < (n : Int) := by omega
        refine wp_region_held_drew (S := fun W => (W.cell? ⟨X, 0, none⟩ = some (.slice A n c) ∧ W.cell? ⟨X, 1, none⟩ = some (.slice wa wn wcp) ∧ W.cell? ⟨X, 2, none⟩ = some (.int .i64 (a : Int)) ∧ W.cell? ⟨X, 3, none⟩ = some (.bool f.x) ∧ W.cell? ⟨X, 4, none⟩ = some (.int .i64 f.i) ∧ W.cell? ⟨X, 5, none⟩ = some (.bool f.r) ∧ W.cell? ⟨X, 6, none⟩ = some (.int .i64 f.n) ∧ W.cell? ⟨X, 7, none⟩ = some (.slice f.a f.m f.c) ∧ W.cell? ⟨X, 8, none⟩ = some (.slice (some ⟨L, 0, none⟩) n n) ∧ W.cell? ⟨X, 9, none⟩ = some (.bool false)) ∧ (W.cell? (ad2.add j) = some (.int .i64 (b : Int)))) (by kernel_rfl) (by exact ⟨cellsK' (block_below (below_drew1 _) hx52), cell_to10 hcj52 (below_drew1 _)⟩) (fun hHeld_ => ?_)
        refine wpAnyH_take' (i := 0) (v := ?v0_b12) 54 rfl rfl (by kernel_rfl) (by kernel_rfl) (by kernel_rfl) (fun _ _ _ h => h) (Or.inl ⟨by kernel_rfl, ?hy0_b12⟩) (by assumption) ?rest0_b12
        case hy0_b12 => (intro W_ hS_; (try dsimp only at hS_); go_simp; (try (with_reducible rfl)))
        try simp only [Act.put, siA, scZ, scS]
        refine wpAnyH_take' (i := 1) (v := ?v1_b12) 55 rfl rfl (by kernel_rfl) (by kernel_rfl) (by kernel_rfl) (fun _ _ _ h => h) (Or.inl ⟨by kernel_rfl, ?hy1_b12⟩) (by assumption) ?rest1_b12
        case hy1_b12 => (intro W_ hS_; (try dsimp only at hS_); go_simp; (try (with_reducible rfl)))
        try simp only [Act.put, siA, scZ, scS]
        refine wpAnyH_take' (i := 2) (v := ?v2_b12) 56 rfl rfl (by kernel_rfl) (by kernel_rfl) (by kernel_rfl) (fun _ _ _ h => h) (Or.inl ⟨by kernel_rfl, ?hy2_b12⟩) (by assumption) ?rest2_b12
        case hy2_b12 => (intro W_ hS_; (try dsimp only at hS_); go_simp; (try (with_reducible rfl)))
        try simp only [Act.put, siA, scZ, scS]
        refine wpAnyH_take' (i := 3) (v := ?v3_b12) 57 rfl rfl (by kernel_rfl) (by kernel_rfl) (by kernel_rfl) (fun _ _ _ h => h) (Or.inl ⟨by kernel_rfl, ?hy3_b12⟩) (by assumption) ?rest3_b12
        case hy3_b12 => (intro W_ hS_; (try dsimp only at hS_); go_simp; (try (with_reducible rfl)))
        try simp only [Act.put, siA, scZ, scS]
        refine wpAnyH_take' (i := 4) (v := ?v4_b12) 58 rfl rfl (by kernel_rfl) (by kernel_rfl) (by kernel_rfl) (fun _ _ _ h => h) (Or.inl ⟨by kernel_rfl, ?hy4_b12⟩) (by assumption) ?rest4_b12
        case hy4_b12 => (intro W_ hS_; (try dsimp only at hS_); go_simp; (try (with_reducible rfl)))
        try simp only [Act.put, siA, scZ, scS]
        refine wpAnyH_take' (i := 5) (v := ?v5_b12) 59 rfl rfl (by kernel_rfl) (by kernel_rfl) (by kernel_rfl) (fun _ _ _ h => h) (Or.inl ⟨by kernel_rfl, ?hy5_b12⟩) (by assumption) ?rest5_b12
        case hy5_b12 => (intro W_ hS_; (try dsimp only at hS_); go_simp; (try (with_reducible rfl)))
        try simp only [Act.put, siA, scZ, scS]
        refine wpAnyH_take' (i := 6) (v := ?v6_b12) 60 rfl rfl (by kernel_rfl) (by kernel_rfl) (by kernel_rfl) (fun _ _ _ h => h) (Or.inl ⟨by kernel_rfl, ?hy6_b12⟩) (by assumption) ?rest6_b12
        case hy6_b12 => (intro W_ hS_; (try dsimp only at hS_); go_simp; (try (with_reducible rfl)))
        try simp only [Act.put, siA, scZ, scS]
        refine wpAnyH_ready (rs := [7]) (by kernel_rfl) (by simp) ?_
        refine AllReadyH.cons rfl (fun K_ hK_ => ?_) AllReadyH.nil
        have hlc_ := cell_to10 hlc (below_drew1 w52); have hlf_ := (hL52.to (below_drew1 _)).cell (k := b) (by rw [sendTo_len, Hl.out]; exact hbn) |>.2; go_simp; go_wp2_with fail; clear hlc_ hlf_
        refine hK_.out _ _ (by exact ⟨cellsK' (other_g (grown_setAt _ L b _) (block_below (below_drew1 _) hx52) HX.out.1), cell_gr (cell_to10 hcj52 (below_drew1 _)) (grown_setAt _ L b _) (add_block (fresh_ne hf2 hLlt rfl))⟩) (fun hHeld_7 => ?_)
        clear hK_
        try simp only [Act.put, siA, scZ, scS]
        refine wpAnyH_done (by kernel_rfl) ?_ _
        obtain ⟨w53, hwz⟩ : ∃ w_, (w52.setCell ⟨L, b, none⟩ (.bool true)).drew = w_ := ⟨_, rfl⟩
        have hw53 : w52.drew.setCell ⟨L, b, none⟩ (.bool true) = w53 := hwz
        have hGB : w52.drew.grownBy w53 (some L) := by rw [← hw53]; exact grown_setAt _ _ _ _
        have hT53 := below_g (below_then hT52 (below_drew1 _)) hGB hgeL
        have hx53 := other_g hGB (block_below (below_drew1 _) hx52) HX.out.1
        have hr53 := other_g hGB (block_below (below_drew1 _) hr52) (Ne.symm HX.out.2.2)
        have hL53 : BBlk w53 L (sendTo Ns (j + 1)) := by rw [Hst.out, Hal.out, ← hw53]; exact (hL52.to (below_drew1 _)).setc b true
        have hR53 := frow_grow (hR52.to (below_drew1 _)) hGB (fun _ ad e => fresh_ne hf1 hLlt e)
        have hS53 := FsIs.grow (hS52.to (below_drew1 _)) hGB (plo_not hgeL)
        have hI53 := row_grow (hI52.to (below_drew1 _)) hGB (fun _ ad e => fresh_ne hf2 hLlt e)
        have hk53 := row_grow (hk52.to (below_drew1 _)) hGB (fun _ ad e => HA3.out ad e)
        have hf53 := FIs.grow (hf52.to (below_drew1 _)) hGB (plo_not hgeL)
        have hg53 := FIs.grow (hg52.to (below_drew1 _)) hGB (plo_not hgeL)
        have hga53 := fat_gr10 (fat_to hga52 (below_drew1 _)) hGB (add_block (fresh_ne hf1 hLlt rfl))
        rw [hwz]
        clear hwz hw53 hGB hlc hlf hHeld_ hHeld_7 hT52 hx52 hr52 hL52 hR52 hS52 hI52 hk52 hf52 hg52 hga52 hcj52
        obtain ⟨sm, hsm_⟩ : ∃ q, sameF G F = q := ⟨_, rfl⟩
        have Hsm := Lib.hid hsm_
        rw [hsm_] at Hun
        clear hsm_
        cases ub
        rotate_left
        · skip
          go_wp2_with fail
          refine wp_region_held_drew (S := fun W => True) (by kernel_rfl) (by exact trivial) (fun hHeld_ => ?_)
          refine wpAnyH_take' (i := 0) (v := ?v0_t1) 61 rfl rfl (by kernel_rfl) (by kernel_rfl) (by kernel_rfl) (fun _ _ _ h => h) (Or.inl ⟨by kernel_rfl, ?hy0_t1⟩) (by assumption) ?rest0_t1
          case hy0_t1 => (intro W_ hS_; (try dsimp only at hS_); go_simp; (try (with_reducible rfl)))
          try simp only [Act.put, siA, scZ, scS]
          refine wpAnyH_take' (i := 1) (v := ?v1_t1) 62 rfl rfl (by kernel_rfl) (by kernel_rfl) (by kernel_rfl) (fun _ _ _ h => h) (Or.inl ⟨by kernel_rfl, ?hy1_t1⟩) (by assumption) ?rest1_t1
          case hy1_t1 => (intro W_ hS_; (try dsimp only at hS_); go_simp; (try (with_reducible rfl)))
          try simp only [Act.put, siA, scZ, scS]
          refine wpAnyH_take' (i := 2) (v := undef) 63 rfl rfl (by kernel_rfl) (by kernel_rfl) (by kernel_rfl) (fun _ _ _ h => h) (Or.inr ⟨by kernel_rfl, rfl⟩) (by assumption) ?_
          try simp only [Act.put, siA, scZ, scS]
          refine wpAnyH_take' (i := 3) (v := undef) 64 rfl rfl (by kernel_rfl) (by kernel_rfl) (by kernel_rfl) (fun _ _ _ h => h) (Or.inr ⟨by kernel_rfl, rfl⟩) (by assumption) ?_
          try simp only [Act.put, siA, scZ, scS]
          refine wpAnyH_take' (i := 4) (v := undef) 65 rfl rfl (by kernel_rfl) (by kernel_rfl) (by kernel_rfl) (fun _ _ _ h => h) (Or.inr ⟨by kernel_rfl, rfl⟩) (by assumption) ?_
          try simp only [Act.put, siA, scZ, scS]
          refine wpAnyH_take' (i := 5) (v := undef) 66 rfl rfl (by kernel_rfl) (by kernel_rfl) (by kernel_rfl) (fun _ _ _ h => h) (Or.inr ⟨by kernel_rfl, rfl⟩) (by assumption) ?_
          try simp only [Act.put, siA, scZ, scS]
          refine wpAnyH_take' (i := 6) (v := undef) 67 rfl rfl (by kernel_rfl) (by kernel_rfl) (by kernel_rfl) (fun _ _ _ h => h) (Or.inr ⟨by kernel_rfl, rfl⟩) (by assumption) ?_
          try simp only [Act.put, siA, scZ, scS]
          refine wpAnyH_take' (i := 7) (v := undef) 68 rfl rfl (by kernel_rfl) (by kernel_rfl) (by kernel_rfl) (fun _ _ _ h => h) (Or.inr ⟨by kernel_rfl, rfl⟩) (by assumption) ?_
          try simp only [Act.put, siA, scZ, scS]
          refine wpAnyH_skip (i := 8) 69 rfl rfl (by kernel_rfl) (by kernel_rfl) (by assumption) ?_
          try simp only [Act.put, siA, scZ, scS]
          refine wpAnyH_take' (i := 9) (v := undef) 70 rfl rfl (by kernel_rfl) (by kernel_rfl) (by kernel_rfl) (fun _ _ _ h => h) (Or.inr ⟨by kernel_rfl, rfl⟩) (by assumption) ?_
          try simp only [Act.put, siA, scZ, scS]
          refine wpAnyH_take' (i := 10) (v := ?v10_t1) 71 rfl rfl (by kernel_rfl) (by kernel_rfl) (by kernel_rfl) (fun _ _ _ h => h) (Or.inl ⟨by kernel_rfl, ?hy10_t1⟩) (by assumption) ?rest10_t1
          case hy10_t1 => (intro W_ hS_; (try dsimp only at hS_); go_simp; (try (with_reducible rfl)))
          try simp only [Act.put, siA, scZ, scS]
          refine wpAnyH_take' (i := 11) (v := ?v11_t1) 10 rfl rfl (by kernel_rfl) (by kernel_rfl) (by kernel_rfl) (fun _ _ _ h => h) (Or.inl ⟨by kernel_rfl, ?hy11_t1⟩) (by assumption) ?rest11_t1
          case hy11_t1 => (intro W_ hS_; (try dsimp only at hS_); go_simp; (try (with_reducible rfl)))
          try simp only [Act.put, siA, scZ, scS]
          refine wpAnyH_done (by kernel_rfl) ?_ _
          obtain ⟨w54, hw54⟩ : ∃ w54, w53.drew = w54 := ⟨_, rfl⟩
          have hB54 : Below w53.heap.size w53 w54 := by rw [← hw54]; exact (below_drew1 _)
          rw [hw54]
          clear hw54
          have hT54 := below_then hT53 hB54
          have hr54 := block_below hB54 hr53
          have hx54 := block_below hB54 hx53
          have hL54 := BBlk.to hL53 hB54
          have hR54 := FRow.to hR53 hB54
          have hS54 := FsIs.to hS53 hB54
          have hI54 := Row.to hI53 hB54
          have hf54 := FIs.to hf53 hB54
          have hk54 := Row.to hk53 hB54
          have hga54 := fat_to hga53 hB54
          have hg54 := FIs.to hg53 hB54
          clear hT53 hr53 hx53 hL53 hR53 hS53 hI53 hf53 hk53 hga53 hg53 hB54
          clear hga54
          clear hg54
          go_wp2_with fail
          go_round
          case measure => simp [intOf]; omega
          exact ⟨j + 1, true, by omega, by go_num, rfl, Lib.hid (by rw [Hun.out]; simp), hx54, hr54, hL54, hR54, hS54, hI54, hk54, hf54, hT54⟩
        go_wp2_with fail
        refine wp_region_held_drew (S := fun W => (W.cell? ⟨X, 0, none⟩ = some (.slice A n c) ∧ W.cell? ⟨X, 1, none⟩ = some (.slice wa wn wcp) ∧ W.cell? ⟨X, 2, none⟩ = some (.int .i64 (a : Int)) ∧ W.cell? ⟨X, 3, none⟩ = some (.bool f.x) ∧ W.cell? ⟨X, 4, none⟩ = some (.int .i64 f.i) ∧ W.cell? ⟨X, 5, none⟩ = some (.bool f.r) ∧ W.cell? ⟨X, 6, none⟩ = some (.int .i64 f.n) ∧ W.cell? ⟨X, 7, none⟩ = some (.slice f.a f.m f.c) ∧ W.cell? ⟨X, 8, none⟩ = some (.slice (some ⟨L, 0, none⟩) n n) ∧ W.cell? ⟨X, 9, none⟩ = some (.bool false)) ∧ (W.cell? (ad1.add (j * 5)) = some (.bool g.x) ∧ W.cell? ⟨(ad1.add (j * 5)).block, (ad1.add (j * 5)).off + 1, none⟩ = some (.int .i64 g.i) ∧ W.cell? ⟨(ad1.add (j * 5)).block, (ad1.add (j * 5)).off + 2, none⟩ = some (.bool g.r) ∧ W.cell? ⟨(ad1.add (j * 5)).block, (ad1.add (j * 5)).off + 3, none⟩ = some (.int .i64 g.n) ∧ W.cell? ⟨(ad1.add (j * 5)).block, (ad1.add (j * 5)).off + 4, none⟩ = some (.slice g.a g.m g.c))) (by kernel_rfl) (by exact ⟨cellsK' (block_below (below_drew1 _) hx53), (fat_to hga53 (below_drew1 _))⟩) (fun hHeld_ => ?_)
        refine wpAnyH_take' (i := 0) (v := ?v0_t2) 61 rfl rfl (by kernel_rfl) (by kernel_rfl) (by kernel_rfl) (fun _ _ _ h => h) (Or.inl ⟨by kernel_rfl, ?hy0_t2⟩) (by assumption) ?rest0_t2
        case hy0_t2 => (intro W_ hS_; (try dsimp only at hS_); go_simp; (try (with_reducible rfl)))
        try simp only [Act.put, siA, scZ, scS]
        refine wpAnyH_take' (i := 1) (v := ?v1_t2) 62 rfl rfl (by kernel_rfl) (by kernel_rfl) (by kernel_rfl) (fun _ _ _ h => h) (Or.inl ⟨by kernel_rfl, ?hy1_t2⟩) (by assumption) ?rest1_t2
        case hy1_t2 => (intro W_ hS_; (try dsimp only at hS_); go_simp; (try (with_reducible rfl)))
        try simp only [Act.put, siA, scZ, scS]
        refine wpAnyH_take' (i := 2) (v := ?v2_t2) 63 rfl rfl (by kernel_rfl) (by kernel_rfl) (by kernel_rfl) (fun _ _ _ h => h) (Or.inl ⟨by kernel_rfl, ?hy2_t2⟩) (by assumption) ?rest2_t2
        case hy2_t2 => (intro W_ hS_; (try dsimp only at hS_); go_simp; (try (with_reducible rfl)))
        try simp only [Act.put, siA, scZ, scS]
        refine wpAnyH_take' (i := 3) (v := ?v3_t2) 64 rfl rfl (by kernel_rfl) (by kernel_rfl) (by kernel_rfl) (fun _ _ _ h => h) (Or.inl ⟨by kernel_rfl, ?hy3_t2⟩) (by assumption) ?rest3_t2
        case hy3_t2 => (intro W_ hS_; (try dsimp only at hS_); go_simp; (try (with_reducible rfl)))
        try simp only [Act.put, siA, scZ, scS]
        refine wpAnyH_take' (i := 4) (v := ?v4_t2) 65 rfl rfl (by kernel_rfl) (by kernel_rfl) (by kernel_rfl) (fun _ _ _ h => h) (Or.inl ⟨by kernel_rfl, ?hy4_t2⟩) (by assumption) ?rest4_t2
        case hy4_t2 => (intro W_ hS_; (try dsimp only at hS_); go_simp; (try (with_reducible rfl)))
        try simp only [Act.put, siA, scZ, scS]
        refine wpAnyH_take' (i := 5) (v := ?v5_t2) 66 rfl rfl (by kernel_rfl) (by kernel_rfl) (by kernel_rfl) (fun _ _ _ h => h) (Or.inl ⟨by kernel_rfl, ?hy5_t2⟩) (by assumption) ?rest5_t2
        case hy5_t2 => (intro W_ hS_; (try dsimp only at hS_); go_simp; (try (with_reducible rfl)))
        try simp only [Act.put, siA, scZ, scS]
        refine wpAnyH_take' (i := 6) (v := ?v6_t2) 67 rfl rfl (by kernel_rfl) (by kernel_rfl) (by kernel_rfl) (fun _ _ _ h => h) (Or.inl ⟨by kernel_rfl, ?hy6_t2⟩) (by assumption) ?rest6_t2
        case hy6_t2 => (intro W_ hS_; (try dsimp only at hS_); go_simp; (try (with_reducible rfl)))
        try simp only [Act.put, siA, scZ, scS]
        refine wpAnyH_take' (i := 7) (v := ?v7_t2) 68 rfl rfl (by kernel_rfl) (by kernel_rfl) (by kernel_rfl) (fun _ _ _ h => h) (Or.inl ⟨by kernel_rfl, ?hy7_t2⟩) (by assumption) ?rest7_t2
        case hy7_t2 => (intro W_ hS_; (try dsimp only at hS_); go_simp; (try (with_reducible rfl)))
        try simp only [Act.put, siA, scZ, scS]
        refine wpAnyH_ready (rs := [8]) (by kernel_rfl) (by simp) ?_
        refine AllReadyH.cons rfl (fun K_ hK_ => ?_) AllReadyH.nil
        go_simp
        refine (frSame_c (FIs.to hg53 (below_drew1 _)) (FIs.to hf53 (below_drew1 _)) sm Hsm.out).mono ?_; rintro e wr8 ⟨rfl, hBr8⟩
        go_wp2_with fail
        refine hK_.out _ _ (by exact ⟨cellsK' (block_below hBr8 (block_below (below_drew1 _) hx53)), (fat_to (fat_to hga53 (below_drew1 _)) hBr8)⟩) (fun hHeld_8 => ?_)
        clear hK_
        try simp only [Act.put, siA, scZ, scS]
        refine wpAnyH_take' (i := 9) (v := ?v9_t2) 70 rfl rfl (by kernel_rfl) (by kernel_rfl) (by kernel_rfl) (fun _ _ _ h => h) (Or.inl ⟨by kernel_rfl, ?hy9_t2⟩) (by assumption) ?rest9_t2
        case hy9_t2 => (intro W_ hS_; (try dsimp only at hS_); go_simp; (try (with_reducible rfl)))
        try simp only [Act.put, siA, scZ, scS]
        refine wpAnyH_take' (i := 10) (v := ?v10_t2) 71 rfl rfl (by kernel_rfl) (by kernel_rfl) (by kernel_rfl) (fun _ _ _ h => h) (Or.inl ⟨by kernel_rfl, ?hy10_t2⟩) (by assumption) ?rest10_t2
        case hy10_t2 => (intro W_ hS_; (try dsimp only at hS_); go_simp; (try (with_reducible rfl)))
        try simp only [Act.put, siA, scZ, scS]
        refine wpAnyH_take' (i := 11) (v := ?v11_t2) 10 rfl rfl (by kernel_rfl) (by kernel_rfl) (by kernel_rfl) (fun _ _ _ h => h) (Or.inl ⟨by kernel_rfl, ?hy11_t2⟩) (by assumption) ?rest11_t2
        case hy11_t2 => (intro W_ hS_; (try dsimp only at hS_); go_simp; (try (with_reducible rfl)))
        try simp only [Act.put, siA, scZ, scS]
        refine wpAnyH_done (by kernel_rfl) ?_ _
        obtain ⟨w54, hw54⟩ : ∃ w54, wr8 = w54 := ⟨_, rfl⟩
        have hB54 : Below w53.heap.size w53 w54 := by rw [← hw54]; exact (below_then (below_drew1 _) hBr8)
        rw [hw54]
        clear hw54  hBr8
        have hT54 := below_then hT53 hB54
        have hr54 := block_below hB54 hr53
        have hx54 := block_below hB54 hx53
        have hL54 := BBlk.to hL53 hB54
        have hR54 := FRow.to hR53 hB54
        have hS54 := FsIs.to hS53 hB54
        have hI54 := Row.to hI53 hB54
        have hf54 := FIs.to hf53 hB54
        have hk54 := Row.to hk53 hB54
        have hga54 := fat_to hga53 hB54
        have hg54 := FIs.to hg53 hB54
        clear hT53 hr53 hx53 hL53 hR53 hS53 hI53 hf53 hk53 hga53 hg53 hB54
        clear hga54
        clear hg54
        go_wp2_with fail
        go_round
        case measure => simp [intOf]; omega
        exact ⟨j + 1, (!sm), by omega, by go_num, rfl, Lib.hid (by rw [Hun.out]; simp), hx54, hr54, hL54, hR54, hS54, hI54, hk54, hf54, hT54⟩
      obtain rfl : j = m := by omega
      have j3 : ¬ (j : Int) < (j : Int) := by omega
      have hal : sendTo Ns j = alongs Ns := by rw [← Hm.out]; exact sendTo_end Ns
      rw [hal] at hL50
      clear hal hR50 hS50 hI50 hk50
      obtain ⟨cq, hcq⟩ : ∃ q, corrTo Ns H Ns.length = q := ⟨_, rfl⟩
      have Hd := Lib.hid (show (ub || cq) = hitN Ns H by rw [← dist_eq, Hm.out, Hu.out, hcq])
      have Hcq := Lib.hid hcq
      clear hcq
      cases ub
      rotate_left
      · skip
        obtain ⟨⟨xc0, xc1, xc2, xc3, xc4, xc5, xc6, xc7, xc8, xc9⟩, xf0, xf1, xf2, xf3, xf4, xf5, xf6, xf7, xf8, xf9⟩ := cellsK hx50
        go_upto_region 16 with fail
        clear xc0 xc1 xc2 xc3 xc4 xc5 xc6 xc7 xc8 xc9 xf0 xf1 xf2 xf3 xf4 xf5 xf6 xf7 xf8 xf9
        obtain ⟨w80, hw80⟩ : ∃ w_, wr.setCell ⟨X, 9, none⟩ (.bool true) = w_ := ⟨_, rfl⟩
        have hGB : wr.grownBy w80 (some X) := by rw [← hw80]; exact grown_setAt _ _ _ _
        have hT80 := below_g hT50 hGB hgex
        have hx80 : w80.heap[X]? = some (.cells #[.slice A n c, .slice wa wn wcp, .int .i64 (a : Int), .bool f.x, .int .i64 f.i, .bool f.r, .int .i64 f.n, .slice f.a f.m f.c, .slice (some ⟨L, 0, none⟩) n n, .bool true] 76) := by rw [← hw80]; exact set9_objK hx50 _
        have hr80 := other_g hGB hr50 (Ne.symm HX.out.2.1)
        have hL80 := BBlk.grow hL50 hGB (Ne.symm HX.out.1)
        have hf80 := FIs.grow hf50 hGB (plo_not hgex)
        rw [hw80]
        clear hw80 hGB hT50 hx50 hr50 hL50 hf50
        obtain ⟨⟨rc0, rc1, rc2, rc3, rc4, rc5, rc6, rc7, rc8, rc9⟩, rf0, rf1, rf2, rf3, rf4, rf5, rf6, rf7, rf8, rf9⟩ := cellsK hr80
        obtain ⟨xc0, xc1, xc2, xc3, xc4, xc5, xc6, xc7, xc8, xc9⟩ := cellsK' hx80
        go_wp2_with fail
        exact bodyPost_ret (v := KV.v ⟨A, n, c, wa, wn, wcp, (a : Int), f, some ⟨L, 0, none⟩, n, n, true⟩) (results_k (n := ⟨A, n, c, wa, wn, wcp, (a : Int), f, some ⟨L, 0, none⟩, n, n, true⟩) rfl _ rfl (set10_obj hr80 _ _ _ _ _ _ _ _ _ _)) rfl ⟨⟨A, n, c, wa, wn, wcp, (a : Int), f, some ⟨L, 0, none⟩, n, n, true⟩, rfl, ⟨h.to (below_g hT80 (set10_grown _ _ _ _ _ _ _ _ _ _ _ _) (by omega)), hH.to (below_g hT80 (set10_grown _ _ _ _ _ _ _ _ _ _ _ _) (by omega)), HHl.out, hwm, by rw [HF.out]; exact (FIs.grow hf80 (set10_grown _ _ _ _ _ _ _ _ _ _ _ _) (plo_not (by omega))).mono (fun _ _ h_ => h_.1), ⟨L, rfl, BBlk.grow hL80 (set10_grown _ _ _ _ _ _ _ _ _ _ _ _) HX.out.2.2⟩, by rw [alongs_len, Hl.out]⟩, Hwa.out.symm, rfl, rfl, rfl, fun _ => Hd.out, below_g hT80 (set10_grown _ _ _ _ _ _ _ _ _ _ _ _) (by omega)⟩
      obtain ⟨xc0, xc1, xc2, xc3, xc4, xc5, xc6, xc7, xc8, xc9⟩ := cellsK' hx50
      go_wp2_with fail
      clear xc0 xc1 xc2 xc3 xc4 xc5 xc6 xc7 xc8 xc9
      refine (kcorr_c (k := ⟨A, n, c, wa, wn, wcp, (a : Int), f, some ⟨L, 0, none⟩, n, n, false⟩) (P := PLo P w.heap.size) ⟨(h.mono plo_up).to hT50, hH.to hT50, HHl.out, hwm, hf50, ⟨L, rfl, hL50⟩, by rw [alongs_len, Hl.out]⟩ cq Hcq.out).mono ?_
      rintro e w51 ⟨rfl, hB51⟩
      have hT51 := below_then hT50 hB51
      have hr51 := block_below hB51 hr50
      have hx51 := block_below hB51 hx50
      have hL51 := BBlk.to hL50 hB51
      have hf51 := FIs.to hf50 hB51
      clear hT50 hr50 hx50 hL50 hf50 hB51
      obtain ⟨⟨xc0, xc1, xc2, xc3, xc4, xc5, xc6, xc7, xc8, xc9⟩, xf0, xf1, xf2, xf3, xf4, xf5, xf6, xf7, xf8, xf9⟩ := cellsK hx51
      go_upto_region 16 with fail
      clear xc0 xc1 xc2 xc3 xc4 xc5 xc6 xc7 xc8 xc9 xf0 xf1 xf2 xf3 xf4 xf5 xf6 xf7 xf8 xf9
      obtain ⟨w80, hw80⟩ : ∃ w_, w51.setCell ⟨X, 9, none⟩ (.bool cq) = w_ := ⟨_, rfl⟩
      have hGB : w51.grownBy w80 (some X) := by rw [← hw80]; exact grown_setAt _ _ _ _
      have hT80 := below_g hT51 hGB hgex
      have hx80 : w80.heap[X]? = some (.cells #[.slice A n c, .slice wa wn wcp, .int .i64 (a : Int), .bool f.x, .int .i64 f.i, .bool f.r, .int .i64 f.n, .slice f.a f.m f.c, .slice (some ⟨L, 0, none⟩) n n, .bool cq] 76) := by rw [← hw80]; exact set9_objK hx51 _
      have hr80 := other_g hGB hr51 (Ne.symm HX.out.2.1)
      have hL80 := BBlk.grow hL51 hGB (Ne.symm HX.out.1)
      have hf80 := FIs.grow hf51 hGB (plo_not hgex)
      rw [hw80]
      clear hw80 hGB hT51 hx51 hr51 hL51 hf51
      obtain ⟨⟨rc0, rc1, rc2, rc3, rc4, rc5, rc6, rc7, rc8, rc9⟩, rf0, rf1, rf2, rf3, rf4, rf5, rf6, rf7, rf8, rf9⟩ := cellsK hr80
      obtain ⟨xc0, xc1, xc2, xc3, xc4, xc5, xc6, xc7, xc8, xc9⟩ := cellsK' hx80
      go_wp2_with fail
      exact bodyPost_ret (v := KV.v ⟨A, n, c, wa, wn, wcp, (a : Int), f, some ⟨L, 0, none⟩, n, n, cq⟩) (results_k (n := ⟨A, n, c, wa, wn, wcp, (a : Int), f, some ⟨L, 0, none⟩, n, n, cq⟩) rfl _ rfl (set10_obj hr80 _ _ _ _ _ _ _ _ _ _)) rfl ⟨⟨A, n, c, wa, wn, wcp, (a : Int), f, some ⟨L, 0, none⟩, n, n, cq⟩, rfl, ⟨h.to (below_g hT80 (set10_grown _ _ _ _ _ _ _ _ _ _ _ _) (by omega)), hH.to (below_g hT80 (set10_grown _ _ _ _ _ _ _ _ _ _ _ _) (by omega)), HHl.out, hwm, by rw [HF.out]; exact (FIs.grow hf80 (set10_grown _ _ _ _ _ _ _ _ _ _ _ _) (plo_not (by omega))).mono (fun _ _ h_ => h_.1), ⟨L, rfl, BBlk.grow hL80 (set10_grown _ _ _ _ _ _ _ _ _ _ _ _) HX.out.2.2⟩, by rw [alongs_len, Hl.out]⟩, Hwa.out.symm, rfl, rfl, rfl, fun _ => Hd.out, below_g hT80 (set10_grown _ _ _ _ _ _ _ _ _ _ _ _) (by omega)⟩
end Go.Proofs.YtcifjccojmfpaaaGreat

namespace Go.Proofs.YtcifjccojmfpaaaGreat
open Go.RowKit
set_option linter.unusedVariables false
set_option linter.unusedSimpArgs false
theorem spoilt_c {w : World} {P : Nat → Prop} {k : KV} {Ns : List NC} {H : List Int} {F : FC} (h : KIs w P k Ns H F (alongs Ns)) (hok : OkNs Ns) (hF : rightC F = true) (hP : ∀ b, w.heap.size ≤ b → P b) (i : Nat) (hi : i < k.lm) (M : NC) (hM : spoiltN Ns H F k.d i = M) :
    Calls Tryz.prog 45 #[k.v, .int .i64 i] w fun e w' => ∃ n' : NV, e = .returned n'.v ∧ NIs w' P n' M ∧ Below w.heap.size w w' := by
  have HF := Lib.hid hF
  obtain ⟨la, lm, lc, wa, wm, wc, kw, f, sa, sm, sc, d⟩ := k
  try dsimp only at hi hM
  have hlm : Ns.length = lm := h.l.len
  obtain rfl : sm = lm := by have h_ : (alongs Ns).length = sm := h.sl; rw [alongs_len] at h_; omega
  have Hlm := Lib.hid hlm
  clear hlm
  obtain ⟨L, hsa, hbk⟩ := h.s
  dsimp only at hsa
  subst hsa
  have hbig : sm ≤ maxLen := h.l.big
  unfold maxLen at hbig
  obtain ⟨ad, m, ea_, hAt, hV⟩ := NSl.at_ h.l hi
  dsimp only at ea_
  subst ea_
  obtain ⟨N, hN_⟩ : ∃ N_, nd Ns i = N_ := ⟨_, rfl⟩
  replace hV : NIs w P m N := by rw [← hN_]; exact hV
  have HN := Lib.hid hN_
  clear hN_
  obtain ⟨b, hb_⟩ : ∃ b, alongN Ns i = b := ⟨_, rfl⟩
  have hsc : w.cell? ⟨L, i, none⟩ = some (.bool b) := by have h_ := (hbk.cell (k := i) (by rw [alongs_len, Hlm.out]; exact hi)).1; rw [alongs_at (by rw [Hlm.out]; exact hi), hb_] at h_; exact h_
  have Hb := Lib.hid hb_
  clear hb_ hbk
  have j1 : (i : Int) < (sm : Int) := by omega
  have hks : m.k.s = N.k.s := by rw [hV.k]
  have Hks := Lib.hid hks
  clear hks
  have HokN := Lib.hid (show OkN N by rw [← HN.out]; exact hok.at_ (by rw [Hlm.out]; exact hi))
  unfold spoiltN at hM
  rw [Hb.out, show nd Ns i = N from HN.out] at hM
  clear hF hok
  cases b
  · skip
    obtain ⟨q3, h3⟩ : ∃ q, (inH H i && decide ((nd Ns i).k.s = 1)) = q := ⟨_, rfl⟩
    have hM2 : heardN N F false q3 = M := by rw [← hM, ← h3, show nd Ns i = N from HN.out]; rfl
    have H3 := Lib.hid h3
    have HM := Lib.hid hM2
    clear hM hM2 h3
    obtain ⟨w0, hw0⟩ : ∃ w0, ((w.alloc (.cells #[.slice (some ad) sm lc, .slice wa wm wc, .int .i64 kw, .bool f.x, .int .i64 f.i, .bool f.r, .int .i64 f.n, .slice f.a f.m f.c, .slice (some ⟨L, 0, none⟩) sm sc, .bool d] 76)).alloc (.cells #[.slice none 0 0, .slice none 0 0, .int .i64 0, .int .i64 0, .int .i64 0, .int .i64 0, .slice none 0 0] 49)) = w0 := ⟨_, rfl⟩
    have hT0 : Below w.heap.size w w0 := by rw [← hw0]; exact below_then (below_alloc1 _ _) (below_alloc1 _ _)
    have hk0 : w0.heap[w.heap.size]? = some (.cells #[.slice (some ad) sm lc, .slice wa wm wc, .int .i64 kw, .bool f.x, .int .i64 f.i, .bool f.r, .int .i64 f.n, .slice f.a f.m f.c, .slice (some ⟨L, 0, none⟩) sm sc, .bool d] 76) := by rw [← hw0]; exact block_below (below_alloc1 _ _) (World.alloc_heap_new _ _)
    have hr0 : w0.heap[(w.heap.size + 1)]? = some (.cells #[.slice none 0 0, .slice none 0 0, .int .i64 0, .int .i64 0, .int .i64 0, .int .i64 0, .slice none 0 0] 49) := by rw [← hw0]; exact alloc_at _ _ (by simp)
    have hs0 : w0.heap.size = w.heap.size + 2 := by rw [← hw0]; simp
    have Hs0 := Lib.hid hs0
    clear hs0
    have hAt0 := nat_to hAt hT0
    have ht_ := hAt0
    obtain ⟨t0, t1, t2, t3, t4, t5, t6⟩ := ht_
    have hs_ := cell_to10 hsc hT0
    obtain ⟨kc0, kc1, kc2, kc3, kc4, kc5, kc6, kc7, kc8, kc9⟩ := cellsK' hk0
    obtain ⟨rc0, rc1, rc2, rc3, rc4, rc5, rc6⟩ := cells7' hr0
    go_enter Tryz.func45, Tryz.ntmps45
    go_upto_region 2 with fail
    clear kc0 kc1 kc2 kc3 kc4 kc5 kc6 kc7 kc8 kc9 rc0 rc1 rc2 rc3 rc4 rc5 rc6
    clear hw0
    have hZ0 := Below.refl w0.heap.size w0
    clear t0 t1 t2 t3 t4 t5 t6
    clear hs_
    have hgen : w.heap.size ≤ w0.heap.size := hT0.size
    have Hk_n := Lib.hid (show w.heap.size ≠ w0.heap.size from Nat.ne_of_lt (Array.getElem?_eq_some_iff.1 hk0).1)
    have Hn_k := Lib.hid (show w0.heap.size ≠ w.heap.size from Ne.symm Hk_n.out)
    have Hr_n := Lib.hid (show (w.heap.size + 1) ≠ w0.heap.size from Nat.ne_of_lt (Array.getElem?_eq_some_iff.1 hr0).1)
    have Hn_r := Lib.hid (show w0.heap.size ≠ (w.heap.size + 1) from Ne.symm Hr_n.out)
    obtain ⟨w1, hw1⟩ : ∃ w1, w0.alloc (.cells #[.slice m.qa m.qm m.qc, .slice m.la m.lm m.lc, .int .i64 m.k.t, .int .i64 m.k.r, .int .i64 m.k.s, .int .i64 m.k.q, .slice m.ga m.gm m.gc] 49) = w1 := ⟨_, rfl⟩
    have hB1 : Below w0.heap.size w0 w1 := by rw [← hw1]; exact below_alloc1 _ _
    have hn1 : w1.heap[w0.heap.size]? = some (.cells #[.slice m.qa m.qm m.qc, .slice m.la m.lm m.lc, .int .i64 m.k.t, .int .i64 m.k.r, .int .i64 m.k.s, .int .i64 m.k.q, .slice m.ga m.gm m.gc] 49) := by rw [← hw1]; exact World.alloc_heap_new _ _
    rw [hw1]
    clear hw1
    have hT1 := below_then hT0 hB1
    have hZ1 := below_then hZ0 hB1
    clear hZ0
    have hk1 := block_below hB1 hk0
    have hr1 := block_below hB1 hr0
    clear hT0 hk0 hr0  hB1
    have hs_ := cell_to10 hsc hT1
    have Hk_r := Lib.hid (show w.heap.size ≠ w.heap.size + 1 by omega)
    obtain ⟨kc0, kc1, kc2, kc3, kc4, kc5, kc6, kc7, kc8, kc9⟩ := cellsK' hk1
    obtain ⟨nc0, nc1, nc2, nc3, nc4, nc5, nc6⟩ := cells7' hn1
    go_wp2_with fail
    clear kc0 kc1 kc2 kc3 kc4 kc5 kc6 kc7 kc8 kc9 nc0 nc1 nc2 nc3 nc4 nc5 nc6
    clear hs_
    have hV1 := (hV.gap (w.heap.size + 3)).to hT1
    have hF1 := (h.f.gap (w.heap.size + 3)).to hT1
    dsimp only at hF1
    refine wp_region_till 7 (S := fun W => (W.cell? ⟨w.heap.size, 0, none⟩ = some (.slice (some ad) sm lc) ∧ W.cell? ⟨w.heap.size, 1, none⟩ = some (.slice wa wm wc) ∧ W.cell? ⟨w.heap.size, 2, none⟩ = some (.int .i64 kw) ∧ W.cell? ⟨w.heap.size, 3, none⟩ = some (.bool f.x) ∧ W.cell? ⟨w.heap.size, 4, none⟩ = some (.int .i64 f.i) ∧ W.cell? ⟨w.heap.size, 5, none⟩ = some (.bool f.r) ∧ W.cell? ⟨w.heap.size, 6, none⟩ = some (.int .i64 f.n) ∧ W.cell? ⟨w.heap.size, 7, none⟩ = some (.slice f.a f.m f.c) ∧ W.cell? ⟨w.heap.size, 8, none⟩ = some (.slice (some ⟨L, 0, none⟩) sm sc) ∧ W.cell? ⟨w.heap.size, 9, none⟩ = some (.bool d)) ∧ (W.cell? ⟨w0.heap.size, 0, none⟩ = some (.slice m.qa m.qm m.qc) ∧ W.cell? ⟨w0.heap.size, 1, none⟩ = some (.slice m.la m.lm m.lc) ∧ W.cell? ⟨w0.heap.size, 2, none⟩ = some (.int .i64 m.k.t) ∧ W.cell? ⟨w0.heap.size, 3, none⟩ = some (.int .i64 m.k.r) ∧ W.cell? ⟨w0.heap.size, 4, none⟩ = some (.int .i64 m.k.s) ∧ W.cell? ⟨w0.heap.size, 5, none⟩ = some (.int .i64 m.k.q) ∧ W.cell? ⟨w0.heap.size, 6, none⟩ = some (.slice m.ga m.gm m.gc))) (by kernel_rfl) (by exact ⟨cellsK' (block_below (below_drew1 _) hk1), cells7' (block_below (below_drew1 _) hn1)⟩) (fun hHeld_ => ?_)
    refine wpTill_take (i := 0) (v := ?vS1_0_0_) 18 rfl rfl (by kernel_rfl) (by kernel_rfl) (by kernel_rfl) (fun _ _ _ h => h) (Or.inl ⟨by kernel_rfl, ?hyS1_0_0_⟩) (by assumption) (by kernel_rfl) ?restS1_0_0_
    case hyS1_0_0_ => (intro W_ hS_; (try dsimp only at hS_); go_simp; (try (with_reducible rfl)))
    try simp only [Act.put, siA, scZ, scS]
    refine wpTill_take (i := 1) (v := ?vS1_1_0_) 19 rfl rfl (by kernel_rfl) (by kernel_rfl) (by kernel_rfl) (fun _ _ _ h => h) (Or.inl ⟨by kernel_rfl, ?hyS1_1_0_⟩) (by assumption) (by kernel_rfl) ?restS1_1_0_
    case hyS1_1_0_ => (intro W_ hS_; (try dsimp only at hS_); go_simp; (try (with_reducible rfl)))
    try simp only [Act.put, siA, scZ, scS]
    refine wpTill_take (i := 2) (v := ?vS1_2_0_) 20 rfl rfl (by kernel_rfl) (by kernel_rfl) (by kernel_rfl) (fun _ _ _ h => h) (Or.inl ⟨by kernel_rfl, ?hyS1_2_0_⟩) (by assumption) (by kernel_rfl) ?restS1_2_0_
    case hyS1_2_0_ => (intro W_ hS_; (try dsimp only at hS_); go_simp; (try (with_reducible rfl)))
    try simp only [Act.put, siA, scZ, scS]
    refine wpTill_take (i := 3) (v := ?vS1_3_0_) 21 rfl rfl (by kernel_rfl) (by kernel_rfl) (by kernel_rfl) (fun _ _ _ h => h) (Or.inl ⟨by kernel_rfl, ?hyS1_3_0_⟩) (by assumption) (by kernel_rfl) ?restS1_3_0_
    case hyS1_3_0_ => (intro W_ hS_; (try dsimp only at hS_); go_simp; (try (with_reducible rfl)))
    try simp only [Act.put, siA, scZ, scS]
    refine wpTill_take (i := 4) (v := ?vS1_4_0_) 22 rfl rfl (by kernel_rfl) (by kernel_rfl) (by kernel_rfl) (fun _ _ _ h => h) (Or.inl ⟨by kernel_rfl, ?hyS1_4_0_⟩) (by assumption) (by kernel_rfl) ?restS1_4_0_
    case hyS1_4_0_ => (intro W_ hS_; (try dsimp only at hS_); go_simp; (try (with_reducible rfl)))
    try simp only [Act.put, siA, scZ, scS]
    refine wpTill_ready (rs := [5]) (by kernel_rfl) (by simp) ?_
    refine (AllTill.cons rfl (fun K_ hK_ => ?_) AllTill.nil)
    go_simp
    refine (kobj_c (k := ⟨some ad, sm, lc, wa, wm, wc, kw, f, some ⟨L, 0, none⟩, sm, sc, d⟩) (KIs.to h (below_then hT1 (below_drew1 _))) i hi q3 H3.out).mono ?_
    rintro e wr5 ⟨rfl, hBr5⟩
    go_wp2_with fail
    refine hK_.out _ _ (fun _ => by exact ⟨cellsK' (block_below hBr5 (block_below (below_drew1 _) hk1)), cells7' (block_below hBr5 (block_below (below_drew1 _) hn1))⟩) (fun hHeld_5_0 => ?_)
    replace hHeld_5_0 := hHeld_5_0 (by decide)
    clear hK_
    try simp only [Act.put, siA, scZ, scS]
    refine wpTill_ready (rs := [6]) (by kernel_rfl) (by simp) ?_
    refine (AllTill.cons rfl (fun K_ hK_ => ?_) AllTill.nil)
    go_simp
    refine (heard_c (NIs.to (NIs.to hV1 (below_drew1 _)) hBr5) (FIs.to (FIs.to hF1 (below_drew1 _)) hBr5) HokN.out HF.out (fun b hb => gap_up hP (by omega) b (by have h1 := (Array.getElem?_eq_some_iff.1 (block_below hBr5 (block_below (below_drew1 _) hn1))).1; have h2 := Hs0.out; exact Nat.le_trans (by omega) hb)) false q3 M HM.out).mono ?_
    rintro e wr6 ⟨n2, rfl, hM_, hBr6⟩
    go_wp2_with fail
    refine hK_.out _ _ (fun _ => by exact ⟨cellsK' (block_below hBr6 (block_below hBr5 (block_below (below_drew1 _) hk1))), cells7' (block_below hBr6 (block_below hBr5 (block_below (below_drew1 _) hn1)))⟩) (fun hHeld_6_1 => ?_)
    replace hHeld_6_1 := hHeld_6_1 (by decide)
    clear hK_
    try simp only [Act.put, siA, scZ, scS]
    refine wpTill_ready (rs := [7]) (by kernel_rfl) (by simp) ?_
    refine (AllTill.cons rfl (fun K_ hK_ => ?_) AllTill.nil)
    obtain ⟨⟨z0, z1, z2, z3, z4, z5, z6⟩, y0, y1, y2, y3, y4, y5, y6⟩ := cells7 (block_below hBr6 (block_below hBr5 (block_below (below_drew1 _) hr1)))
    go_simp
    go_wp2_with fail
    clear z0 z1 z2 z3 z4 z5 z6 y0 y1 y2 y3 y4 y5 y6
    refine hK_.out _ _ (fun h_ => absurd rfl h_) (fun hHeld_7_2 => ?_)
    clear hK_
    try simp only [Act.put, siA, scZ, scS]
    refine wpTill_done (by kernel_rfl) ?_ _
    skip
    obtain ⟨w2, hw2⟩ : ∃ w2, wr6 = w2 := ⟨_, rfl⟩
    have hB2 : Below w1.heap.size w1 w2 := by rw [← hw2]; exact (below_then (below_then (below_drew1 _) hBr5) hBr6)
    have hM2 := hM_
    rw [hw2] at hM2
    rw [hw2]
    clear hw2 hM_ hBr5 hBr6
    have hT2 := below_then hT1 hB2
    have hZ2 := below_then hZ1 hB2
    clear hZ1
    have hk2 := block_below hB2 hk1
    have hr2 := block_below hB2 hr1
    have hn2 := block_below hB2 hn1
    have hV2 := NIs.to hV1 hB2
    have hF2 := FIs.to hF1 hB2
    clear hT1 hk1 hr1 hn1 hV1 hF1 hB2
    go_wp2_with fail
    exact bodyPost_ret (v := NV.v n2) (results_n (n := n2) rfl _ rfl (set7_obj hr2 _ _ _ _ _ _ _)) rfl ⟨n2, rfl, (hM2.grow (set7_grown _ _ _ _ _ _ _ _ _) (gap_not (by omega) (by omega))).ungap, below_g hT2 (set7_grown _ _ _ _ _ _ _ _ _) (by omega)⟩
  by_cases hs : m.k.s = 2
  rotate_left
  · skip
    have hM2 : sentN N false = M := by rw [← hM, ← Hks.out, decide_eq_false hs]; rfl
    have HM := Lib.hid hM2
    have d1 : (m.k.s == 2) = false := by simpa using hs
    clear hM hM2 hs
    obtain ⟨w0, hw0⟩ : ∃ w0, ((w.alloc (.cells #[.slice (some ad) sm lc, .slice wa wm wc, .int .i64 kw, .bool f.x, .int .i64 f.i, .bool f.r, .int .i64 f.n, .slice f.a f.m f.c, .slice (some ⟨L, 0, none⟩) sm sc, .bool d] 76)).alloc (.cells #[.slice none 0 0, .slice none 0 0, .int .i64 0, .int .i64 0, .int .i64 0, .int .i64 0, .slice none 0 0] 49)) = w0 := ⟨_, rfl⟩
    have hT0 : Below w.heap.size w w0 := by rw [← hw0]; exact below_then (below_alloc1 _ _) (below_alloc1 _ _)
    have hk0 : w0.heap[w.heap.size]? = some (.cells #[.slice (some ad) sm lc, .slice wa wm wc, .int .i64 kw, .bool f.x, .int .i64 f.i, .bool f.r, .int .i64 f.n, .slice f.a f.m f.c, .slice (some ⟨L, 0, none⟩) sm sc, .bool d] 76) := by rw [← hw0]; exact block_below (below_alloc1 _ _) (World.alloc_heap_new _ _)
    have hr0 : w0.heap[(w.heap.size + 1)]? = some (.cells #[.slice none 0 0, .slice none 0 0, .int .i64 0, .int .i64 0, .int .i64 0, .int .i64 0, .slice none 0 0] 49) := by rw [← hw0]; exact alloc_at _ _ (by simp)
    have hs0 : w0.heap.size = w.heap.size + 2 := by rw [← hw0]; simp
    have Hs0 := Lib.hid hs0
    clear hs0
    have hAt0 := nat_to hAt hT0
    have ht_ := hAt0
    obtain ⟨t0, t1, t2, t3, t4, t5, t6⟩ := ht_
    have hs_ := cell_to10 hsc hT0
    obtain ⟨kc0, kc1, kc2, kc3, kc4, kc5, kc6, kc7, kc8, kc9⟩ := cellsK' hk0
    obtain ⟨rc0, rc1, rc2, rc3, rc4, rc5, rc6⟩ := cells7' hr0
    go_enter Tryz.func45, Tryz.ntmps45
    go_upto_region 2 with fail
    clear kc0 kc1 kc2 kc3 kc4 kc5 kc6 kc7 kc8 kc9 rc0 rc1 rc2 rc3 rc4 rc5 rc6
    clear hw0
    have hZ0 := Below.refl w0.heap.size w0
    clear t0 t1 t2 t3 t4 t5 t6
    clear hs_
    have hgen : w.heap.size ≤ w0.heap.size := hT0.size
    have Hk_n := Lib.hid (show w.heap.size ≠ w0.heap.size from Nat.ne_of_lt (Array.getElem?_eq_some_iff.1 hk0).1)
    have Hn_k := Lib.hid (show w0.heap.size ≠ w.heap.size from Ne.symm Hk_n.out)
    have Hr_n := Lib.hid (show (w.heap.size + 1) ≠ w0.heap.size from Nat.ne_of_lt (Array.getElem?_eq_some_iff.1 hr0).1)
    have Hn_r := Lib.hid (show w0.heap.size ≠ (w.heap.size + 1) from Ne.symm Hr_n.out)
    obtain ⟨w1, hw1⟩ : ∃ w1, w0.alloc (.cells #[.slice m.qa m.qm m.qc, .slice m.la m.lm m.lc, .int .i64 m.k.t, .int .i64 m.k.r, .int .i64 m.k.s, .int .i64 m.k.q, .slice m.ga m.gm m.gc] 49) = w1 := ⟨_, rfl⟩
    have hB1 : Below w0.heap.size w0 w1 := by rw [← hw1]; exact below_alloc1 _ _
    have hn1 : w1.heap[w0.heap.size]? = some (.cells #[.slice m.qa m.qm m.qc, .slice m.la m.lm m.lc, .int .i64 m.k.t, .int .i64 m.k.r, .int .i64 m.k.s, .int .i64 m.k.q, .slice m.ga m.gm m.gc] 49) := by rw [← hw1]; exact World.alloc_heap_new _ _
    rw [hw1]
    clear hw1
    have hT1 := below_then hT0 hB1
    have hZ1 := below_then hZ0 hB1
    clear hZ0
    have hk1 := block_below hB1 hk0
    have hr1 := block_below hB1 hr0
    clear hT0 hk0 hr0  hB1
    have hs_ := cell_to10 hsc hT1
    have Hk_r := Lib.hid (show w.heap.size ≠ w.heap.size + 1 by omega)
    obtain ⟨kc0, kc1, kc2, kc3, kc4, kc5, kc6, kc7, kc8, kc9⟩ := cellsK' hk1
    obtain ⟨nc0, nc1, nc2, nc3, nc4, nc5, nc6⟩ := cells7' hn1
    go_wp2_with fail
    clear kc0 kc1 kc2 kc3 kc4 kc5 kc6 kc7 kc8 kc9 nc0 nc1 nc2 nc3 nc4 nc5 nc6
    clear hs_
    refine (sent_c (hV.gap (w.heap.size + 3) |>.to hT1) HokN.out (fun b hb => gap_up hP (by omega) b (by have h1 := (Array.getElem?_eq_some_iff.1 hn1).1; have h2 := Hs0.out; exact Nat.le_trans (by omega) hb)) false M HM.out).mono ?_
    rintro e w2 ⟨n2, rfl, hM_, hB2⟩
    have hT2 := below_then hT1 hB2
    have hZ2 := below_then hZ1 hB2
    clear hZ1
    have hk2 := block_below hB2 hk1
    have hr2 := block_below hB2 hr1
    have hn2 := block_below hB2 hn1
    clear hT1 hk1 hr1 hn1  hB2
    have hM2 := hM_
    clear hM_
    obtain ⟨⟨rc0, rc1, rc2, rc3, rc4, rc5, rc6⟩, rf0, rf1, rf2, rf3, rf4, rf5, rf6⟩ := cells7 hr2
    go_wp2_with fail
    clear rc0 rc1 rc2 rc3 rc4 rc5 rc6 rf0 rf1 rf2 rf3 rf4 rf5 rf6
    exact bodyPost_ret (v := NV.v n2) (results_n (n := n2) rfl _ rfl (set7_obj hr2 _ _ _ _ _ _ _)) rfl ⟨n2, rfl, (hM2.grow (set7_grown _ _ _ _ _ _ _ _ _) (gap_not (by omega) (by omega))).ungap, below_g hT2 (set7_grown _ _ _ _ _ _ _ _ _) (by omega)⟩
  have d1 : (m.k.s == 2) = true := by simp [hs]
  cases d
  · skip
    obtain rfl : N = M := by rw [← hM, ← Hks.out, decide_eq_true hs]; rfl
    clear hM hs
    obtain ⟨w0, hw0⟩ : ∃ w0, ((w.alloc (.cells #[.slice (some ad) sm lc, .slice wa wm wc, .int .i64 kw, .bool f.x, .int .i64 f.i, .bool f.r, .int .i64 f.n, .slice f.a f.m f.c, .slice (some ⟨L, 0, none⟩) sm sc, .bool false] 76)).alloc (.cells #[.slice none 0 0, .slice none 0 0, .int .i64 0, .int .i64 0, .int .i64 0, .int .i64 0, .slice none 0 0] 49)) = w0 := ⟨_, rfl⟩
    have hT0 : Below w.heap.size w w0 := by rw [← hw0]; exact below_then (below_alloc1 _ _) (below_alloc1 _ _)
    have hk0 : w0.heap[w.heap.size]? = some (.cells #[.slice (some ad) sm lc, .slice wa wm wc, .int .i64 kw, .bool f.x, .int .i64 f.i, .bool f.r, .int .i64 f.n, .slice f.a f.m f.c, .slice (some ⟨L, 0, none⟩) sm sc, .bool false] 76) := by rw [← hw0]; exact block_below (below_alloc1 _ _) (World.alloc_heap_new _ _)
    have hr0 : w0.heap[(w.heap.size + 1)]? = some (.cells #[.slice none 0 0, .slice none 0 0, .int .i64 0, .int .i64 0, .int .i64 0, .int .i64 0, .slice none 0 0] 49) := by rw [← hw0]; exact alloc_at _ _ (by simp)
    have hs0 : w0.heap.size = w.heap.size + 2 := by rw [← hw0]; simp
    have Hs0 := Lib.hid hs0
    clear hs0
    have hAt0 := nat_to hAt hT0
    have ht_ := hAt0
    obtain ⟨t0, t1, t2, t3, t4, t5, t6⟩ := ht_
    have hs_ := cell_to10 hsc hT0
    obtain ⟨kc0, kc1, kc2, kc3, kc4, kc5, kc6, kc7, kc8, kc9⟩ := cellsK' hk0
    obtain ⟨rc0, rc1, rc2, rc3, rc4, rc5, rc6⟩ := cells7' hr0
    go_enter Tryz.func45, Tryz.ntmps45
    go_upto_region 2 with fail
    clear kc0 kc1 kc2 kc3 kc4 kc5 kc6 kc7 kc8 kc9 rc0 rc1 rc2 rc3 rc4 rc5 rc6
    clear hw0
    have hZ0 := Below.refl w0.heap.size w0
    clear t0 t1 t2 t3 t4 t5 t6
    clear hs_
    have hgen : w.heap.size ≤ w0.heap.size := hT0.size
    have Hk_n := Lib.hid (show w.heap.size ≠ w0.heap.size from Nat.ne_of_lt (Array.getElem?_eq_some_iff.1 hk0).1)
    have Hn_k := Lib.hid (show w0.heap.size ≠ w.heap.size from Ne.symm Hk_n.out)
    have Hr_n := Lib.hid (show (w.heap.size + 1) ≠ w0.heap.size from Nat.ne_of_lt (Array.getElem?_eq_some_iff.1 hr0).1)
    have Hn_r := Lib.hid (show w0.heap.size ≠ (w.heap.size + 1) from Ne.symm Hr_n.out)
    obtain ⟨w1, hw1⟩ : ∃ w1, w0.alloc (.cells #[.slice m.qa m.qm m.qc, .slice m.la m.lm m.lc, .int .i64 m.k.t, .int .i64 m.k.r, .int .i64 m.k.s, .int .i64 m.k.q, .slice m.ga m.gm m.gc] 49) = w1 := ⟨_, rfl⟩
    have hB1 : Below w0.heap.size w0 w1 := by rw [← hw1]; exact below_alloc1 _ _
    have hn1 : w1.heap[w0.heap.size]? = some (.cells #[.slice m.qa m.qm m.qc, .slice m.la m.lm m.lc, .int .i64 m.k.t, .int .i64 m.k.r, .int .i64 m.k.s, .int .i64 m.k.q, .slice m.ga m.gm m.gc] 49) := by rw [← hw1]; exact World.alloc_heap_new _ _
    rw [hw1]
    clear hw1
    have hT1 := below_then hT0 hB1
    have hZ1 := below_then hZ0 hB1
    clear hZ0
    have hk1 := block_below hB1 hk0
    have hr1 := block_below hB1 hr0
    clear hT0 hk0 hr0  hB1
    have hs_ := cell_to10 hsc hT1
    have Hk_r := Lib.hid (show w.heap.size ≠ w.heap.size + 1 by omega)
    obtain ⟨kc0, kc1, kc2, kc3, kc4, kc5, kc6, kc7, kc8, kc9⟩ := cellsK' hk1
    obtain ⟨⟨rc0, rc1, rc2, rc3, rc4, rc5, rc6⟩, rf0, rf1, rf2, rf3, rf4, rf5, rf6⟩ := cells7 hr1
    obtain ⟨nc0, nc1, nc2, nc3, nc4, nc5, nc6⟩ := cells7' hn1
    go_wp2_with fail
    clear kc0 kc1 kc2 kc3 kc4 kc5 kc6 kc7 kc8 kc9 rc0 rc1 rc2 rc3 rc4 rc5 rc6 rf0 rf1 rf2 rf3 rf4 rf5 rf6 nc0 nc1 nc2 nc3 nc4 nc5 nc6
    exact bodyPost_ret (v := NV.v m) (results_n (n := m) rfl _ rfl (set7_obj hr1 _ _ _ _ _ _ _)) rfl ⟨m, rfl, (((hV.gap (w.heap.size + 3)).to hT1).grow (set7_grown _ _ _ _ _ _ _ _ _) (gap_not (by omega) (by omega))).ungap, below_g hT1 (set7_grown _ _ _ _ _ _ _ _ _) (by omega)⟩
  have hM2 : sentN N false = M := by rw [← hM, ← Hks.out, decide_eq_true hs]; rfl
  have HM := Lib.hid hM2
  clear hM hM2 hs
  obtain ⟨w0, hw0⟩ : ∃ w0, ((w.alloc (.cells #[.slice (some ad) sm lc, .slice wa wm wc, .int .i64 kw, .bool f.x, .int .i64 f.i, .bool f.r, .int .i64 f.n, .slice f.a f.m f.c, .slice (some ⟨L, 0, none⟩) sm sc, .bool true] 76)).alloc (.cells #[.slice none 0 0, .slice none 0 0, .int .i64 0, .int .i64 0, .int .i64 0, .int .i64 0, .slice none 0 0] 49)) = w0 := ⟨_, rfl⟩
  have hT0 : Below w.heap.size w w0 := by rw [← hw0]; exact below_then (below_alloc1 _ _) (below_alloc1 _ _)
  have hk0 : w0.heap[w.heap.size]? = some (.cells #[.slice (some ad) sm lc, .slice wa wm wc, .int .i64 kw, .bool f.x, .int .i64 f.i, .bool f.r, .int .i64 f.n, .slice f.a f.m f.c, .slice (some ⟨L, 0, none⟩) sm sc, .bool true] 76) := by rw [← hw0]; exact block_below (below_alloc1 _ _) (World.alloc_heap_new _ _)
  have hr0 : w0.heap[(w.heap.size + 1)]? = some (.cells #[.slice none 0 0, .slice none 0 0, .int .i64 0, .int .i64 0, .int .i64 0, .int .i64 0, .slice none 0 0] 49) := by rw [← hw0]; exact alloc_at _ _ (by simp)
  have hs0 : w0.heap.size = w.heap.size + 2 := by rw [← hw0]; simp
  have Hs0 := Lib.hid hs0
  clear hs0
  have hAt0 := nat_to hAt hT0
  have ht_ := hAt0
  obtain ⟨t0, t1, t2, t3, t4, t5, t6⟩ := ht_
  have hs_ := cell_to10 hsc hT0
  obtain ⟨kc0, kc1, kc2, kc3, kc4, kc5, kc6, kc7, kc8, kc9⟩ := cellsK' hk0
  obtain ⟨rc0, rc1, rc2, rc3, rc4, rc5, rc6⟩ := cells7' hr0
  go_enter Tryz.func45, Tryz.ntmps45
  go_upto_region 2 with fail
  clear kc0 kc1 kc2 kc3 kc4 kc5 kc6 kc7 kc8 kc9 rc0 rc1 rc2 rc3 rc4 rc5 rc6
  clear hw0
  have hZ0 := Below.refl w0.heap.size w0
  clear t0 t1 t2 t3 t4 t5 t6
  clear hs_
  have hgen : w.heap.size ≤ w0.heap.size := hT0.size
  have Hk_n := Lib.hid (show w.heap.size ≠ w0.heap.size from Nat.ne_of_lt (Array.getElem?_eq_some_iff.1 hk0).1)
  have Hn_k := Lib.hid (show w0.heap.size ≠ w.heap.size from Ne.symm Hk_n.out)
  have Hr_n := Lib.hid (show (w.heap.size + 1) ≠ w0.heap.size from Nat.ne_of_lt (Array.getElem?_eq_some_iff.1 hr0).1)
  have Hn_r := Lib.hid (show w0.heap.size ≠ (w.heap.size + 1) from Ne.symm Hr_n.out)
  obtain ⟨w1, hw1⟩ : ∃ w1, w0.alloc (.cells #[.slice m.qa m.qm m.qc, .slice m.la m.lm m.lc, .int .i64 m.k.t, .int .i64 m.k.r, .int .i64 m.k.s, .int .i64 m.k.q, .slice m.ga m.gm m.gc] 49) = w1 := ⟨_, rfl⟩
  have hB1 : Below w0.heap.size w0 w1 := by rw [← hw1]; exact below_alloc1 _ _
  have hn1 : w1.heap[w0.heap.size]? = some (.cells #[.slice m.qa m.qm m.qc, .slice m.la m.lm m.lc, .int .i64 m.k.t, .int .i64 m.k.r, .int .i64 m.k.s, .int .i64 m.k.q, .slice m.ga m.gm m.gc] 49) := by rw [← hw1]; exact World.alloc_heap_new _ _
  rw [hw1]
  clear hw1
  have hT1 := below_then hT0 hB1
  have hZ1 := below_then hZ0 hB1
  clear hZ0
  have hk1 := block_below hB1 hk0
  have hr1 := block_below hB1 hr0
  clear hT0 hk0 hr0  hB1
  have hs_ := cell_to10 hsc hT1
  have Hk_r := Lib.hid (show w.heap.size ≠ w.heap.size + 1 by omega)
  obtain ⟨kc0, kc1, kc2, kc3, kc4, kc5, kc6, kc7, kc8, kc9⟩ := cellsK' hk1
  obtain ⟨nc0, nc1, nc2, nc3, nc4, nc5, nc6⟩ := cells7' hn1
  go_wp2_with fail
  clear kc0 kc1 kc2 kc3 kc4 kc5 kc6 kc7 kc8 kc9 nc0 nc1 nc2 nc3 nc4 nc5 nc6
  clear hs_
  refine (sent_c (hV.gap (w.heap.size + 3) |>.to hT1) HokN.out (fun b hb => gap_up hP (by omega) b (by have h1 := (Array.getElem?_eq_some_iff.1 hn1).1; have h2 := Hs0.out; exact Nat.le_trans (by omega) hb)) false M HM.out).mono ?_
  rintro e w2 ⟨n2, rfl, hM_, hB2⟩
  have hT2 := below_then hT1 hB2
  have hZ2 := below_then hZ1 hB2
  clear hZ1
  have hk2 := block_below hB2 hk1
  have hr2 := block_below hB2 hr1
  have hn2 := block_below hB2 hn1
  clear hT1 hk1 hr1 hn1  hB2
  have hM2 := hM_
  clear hM_
  obtain ⟨⟨rc0, rc1, rc2, rc3, rc4, rc5, rc6⟩, rf0, rf1, rf2, rf3, rf4, rf5, rf6⟩ := cells7 hr2
  go_wp2_with fail
  clear rc0 rc1 rc2 rc3 rc4 rc5 rc6 rf0 rf1 rf2 rf3 rf4 rf5 rf6
  exact bodyPost_ret (v := NV.v n2) (results_n (n := n2) rfl _ rfl (set7_obj hr2 _ _ _ _ _ _ _)) rfl ⟨n2, rfl, (hM2.grow (set7_grown _ _ _ _ _ _ _ _ _) (gap_not (by omega) (by omega))).ungap, below_g hT2 (set7_grown _ _ _ _ _ _ _ _ _) (by omega)⟩
theorem passed_c {w : World} {P : Nat → Prop} {k : KV} {Ns : List NC} {H : List Int} {F : FC} (h : KIs w P k Ns H F (alongs Ns)) (hok : OkNs Ns) (hF : rightC F = true) (hP : ∀ b, w.heap.size ≤ b → P b) (i : Nat) (hi : i < k.lm) (M : NC) (hM : passedN Ns H F i = M) :
    Calls Tryz.prog 47 #[k.v, .int .i64 i] w fun e w' => ∃ n' : NV, e = .returned n'.v ∧ NIs w' P n' M ∧ Below w.heap.size w w' := by
  have HF := Lib.hid hF
  obtain ⟨la, lm, lc, wa, wm, wc, kw, f, sa, sm, sc, d⟩ := k
  try dsimp only at hi
  have hlm : Ns.length = lm := h.l.len
  obtain rfl : sm = lm := by have h_ : (alongs Ns).length = sm := h.sl; rw [alongs_len] at h_; omega
  have Hlm := Lib.hid hlm
  clear hlm
  obtain ⟨L, hsa, hbk⟩ := h.s
  dsimp only at hsa
  subst hsa
  have hbig : sm ≤ maxLen := h.l.big
  unfold maxLen at hbig
  obtain ⟨ad, m, ea_, hAt, hV⟩ := NSl.at_ h.l hi
  dsimp only at ea_
  subst ea_
  obtain ⟨N, hN_⟩ : ∃ N_, nd Ns i = N_ := ⟨_, rfl⟩
  replace hV : NIs w P m N := by rw [← hN_]; exact hV
  have HN := Lib.hid hN_
  clear hN_
  obtain ⟨b, hb_⟩ : ∃ b, alongN Ns i = b := ⟨_, rfl⟩
  have hsc : w.cell? ⟨L, i, none⟩ = some (.bool b) := by have h_ := (hbk.cell (k := i) (by rw [alongs_len, Hlm.out]; exact hi)).1; rw [alongs_at (by rw [Hlm.out]; exact hi), hb_] at h_; exact h_
  have Hb := Lib.hid hb_
  clear hb_ hbk
  have j1 : (i : Int) < (sm : Int) := by omega
  have hks : m.k.s = N.k.s := by rw [hV.k]
  have Hks := Lib.hid hks
  clear hks
  have HokN := Lib.hid (show OkN N by rw [← HN.out]; exact hok.at_ (by rw [Hlm.out]; exact hi))
  unfold passedN at hM
  rw [Hb.out, show nd Ns i = N from HN.out] at hM
  clear hF hok
  cases b
  rotate_left
  · skip
    have hM2 : sentN N true = M := hM
    have HM := Lib.hid hM2
    clear hM hM2
    obtain ⟨w0, hw0⟩ : ∃ w0, ((w.alloc (.cells #[.slice (some ad) sm lc, .slice wa wm wc, .int .i64 kw, .bool f.x, .int .i64 f.i, .bool f.r, .int .i64 f.n, .slice f.a f.m f.c, .slice (some ⟨L, 0, none⟩) sm sc, .bool d] 76)).alloc (.cells #[.slice none 0 0, .slice none 0 0, .int .i64 0, .int .i64 0, .int .i64 0, .int .i64 0, .slice none 0 0] 49)) = w0 := ⟨_, rfl⟩
    have hT0 : Below w.heap.size w w0 := by rw [← hw0]; exact below_then (below_alloc1 _ _) (below_alloc1 _ _)
    have hk0 : w0.heap[w.heap.size]? = some (.cells #[.slice (some ad) sm lc, .slice wa wm wc, .int .i64 kw, .bool f.x, .int .i64 f.i, .bool f.r, .int .i64 f.n, .slice f.a f.m f.c, .slice (some ⟨L, 0, none⟩) sm sc, .bool d] 76) := by rw [← hw0]; exact block_below (below_alloc1 _ _) (World.alloc_heap_new _ _)
    have hr0 : w0.heap[(w.heap.size + 1)]? = some (.cells #[.slice none 0 0, .slice none 0 0, .int .i64 0, .int .i64 0, .int .i64 0, .int .i64 0, .slice none 0 0] 49) := by rw [← hw0]; exact alloc_at _ _ (by simp)
    have hs0 : w0.heap.size = w.heap.size + 2 := by rw [← hw0]; simp
    have Hs0 := Lib.hid hs0
    clear hs0
    have hAt0 := nat_to hAt hT0
    have ht_ := hAt0
    obtain ⟨t0, t1, t2, t3, t4, t5, t6⟩ := ht_
    have hs_ := cell_to10 hsc hT0
    obtain ⟨kc0, kc1, kc2, kc3, kc4, kc5, kc6, kc7, kc8, kc9⟩ := cellsK' hk0
    obtain ⟨rc0, rc1, rc2, rc3, rc4, rc5, rc6⟩ := cells7' hr0
    go_enter Tryz.func47, Tryz.ntmps47
    go_wp2_with fail
    clear kc0 kc1 kc2 kc3 kc4 kc5 kc6 kc7 kc8 kc9 rc0 rc1 rc2 rc3 rc4 rc5 rc6
    clear hw0
    have hZ0 := Below.refl w0.heap.size w0
    clear t0 t1 t2 t3 t4 t5 t6
    have Hk_r := Lib.hid (show w.heap.size ≠ w.heap.size + 1 by omega)
    clear hs_
    refine (sent_c (hV.gap (w.heap.size + 2) |>.to hT0) HokN.out (fun b hb => gap_up hP (by omega) b (by have h2 := Hs0.out; exact Nat.le_trans (by omega) hb)) true M HM.out).mono ?_
    rintro e w1 ⟨n2, rfl, hM_, hB1⟩
    have hT1 := below_then hT0 hB1
    have hZ1 := below_then hZ0 hB1
    clear hZ0
    have hk1 := block_below hB1 hk0
    have hr1 := block_below hB1 hr0
    clear hT0 hk0 hr0  hB1
    have hM1 := hM_
    clear hM_
    obtain ⟨⟨rc0, rc1, rc2, rc3, rc4, rc5, rc6⟩, rf0, rf1, rf2, rf3, rf4, rf5, rf6⟩ := cells7 hr1
    go_wp2_with fail
    clear rc0 rc1 rc2 rc3 rc4 rc5 rc6 rf0 rf1 rf2 rf3 rf4 rf5 rf6
    exact bodyPost_ret (v := NV.v n2) (results_n (n := n2) rfl _ rfl (set7_obj hr1 _ _ _ _ _ _ _)) rfl ⟨n2, rfl, (hM1.grow (set7_grown _ _ _ _ _ _ _ _ _) (gap_not (by omega) (by omega))).ungap, below_g hT1 (set7_grown _ _ _ _ _ _ _ _ _) (by omega)⟩
  obtain ⟨q3, h3⟩ : ∃ q, inH H i = q := ⟨_, rfl⟩
  have hM2 : heardN N F (!q3) false = M := by rw [← hM, ← h3]; rfl
  have H3 := Lib.hid h3
  have HM := Lib.hid hM2
  clear hM hM2 h3
  obtain ⟨w0, hw0⟩ : ∃ w0, ((w.alloc (.cells #[.slice (some ad) sm lc, .slice wa wm wc, .int .i64 kw, .bool f.x, .int .i64 f.i, .bool f.r, .int .i64 f.n, .slice f.a f.m f.c, .slice (some ⟨L, 0, none⟩) sm sc, .bool d] 76)).alloc (.cells #[.slice none 0 0, .slice none 0 0, .int .i64 0, .int .i64 0, .int .i64 0, .int .i64 0, .slice none 0 0] 49)) = w0 := ⟨_, rfl⟩
  have hT0 : Below w.heap.size w w0 := by rw [← hw0]; exact below_then (below_alloc1 _ _) (below_alloc1 _ _)
  have hk0 : w0.heap[w.heap.size]? = some (.cells #[.slice (some ad) sm lc, .slice wa wm wc, .int .i64 kw, .bool f.x, .int .i64 f.i, .bool f.r, .int .i64 f.n, .slice f.a f.m f.c, .slice (some ⟨L, 0, none⟩) sm sc, .bool d] 76) := by rw [← hw0]; exact block_below (below_alloc1 _ _) (World.alloc_heap_new _ _)
  have hr0 : w0.heap[(w.heap.size + 1)]? = some (.cells #[.slice none 0 0, .slice none 0 0, .int .i64 0, .int .i64 0, .int .i64 0, .int .i64 0, .slice none 0 0] 49) := by rw [← hw0]; exact alloc_at _ _ (by simp)
  have hs0 : w0.heap.size = w.heap.size + 2 := by rw [← hw0]; simp
  have Hs0 := Lib.hid hs0
  clear hs0
  have hAt0 := nat_to hAt hT0
  have ht_ := hAt0
  obtain ⟨t0, t1, t2, t3, t4, t5, t6⟩ := ht_
  have hs_ := cell_to10 hsc hT0
  obtain ⟨kc0, kc1, kc2, kc3, kc4, kc5, kc6, kc7, kc8, kc9⟩ := cellsK' hk0
  obtain ⟨rc0, rc1, rc2, rc3, rc4, rc5, rc6⟩ := cells7' hr0
  go_enter Tryz.func47, Tryz.ntmps47
  go_wp2_with fail
  clear kc0 kc1 kc2 kc3 kc4 kc5 kc6 kc7 kc8 kc9 rc0 rc1 rc2 rc3 rc4 rc5 rc6
  clear hw0
  have hZ0 := Below.refl w0.heap.size w0
  clear t0 t1 t2 t3 t4 t5 t6
  have Hk_r := Lib.hid (show w.heap.size ≠ w.heap.size + 1 by omega)
  clear hs_
  have hV0 := (hV.gap (w.heap.size + 2)).to hT0
  have hF0 := (h.f.gap (w.heap.size + 2)).to hT0
  dsimp only at hF0
  refine wp_region_till 12 (S := fun W => (W.cell? ⟨w.heap.size, 0, none⟩ = some (.slice (some ad) sm lc) ∧ W.cell? ⟨w.heap.size, 1, none⟩ = some (.slice wa wm wc) ∧ W.cell? ⟨w.heap.size, 2, none⟩ = some (.int .i64 kw) ∧ W.cell? ⟨w.heap.size, 3, none⟩ = some (.bool f.x) ∧ W.cell? ⟨w.heap.size, 4, none⟩ = some (.int .i64 f.i) ∧ W.cell? ⟨w.heap.size, 5, none⟩ = some (.bool f.r) ∧ W.cell? ⟨w.heap.size, 6, none⟩ = some (.int .i64 f.n) ∧ W.cell? ⟨w.heap.size, 7, none⟩ = some (.slice f.a f.m f.c) ∧ W.cell? ⟨w.heap.size, 8, none⟩ = some (.slice (some ⟨L, 0, none⟩) sm sc) ∧ W.cell? ⟨w.heap.size, 9, none⟩ = some (.bool d)) ∧ (W.cell? (ad.add (i * 7)) = some (.slice m.qa m.qm m.qc) ∧ W.cell? ⟨(ad.add (i * 7)).block, (ad.add (i * 7)).off + 1, none⟩ = some (.slice m.la m.lm m.lc) ∧ W.cell? ⟨(ad.add (i * 7)).block, (ad.add (i * 7)).off + 2, none⟩ = some (.int .i64 m.k.t) ∧ W.cell? ⟨(ad.add (i * 7)).block, (ad.add (i * 7)).off + 3, none⟩ = some (.int .i64 m.k.r) ∧ W.cell? ⟨(ad.add (i * 7)).block, (ad.add (i * 7)).off + 4, none⟩ = some (.int .i64 m.k.s) ∧ W.cell? ⟨(ad.add (i * 7)).block, (ad.add (i * 7)).off + 5, none⟩ = some (.int .i64 m.k.q) ∧ W.cell? ⟨(ad.add (i * 7)).block, (ad.add (i * 7)).off + 6, none⟩ = some (.slice m.ga m.gm m.gc))) (by kernel_rfl) (by exact ⟨cellsK' (block_below (below_drew1 _) hk0), (nat_to hAt0 (below_drew1 _))⟩) (fun hHeld_ => ?_)
  refine wpTill_take (i := 0) (v := ?vS2_0_0_) 16 rfl rfl (by kernel_rfl) (by kernel_rfl) (by kernel_rfl) (fun _ _ _ h => h) (Or.inl ⟨by kernel_rfl, ?hyS2_0_0_⟩) (by assumption) (by kernel_rfl) ?restS2_0_0_
  case hyS2_0_0_ => (intro W_ hS_; (try dsimp only at hS_); go_simp; (try (with_reducible rfl)))
  try simp only [Act.put, siA, scZ, scS]
  refine wpTill_take (i := 1) (v := ?vS2_1_0_) 17 rfl rfl (by kernel_rfl) (by kernel_rfl) (by kernel_rfl) (fun _ _ _ h => h) (Or.inl ⟨by kernel_rfl, ?hyS2_1_0_⟩) (by assumption) (by kernel_rfl) ?restS2_1_0_
  case hyS2_1_0_ => (intro W_ hS_; (try dsimp only at hS_); go_simp; (try (with_reducible rfl)))
  try simp only [Act.put, siA, scZ, scS]
  refine wpTill_take (i := 2) (v := ?vS2_2_0_) 18 rfl rfl (by kernel_rfl) (by kernel_rfl) (by kernel_rfl) (fun _ _ _ h => h) (Or.inl ⟨by kernel_rfl, ?hyS2_2_0_⟩) (by assumption) (by kernel_rfl) ?restS2_2_0_
  case hyS2_2_0_ => (intro W_ hS_; (try dsimp only at hS_); go_simp; (try (with_reducible rfl)))
  try simp only [Act.put, siA, scZ, scS]
  refine wpTill_take (i := 3) (v := ?vS2_3_0_) 19 rfl rfl (by kernel_rfl) (by kernel_rfl) (by kernel_rfl) (fun _ _ _ h => h) (Or.inl ⟨by kernel_rfl, ?hyS2_3_0_⟩) (by assumption) (by kernel_rfl) ?restS2_3_0_
  case hyS2_3_0_ => (intro W_ hS_; (try dsimp only at hS_); go_simp; (try (with_reducible rfl)))
  try simp only [Act.put, siA, scZ, scS]
  refine wpTill_take (i := 4) (v := ?vS2_4_0_) 20 rfl rfl (by kernel_rfl) (by kernel_rfl) (by kernel_rfl) (fun _ _ _ h => h) (Or.inl ⟨by kernel_rfl, ?hyS2_4_0_⟩) (by assumption) (by kernel_rfl) ?restS2_4_0_
  case hyS2_4_0_ => (intro W_ hS_; (try dsimp only at hS_); go_simp; (try (with_reducible rfl)))
  try simp only [Act.put, siA, scZ, scS]
  refine wpTill_take (i := 5) (v := ?vS2_5_0_) 21 rfl rfl (by kernel_rfl) (by kernel_rfl) (by kernel_rfl) (fun _ _ _ h => h) (Or.inl ⟨by kernel_rfl, ?hyS2_5_0_⟩) (by assumption) (by kernel_rfl) ?restS2_5_0_
  case hyS2_5_0_ => (intro W_ hS_; (try dsimp only at hS_); go_simp; (try (with_reducible rfl)))
  try simp only [Act.put, siA, scZ, scS]
  refine wpTill_take (i := 6) (v := ?vS2_6_0_) 22 rfl rfl (by kernel_rfl) (by kernel_rfl) (by kernel_rfl) (fun _ _ _ h => h) (Or.inl ⟨by kernel_rfl, ?hyS2_6_0_⟩) (by assumption) (by kernel_rfl) ?restS2_6_0_
  case hyS2_6_0_ => (intro W_ hS_; (try dsimp only at hS_); go_simp; (try (with_reducible rfl)))
  try simp only [Act.put, siA, scZ, scS]
  refine wpTill_take (i := 7) (v := ?vS2_7_0_) 23 rfl rfl (by kernel_rfl) (by kernel_rfl) (by kernel_rfl) (fun _ _ _ h => h) (Or.inl ⟨by kernel_rfl, ?hyS2_7_0_⟩) (by assumption) (by kernel_rfl) ?restS2_7_0_
  case hyS2_7_0_ => (intro W_ hS_; (try dsimp only at hS_); go_simp; (try (with_reducible rfl)))
  try simp only [Act.put, siA, scZ, scS]
  refine wpTill_take (i := 8) (v := ?vS2_8_0_) 24 rfl rfl (by kernel_rfl) (by kernel_rfl) (by kernel_rfl) (fun _ _ _ h => h) (Or.inl ⟨by kernel_rfl, ?hyS2_8_0_⟩) (by assumption) (by kernel_rfl) ?restS2_8_0_
  case hyS2_8_0_ => (intro W_ hS_; (try dsimp only at hS_); go_simp; (try (with_reducible rfl)))
  try simp only [Act.put, siA, scZ, scS]
  refine wpTill_ready (rs := [9]) (by kernel_rfl) (by simp) ?_
  refine (AllTill.cons rfl (fun K_ hK_ => ?_) AllTill.nil)
  go_simp
  refine (khit_c (k := ⟨some ad, sm, lc, wa, wm, wc, kw, f, some ⟨L, 0, none⟩, sm, sc, d⟩) (KIs.to h (below_then hT0 (below_drew1 _))) i q3 H3.out).mono ?_
  rintro e wr9 ⟨rfl, hBr9⟩
  go_wp2_with fail
  refine hK_.out _ _ (fun _ => by exact ⟨cellsK' (block_below hBr9 (block_below (below_drew1 _) hk0)), (nat_to (nat_to hAt0 (below_drew1 _)) hBr9)⟩) (fun hHeld_9_0 => ?_)
  replace hHeld_9_0 := hHeld_9_0 (by decide)
  clear hK_
  try simp only [Act.put, siA, scZ, scS]
  refine wpTill_take (i := 10) (v := ?vS2_10_1_9) 26 rfl rfl (by kernel_rfl) (by kernel_rfl) (by kernel_rfl) (fun _ _ _ h => h) (Or.inl ⟨by kernel_rfl, ?hyS2_10_1_9⟩) (by assumption) (by kernel_rfl) ?restS2_10_1_9
  case hyS2_10_1_9 => (intro W_ hS_; (try dsimp only at hS_); go_simp; (try (with_reducible rfl)))
  try simp only [Act.put, siA, scZ, scS]
  refine wpTill_ready (rs := [11]) (by kernel_rfl) (by simp) ?_
  refine (AllTill.cons rfl (fun K_ hK_ => ?_) AllTill.nil)
  go_simp
  refine (heard_c (NIs.to (NIs.to hV0 (below_drew1 _)) hBr9) (FIs.to (FIs.to hF0 (below_drew1 _)) hBr9) HokN.out HF.out (fun b hb => gap_up hP (by omega) b (by have h1 := (Array.getElem?_eq_some_iff.1 (block_below hBr9 (block_below (below_drew1 _) hr0))).1; have h2 := Hs0.out; exact Nat.le_trans (by omega) hb)) (!q3) false M HM.out).mono ?_
  rintro e wr11 ⟨n2, rfl, hM_, hBr11⟩
  go_wp2_with fail
  refine hK_.out _ _ (fun _ => by exact ⟨cellsK' (block_below hBr11 (block_below hBr9 (block_below (below_drew1 _) hk0))), (nat_to (nat_to (nat_to hAt0 (below_drew1 _)) hBr9) hBr11)⟩) (fun hHeld_11_1 => ?_)
  replace hHeld_11_1 := hHeld_11_1 (by decide)
  clear hK_
  try simp only [Act.put, siA, scZ, scS]
  refine wpTill_ready (rs := [12]) (by kernel_rfl) (by simp) ?_
  refine (AllTill.cons rfl (fun K_ hK_ => ?_) AllTill.nil)
  obtain ⟨⟨z0, z1, z2, z3, z4, z5, z6⟩, y0, y1, y2, y3, y4, y5, y6⟩ := cells7 (block_below hBr11 (block_below hBr9 (block_below (below_drew1 _) hr0)))
  go_simp
  go_wp2_with fail
  clear z0 z1 z2 z3 z4 z5 z6 y0 y1 y2 y3 y4 y5 y6
  refine hK_.out _ _ (fun h_ => absurd rfl h_) (fun hHeld_12_2 => ?_)
  clear hK_
  try simp only [Act.put, siA, scZ, scS]
  refine wpTill_done (by kernel_rfl) ?_ _
  skip
  obtain ⟨w1, hw1⟩ : ∃ w1, wr11 = w1 := ⟨_, rfl⟩
  have hB1 : Below w0.heap.size w0 w1 := by rw [← hw1]; exact (below_then (below_then (below_drew1 _) hBr9) hBr11)
  have hM1 := hM_
  rw [hw1] at hM1
  rw [hw1]
  clear hw1 hM_ hBr9 hBr11
  have hT1 := below_then hT0 hB1
  have hZ1 := below_then hZ0 hB1
  clear hZ0
  have hk1 := block_below hB1 hk0
  have hr1 := block_below hB1 hr0
  have hV1 := NIs.to hV0 hB1
  have hF1 := FIs.to hF0 hB1
  clear hT0 hk0 hr0 hV0 hF0 hB1
  go_wp2_with fail
  exact bodyPost_ret (v := NV.v n2) (results_n (n := n2) rfl _ rfl (set7_obj hr1 _ _ _ _ _ _ _)) rfl ⟨n2, rfl, (hM1.grow (set7_grown _ _ _ _ _ _ _ _ _) (gap_not (by omega) (by omega))).ungap, below_g hT1 (set7_grown _ _ _ _ _ _ _ _ _) (by omega)⟩
theorem quiet1_c {w : World} {P : Nat → Prop} {X : Nat} {A : Option Addr} {n c : Nat} {Ns : List NC} (hx : w.heap[X]? = some (.cells #[.slice A n c] 22)) (h : NSl w P A n c Ns) (hok : OkNs Ns) (i : Nat) (hi : i < n) (M : NC) (hM : quietN (nd Ns i) = M) :
    Calls Tryz.prog 41 #[.int .i64 i, .pointer (some ⟨X, 0, none⟩)] w fun e w' => ∃ n' : NV, e = .returned n'.v ∧ NIs w' P n' M ∧ Below w.heap.size w w' := by
  have HokN := Lib.hid (hok.at_ (by rw [h.len]; exact hi))
  have HM := Lib.hid hM
  clear hok hM
  obtain ⟨ad, m, ea_, hAt, hV⟩ := NSl.at_ h hi
  subst ea_
  have j1 : (i : Int) < (n : Int) := by omega
  obtain ⟨w0, hw0⟩ : ∃ w0, (w.alloc (.cells #[.slice none 0 0, .slice none 0 0, .int .i64 0, .int .i64 0, .int .i64 0, .int .i64 0, .slice none 0 0] 49)) = w0 := ⟨_, rfl⟩
  have hT0 : Below w.heap.size w w0 := by rw [← hw0]; exact below_alloc1 _ _
  have hr0 : w0.heap[w.heap.size]? = some (.cells #[.slice none 0 0, .slice none 0 0, .int .i64 0, .int .i64 0, .int .i64 0, .int .i64 0, .slice none 0 0] 49) := by rw [← hw0]; exact World.alloc_heap_new _ _
  have hs0 : w0.heap.size = w.heap.size + 1 := by rw [← hw0]; simp
  have Hs0 := Lib.hid hs0
  clear hs0
  have hAt0 := nat_to hAt hT0
  have ht_ := hAt0
  obtain ⟨t0, t1, t2, t3, t4, t5, t6⟩ := ht_
  have hx_ := cells1' (block_below hT0 hx)
  obtain ⟨rc0, rc1, rc2, rc3, rc4, rc5, rc6⟩ := cells7' hr0
  go_enter Tryz.func41, Tryz.ntmps41
  go_wp2_with fail
  clear rc0 rc1 rc2 rc3 rc4 rc5 rc6
  clear hw0
  have hZ0 := Below.refl w0.heap.size w0
  clear t0 t1 t2 t3 t4 t5 t6 hx_
  refine (quiet_c (hV.gap (w.heap.size + 1) |>.to hT0) HokN.out M HM.out).mono ?_
  rintro e w1 ⟨n2, rfl, hM_, hB1⟩
  have hT1 := below_then hT0 hB1
  have hZ1 := below_then hZ0 hB1
  clear hZ0
  have hr1 := block_below hB1 hr0
  clear hT0 hr0  hB1
  have hM1 := hM_
  clear hM_
  obtain ⟨⟨rc0, rc1, rc2, rc3, rc4, rc5, rc6⟩, rf0, rf1, rf2, rf3, rf4, rf5, rf6⟩ := cells7 hr1
  go_wp2_with fail
  clear rc0 rc1 rc2 rc3 rc4 rc5 rc6 rf0 rf1 rf2 rf3 rf4 rf5 rf6
  exact bodyPost_ret (v := NV.v n2) (results_n (n := n2) rfl _ rfl (set7_obj hr1 _ _ _ _ _ _ _)) rfl ⟨n2, rfl, (hM1.grow (set7_grown _ _ _ _ _ _ _ _ _) (gap_not (by omega) (by omega))).ungap, below_g hT1 (set7_grown _ _ _ _ _ _ _ _ _) (by omega)⟩
theorem wrap64_eq10 {x : Int} (h1 : 0 ≤ x) (h2 : x < 9223372036854775808) : wrap64 x = x := by unfold wrap64; omega
theorem ktold_c {w : World} {P : Nat → Prop} {k : KV} {Ns : List NC} {H : List Int} {F : FC} (h : KIs w P k Ns H F (alongs Ns)) (hF : rightC F = true) (hP : ∀ b, w.heap.size ≤ b → P b) (ok : Bool) (more : Nat) (hmore : more ≤ 100) :
    Calls Tryz.prog 46 #[k.v, .bool ok, .int .i64 more] w fun e w' => ∃ t : TV, e = .returned t.v ∧ TIs w' P t ⟨k.w, F, ok, lenZ F + more⟩ ∧ Below w.heap.size w w' := by
  have HF := Lib.hid hF
  have hd := right_len hF
  have hl5 := lenC_le hF
  obtain ⟨l, hl_⟩ : ∃ l, lenC F = l := ⟨_, rfl⟩
  rw [hl_] at hl5
  have HL := Lib.hid hl_
  have hf := h.f
  have hm8 : k.f.m ≤ 8 := by rw [← hf.len]; exact hd
  obtain ⟨la, lm, lc, wa, wm, wc, kw, ⟨fx, fi, fr, fn, fa, fm, fc⟩, sa, sm, sc, d⟩ := k
  dsimp only at hf hm8
  have hwr : IntKind.i64.wrap ((l : Int) + (more : Int)) = (l : Int) + (more : Int) := by rw [IntKind.wrap_i64]; omega
  have hwr2 : wrap64 ((l : Int) + (more : Int)) = (l : Int) + (more : Int) := wrap64_eq10 (by omega) (by omega)
  clear hF hd hl_ h
  obtain ⟨w0, hw0⟩ : ∃ w0, ((w.alloc (.cells #[.slice la lm lc, .slice wa wm wc, .int .i64 kw, .bool fx, .int .i64 fi, .bool fr, .int .i64 fn, .slice fa fm fc, .slice sa sm sc, .bool d] 76)).alloc (.cells #[.int .i64 0, .bool false, .int .i64 0, .bool false, .int .i64 0, .slice none 0 0, .bool false, .int .i64 0] 36)) = w0 := ⟨_, rfl⟩
  have hT0 : Below w.heap.size w w0 := by rw [← hw0]; exact below_then (below_alloc1 _ _) (below_alloc1 _ _)
  have hk0 : w0.heap[w.heap.size]? = some (.cells #[.slice la lm lc, .slice wa wm wc, .int .i64 kw, .bool fx, .int .i64 fi, .bool fr, .int .i64 fn, .slice fa fm fc, .slice sa sm sc, .bool d] 76) := by rw [← hw0]; exact block_below (below_alloc1 _ _) (World.alloc_heap_new _ _)
  have hr0 : w0.heap[(w.heap.size + 1)]? = some (.cells #[.int .i64 0, .bool false, .int .i64 0, .bool false, .int .i64 0, .slice none 0 0, .bool false, .int .i64 0] 36) := by rw [← hw0]; exact alloc_at _ _ (by simp)
  have hs0 : w0.heap.size = w.heap.size + 2 := by rw [← hw0]; simp
  have Hs0 := Lib.hid hs0
  clear hs0
  obtain ⟨kc0, kc1, kc2, kc3, kc4, kc5, kc6, kc7, kc8, kc9⟩ := cellsK' hk0
  obtain ⟨rc0, rc1, rc2, rc3, rc4, rc5, rc6, rc7⟩ := cells8' hr0
  go_enter Tryz.func46, Tryz.ntmps46
  go_upto_region 2 with fail
  clear kc0 kc1 kc2 kc3 kc4 kc5 kc6 kc7 kc8 kc9 rc0 rc1 rc2 rc3 rc4 rc5 rc6 rc7
  clear hw0
  have hZ0 := Below.refl w0.heap.size w0
  have Hk_r := Lib.hid (show w.heap.size ≠ w.heap.size + 1 by omega)
  have hgef : w.heap.size ≤ w0.heap.size := hT0.size
  have Hk_f := Lib.hid (show w.heap.size ≠ w0.heap.size from Nat.ne_of_lt (Array.getElem?_eq_some_iff.1 hk0).1)
  have Hf_k := Lib.hid (show w0.heap.size ≠ w.heap.size from Ne.symm Hk_f.out)
  have Hr_f := Lib.hid (show (w.heap.size + 1) ≠ w0.heap.size from Nat.ne_of_lt (Array.getElem?_eq_some_iff.1 hr0).1)
  have Hf_r := Lib.hid (show w0.heap.size ≠ (w.heap.size + 1) from Ne.symm Hr_f.out)
  obtain ⟨w1, hw1⟩ : ∃ w1, w0.alloc (.cells #[.bool fx, .int .i64 fi, .bool fr, .int .i64 fn, .slice fa fm fc] 34) = w1 := ⟨_, rfl⟩
  have hB1 : Below w0.heap.size w0 w1 := by rw [← hw1]; exact below_alloc1 _ _
  have hf1 : w1.heap[w0.heap.size]? = some (.cells #[.bool fx, .int .i64 fi, .bool fr, .int .i64 fn, .slice fa fm fc] 34) := by rw [← hw1]; exact World.alloc_heap_new _ _
  rw [hw1]
  clear hw1
  have hT1 := below_then hT0 hB1
  have hZ1 := below_then hZ0 hB1
  clear hZ0
  have hk1 := block_below hB1 hk0
  have hr1 := block_below hB1 hr0
  clear hT0 hk0 hr0  hB1
  obtain ⟨fc0, fc1, fc2, fc3, fc4⟩ := cells5' hf1
  go_wp2_with fail
  clear fc0 fc1 fc2 fc3 fc4
  refine (clone_any F.d fm hf.len (by omega) fa fc w1 (hf.row.to hT1) (Gap P w.heap.size (w.heap.size + 3)) (fun b hb => gap_up hP (by omega) b (by have h1 := (Array.getElem?_eq_some_iff.1 hf1).1; have h2 := Hs0.out; exact Nat.le_trans (by omega) hb))).mono ?_
  rintro e w2 ⟨A2, c2, rfl, hrow_, hc2, hin, hB2⟩
  have hT2 := below_then hT1 hB2
  have hZ2 := below_then hZ1 hB2
  clear hZ1
  have hk2 := block_below hB2 hk1
  have hr2 := block_below hB2 hr1
  have hf2 := block_below hB2 hf1
  clear hT1 hk1 hr1 hf1  hB2
  have hQ2 : FIs w2 (Gap P w.heap.size (w.heap.size + 3)) ⟨fx, fi, fr, fn, A2, fm, c2⟩ F := ⟨hf.x, hf.i, hf.r, hf.n, hf.len, hc2, hf.big, hf.byte, hrow_, hin⟩
  clear hrow_ hin hc2
  obtain ⟨kc0, kc1, kc2, kc3, kc4, kc5, kc6, kc7, kc8, kc9⟩ := cellsK' hk2
  obtain ⟨⟨fc0, fc1, fc2, fc3, fc4⟩, ff0, ff1, ff2, ff3, ff4⟩ := cells5 hf2
  go_wp2_with fail
  clear kc0 kc1 kc2 kc3 kc4 kc5 kc6 kc7 kc8 kc9 fc0 fc1 fc2 fc3 fc4 ff0 ff1 ff2 ff3 ff4
  have hsz_ := Hs0.out
  obtain ⟨w3, hw3⟩ : ∃ w_, w2.setCell ⟨w0.heap.size, 4, none⟩ (.slice A2 fm c2) = w_ := ⟨_, rfl⟩
  have hG3 : w2.grownBy w3 (some w0.heap.size) := by rw [← hw3]; exact grown_setAt _ _ _ _
  have hT3 := below_g hT2 hG3 (by omega)
  have hk3 := other_g hG3 hk2 (by omega)
  have hr3 := other_g hG3 hr2 (by omega)
  have hf3 : w3.heap[w0.heap.size]? = some (.cells #[.bool fx, .int .i64 fi, .bool fr, .int .i64 fn, .slice A2 fm c2] 34) := by rw [← hw3]; exact set4_obj5 hf2 _
  have hQ3 := FIs.grow hQ2 hG3 (gap_not (by omega) (by omega))
  rw [hw3]
  clear hw3 hG3 hT2 hk2 hr2 hf2 hQ2
  clear hsz_
  refine wp_region_till 9 (S := fun W => (W.cell? ⟨w.heap.size, 0, none⟩ = some (.slice la lm lc) ∧ W.cell? ⟨w.heap.size, 1, none⟩ = some (.slice wa wm wc) ∧ W.cell? ⟨w.heap.size, 2, none⟩ = some (.int .i64 kw) ∧ W.cell? ⟨w.heap.size, 3, none⟩ = some (.bool fx) ∧ W.cell? ⟨w.heap.size, 4, none⟩ = some (.int .i64 fi) ∧ W.cell? ⟨w.heap.size, 5, none⟩ = some (.bool fr) ∧ W.cell? ⟨w.heap.size, 6, none⟩ = some (.int .i64 fn) ∧ W.cell? ⟨w.heap.size, 7, none⟩ = some (.slice fa fm fc) ∧ W.cell? ⟨w.heap.size, 8, none⟩ = some (.slice sa sm sc) ∧ W.cell? ⟨w.heap.size, 9, none⟩ = some (.bool d)) ∧ (W.cell? ⟨w0.heap.size, 0, none⟩ = some (.bool fx) ∧ W.cell? ⟨w0.heap.size, 1, none⟩ = some (.int .i64 fi) ∧ W.cell? ⟨w0.heap.size, 2, none⟩ = some (.bool fr) ∧ W.cell? ⟨w0.heap.size, 3, none⟩ = some (.int .i64 fn) ∧ W.cell? ⟨w0.heap.size, 4, none⟩ = some (.slice A2 fm c2))) (by kernel_rfl) (by exact ⟨cellsK' (block_below (below_drew1 _) hk3), cells5' (block_below (below_drew1 _) hf3)⟩) (fun hHeld_ => ?_)
  refine wpTill_take (i := 0) (v := ?vS3_0_0_) 14 rfl rfl (by kernel_rfl) (by kernel_rfl) (by kernel_rfl) (fun _ _ _ h => h) (Or.inl ⟨by kernel_rfl, ?hyS3_0_0_⟩) (by assumption) (by kernel_rfl) ?restS3_0_0_
  case hyS3_0_0_ => (intro W_ hS_; (try dsimp only at hS_); go_simp; (try (with_reducible rfl)))
  try simp only [Act.put, siA, scZ, scS]
  refine wpTill_take (i := 1) (v := ?vS3_1_0_) 15 rfl rfl (by kernel_rfl) (by kernel_rfl) (by kernel_rfl) (fun _ _ _ h => h) (Or.inl ⟨by kernel_rfl, ?hyS3_1_0_⟩) (by assumption) (by kernel_rfl) ?restS3_1_0_
  case hyS3_1_0_ => (intro W_ hS_; (try dsimp only at hS_); go_simp; (try (with_reducible rfl)))
  try simp only [Act.put, siA, scZ, scS]
  refine wpTill_take (i := 2) (v := ?vS3_2_0_) 16 rfl rfl (by kernel_rfl) (by kernel_rfl) (by kernel_rfl) (fun _ _ _ h => h) (Or.inl ⟨by kernel_rfl, ?hyS3_2_0_⟩) (by assumption) (by kernel_rfl) ?restS3_2_0_
  case hyS3_2_0_ => (intro W_ hS_; (try dsimp only at hS_); go_simp; (try (with_reducible rfl)))
  try simp only [Act.put, siA, scZ, scS]
  refine wpTill_take (i := 3) (v := ?vS3_3_0_) 17 rfl rfl (by kernel_rfl) (by kernel_rfl) (by kernel_rfl) (fun _ _ _ h => h) (Or.inl ⟨by kernel_rfl, ?hyS3_3_0_⟩) (by assumption) (by kernel_rfl) ?restS3_3_0_
  case hyS3_3_0_ => (intro W_ hS_; (try dsimp only at hS_); go_simp; (try (with_reducible rfl)))
  try simp only [Act.put, siA, scZ, scS]
  refine wpTill_take (i := 4) (v := ?vS3_4_0_) 18 rfl rfl (by kernel_rfl) (by kernel_rfl) (by kernel_rfl) (fun _ _ _ h => h) (Or.inl ⟨by kernel_rfl, ?hyS3_4_0_⟩) (by assumption) (by kernel_rfl) ?restS3_4_0_
  case hyS3_4_0_ => (intro W_ hS_; (try dsimp only at hS_); go_simp; (try (with_reducible rfl)))
  try simp only [Act.put, siA, scZ, scS]
  refine wpTill_take (i := 6) (v := ?vS3_6_0_) 20 rfl rfl (by kernel_rfl) (by kernel_rfl) (by kernel_rfl) (fun _ _ _ h => h) (Or.inl ⟨by kernel_rfl, ?hyS3_6_0_⟩) (by assumption) (by kernel_rfl) ?restS3_6_0_
  case hyS3_6_0_ => (intro W_ hS_; (try dsimp only at hS_); go_simp; (try (with_reducible rfl)))
  try simp only [Act.put, siA, scZ, scS]
  refine wpTill_ready (rs := [5]) (by kernel_rfl) (by simp) ?_
  refine (AllTill.cons rfl (fun K_ hK_ => ?_) AllTill.nil)
  go_simp
  refine (wireLen_c (FIs.to hQ3 (below_drew1 _)) HF.out l HL.out).mono ?_
  rintro e wr5 ⟨rfl, hBr5⟩
  go_wp2_with fail
  refine hK_.out _ _ (fun _ => by exact ⟨cellsK' (block_below hBr5 (block_below (below_drew1 _) hk3)), cells5' (block_below hBr5 (block_below (below_drew1 _) hf3))⟩) (fun hHeld_5_0 => ?_)
  replace hHeld_5_0 := hHeld_5_0 (by decide)
  clear hK_
  try simp only [Act.put, siA, scZ, scS]
  refine wpTill_take (i := 7) (v := ?vS3_7_1_5) 21 rfl rfl (by kernel_rfl) (by kernel_rfl) (by kernel_rfl) (fun _ _ _ h => h) (Or.inl ⟨by kernel_rfl, ?hyS3_7_1_5⟩) (by assumption) (by kernel_rfl) ?restS3_7_1_5
  case hyS3_7_1_5 => (intro W_ hS_; (try dsimp only at hS_); go_simp; (try (with_reducible rfl)))
  try simp only [Act.put, siA, scZ, scS]
  refine wpTill_take (i := 8) (v := ?vS3_8_1_5) 22 rfl rfl (by kernel_rfl) (by kernel_rfl) (by kernel_rfl) (fun _ _ _ h => h) (Or.inl ⟨by kernel_rfl, ?hyS3_8_1_5⟩) (by assumption) (by kernel_rfl) ?restS3_8_1_5
  case hyS3_8_1_5 => (intro W_ hS_; (try dsimp only at hS_); go_simp; (try (with_reducible rfl)))
  try simp only [Act.put, siA, scZ, scS]
  refine wpTill_ready (rs := [9]) (by kernel_rfl) (by simp) ?_
  refine (AllTill.cons rfl (fun K_ hK_ => ?_) AllTill.nil)
  obtain ⟨⟨z0, z1, z2, z3, z4, z5, z6, z7⟩, y0, y1, y2, y3, y4, y5, y6, y7⟩ := cells8 (block_below hBr5 (block_below (below_drew1 _) hr3))
  go_simp
  go_wp2_with fail
  clear z0 z1 z2 z3 z4 z5 z6 z7 y0 y1 y2 y3 y4 y5 y6 y7
  refine hK_.out _ _ (fun h_ => absurd rfl h_) (fun hHeld_9_1 => ?_)
  clear hK_
  try simp only [Act.put, siA, scZ, scS]
  refine wpTill_done (by kernel_rfl) ?_ _
  skip
  obtain ⟨w4, hw4⟩ : ∃ w4, wr5 = w4 := ⟨_, rfl⟩
  have hB4 : Below w3.heap.size w3 w4 := by rw [← hw4]; exact (below_then (below_drew1 _) hBr5)
  rw [hw4]
  clear hw4  hBr5
  have hT4 := below_then hT3 hB4
  have hk4 := block_below hB4 hk3
  have hr4 := block_below hB4 hr3
  have hf4 := block_below hB4 hf3
  have hQ4 := FIs.to hQ3 hB4
  clear hT3 hk3 hr3 hf3 hQ3 hB4
  go_wp2_with fail
  clear hwr hwr2
  exact bodyPost_ret (v := TV.v ⟨kw, ⟨fx, fi, fr, fn, A2, fm, c2⟩, ok, (l : Int) + (more : Int)⟩) (results_t (n := ⟨kw, ⟨fx, fi, fr, fn, A2, fm, c2⟩, ok, (l : Int) + (more : Int)⟩) rfl _ rfl (set8_obj hr4 _ _ _ _ _ _ _ _)) rfl ⟨⟨kw, ⟨fx, fi, fr, fn, A2, fm, c2⟩, ok, (l : Int) + (more : Int)⟩, rfl, ⟨rfl, (FIs.grow hQ4 (set8_grown _ _ _ _ _ _ _ _ _ _) (gap_not (by omega) (by omega))).ungap, rfl, by show (l : Int) + (more : Int) = (lenC F : Int) + (more : Int); rw [HL.out]⟩, below_g hT4 (set8_grown _ _ _ _ _ _ _ _ _ _) (by omega)⟩
end Go.Proofs.YtcifjccojmfpaaaGreat

namespace Go.Proofs.YtcifjccojmfpaaaGreat
open Go.RowKit
set_option linter.unusedVariables false
set_option linter.unusedSimpArgs false
def set7o (w : World) (L o : Nat) (a b c d e f g : Value) : World := ((((((w.setCell ⟨L, o, none⟩ a).setCell ⟨L, o + 1, none⟩ b).setCell ⟨L, o + 2, none⟩ c).setCell ⟨L, o + 3, none⟩ d).setCell ⟨L, o + 4, none⟩ e).setCell ⟨L, o + 5, none⟩ f).setCell ⟨L, o + 6, none⟩ g
theorem set7o_put (w : World) (L o : Nat) (n : NV) : set7o w L o (.slice n.qa n.qm n.qc) (.slice n.la n.lm n.lc) (.int .i64 n.k.t) (.int .i64 n.k.r) (.int .i64 n.k.s) (.int .i64 n.k.q) (.slice n.ga n.gm n.gc) = putAt w L o (NV.cs n) := rfl
theorem off_fresh10 {P : Nat → Prop} {s X : Nat} (h : s ≤ X) : ∀ b, b < s → P b → Off P [X] b := by
  intro b hb hp
  refine ⟨hp, fun Y hY => ?_⟩
  simp at hY; omega
theorem off_up10 {P : Nat → Prop} {s t X b : Nat} (hP : ∀ b, s ≤ b → P b) (h : s ≤ t) (hb : t ≤ b) (hX : X < t) : Off P [X] b := ⟨hP b (Nat.le_trans h hb), fun Y hY => by simp at hY; omega⟩
theorem Tryz.makeN (n : Nat) (hn : n ≤ 1000) (w : World) : (Instr.makeSlice 22 (.int .i64 n) (.int .i64 n)).run Tryz.prog w = .ok (.slice (some ⟨w.heap.size, 0, none⟩) n n) (w.alloc (.cells (gcells NV.cs (List.replicate n zeroNV)).toArray 49)) :=
  run_make_g shN zeroNV Tryz.underlying22 (bytes := 104) ⟨.agg #[.slice none 0 0, .slice none 0 0, .int .i64 0, .int .i64 0, .int .i64 0, .int .i64 0, .slice none 0 0], by kernel_rfl, by kernel_rfl⟩ (by decide) n hn w
theorem after_spoilt {w : World} {P : Nat → Prop} {k : KV} {Ns : List NC} {H : List Int} {F : FC} (h : KIs w P k Ns H F (alongs Ns)) (hok : OkNs Ns) (hF : rightC F = true) (hP : ∀ b, w.heap.size ≤ b → P b) (h8 : k.lm ≤ 8) (Ms : List NC) (hMs : mapTo (spoiltN Ns H F k.d) k.lm = Ms) :
    Calls Tryz.prog 43 #[k.v, .func (.func 45) #[k.v] #[]] w fun e w' => ∃ A' c', e = .returned (.slice A' k.lm c') ∧ NSl w' P A' k.lm c' Ms ∧ Below w.heap.size w w' := by
  have hi : True := trivial
  have Hok := Lib.hid hok
  have HF := Lib.hid hF
  clear hF
  obtain ⟨la, lm, lc, wa, wm, wc, kw, f, sa, sm, sc, d⟩ := k
  try dsimp only at hi h8 hMs
  have hlm : Ns.length = lm := h.l.len
  obtain rfl : sm = lm := by have h_ : (alongs Ns).length = sm := h.sl; rw [alongs_len] at h_; omega
  have Hlm := Lib.hid hlm
  clear hlm
  obtain ⟨L, hsa, hbk⟩ := h.s
  dsimp only at hsa
  subst hsa
  have hbig : sm ≤ maxLen := h.l.big
  unfold maxLen at hbig
  have HMs := Lib.hid hMs
  clear hMs hok hi hbk
  have hmk := Tryz.makeN sm (by omega)
  obtain ⟨w0, hw0⟩ : ∃ w0, (w.alloc (.cells #[.slice la sm lc, .slice wa wm wc, .int .i64 kw, .bool f.x, .int .i64 f.i, .bool f.r, .int .i64 f.n, .slice f.a f.m f.c, .slice (some ⟨L, 0, none⟩) sm sc, .bool d] 76)) = w0 := ⟨_, rfl⟩
  have hT0 : Below w.heap.size w w0 := by rw [← hw0]; exact below_alloc1 _ _
  have hk0 : w0.heap[w.heap.size]? = some (.cells #[.slice la sm lc, .slice wa wm wc, .int .i64 kw, .bool f.x, .int .i64 f.i, .bool f.r, .int .i64 f.n, .slice f.a f.m f.c, .slice (some ⟨L, 0, none⟩) sm sc, .bool d] 76) := by rw [← hw0]; exact World.alloc_heap_new _ _
  have hs0 : w0.heap.size = w.heap.size + 1 := by rw [← hw0]; simp
  have Hs0 := Lib.hid hs0
  clear hs0
  have hlk := (Array.getElem?_eq_some_iff.1 hk0).1
  obtain ⟨kc0, kc1, kc2, kc3, kc4, kc5, kc6, kc7, kc8, kc9⟩ := cellsK' hk0
  go_enter Tryz.func43, Tryz.ntmps43
  go_wp2_with fail
  clear hlk kc0 kc1 kc2 kc3 kc4 kc5 kc6 kc7 kc8 kc9
  clear hw0
  have hZ0 := Below.refl w0.heap.size w0
  obtain ⟨w1, hw1⟩ : ∃ w1, w0.alloc (.cells (gcells NV.cs (List.replicate sm zeroNV)).toArray 49) = w1 := ⟨_, rfl⟩
  have hB1 : Below w0.heap.size w0 w1 := by rw [← hw1]; exact below_alloc1 _ _
  have hv1 : VBlk NV.cs 49 w1 w0.heap.size (doneL [] sm zeroNV) := by rw [← hw1]; exact World.alloc_heap_new _ _
  rw [hw1]
  clear hw1 hmk
  have hT1 := below_then hT0 hB1
  have hZ1 := below_then hZ0 hB1
  clear hZ0
  have hk1 := block_below hB1 hk0
  clear hT0 hk0  hB1
  have hge0 : w.heap.size + 1 = w0.heap.size := Hs0.out.symm
  have Hge0 := Lib.hid hge0
  clear hge0
  go_loopw [14] (fun i wr => ∃ (i0 : Nat) (done : List NV), i0 ≤ sm ∧ i = .int .i64 i0 ∧ VBlk NV.cs 49 wr w0.heap.size (doneL done sm zeroNV) ∧ NsIs wr (Off P [w0.heap.size]) done (mapTo (spoiltN Ns H F d) i0) ∧ wr.heap[w.heap.size]? = some (.cells #[.slice la sm lc, .slice wa wm wc, .int .i64 kw, .bool f.x, .int .i64 f.i, .bool f.r, .int .i64 f.n, .slice f.a f.m f.c, .slice (some ⟨L, 0, none⟩) sm sc, .bool d] 76) ∧ Below w.heap.size w wr) (fun i _ => sm - (intOf i).toNat)
  case atStart => exact ⟨0, [], Nat.zero_le _, rfl, hv1, AllIs.nil, hk1, hT1⟩
  case round =>
    clear hk1 hT1 hv1
    obtain ⟨i, done, hii, rfl, hv50, hA50, hk50, hT50⟩ := hrel
    have hdl : done.length = i := by have h_ := hA50.1; rw [mapTo_len] at h_; exact h_
    have Hdl := Lib.hid hdl
    clear hdl
    by_cases hi : i < sm
    · skip
      have j1 : (i : Int) < (sm : Int) := by omega
      obtain ⟨M, hM⟩ : ∃ q, (spoiltN Ns H F d) i = q := ⟨_, rfl⟩
      have HM := Lib.hid hM
      clear hM
      have hlk := (Array.getElem?_eq_some_iff.1 hk50).1
      obtain ⟨kc0, kc1, kc2, kc3, kc4, kc5, kc6, kc7, kc8, kc9⟩ := cellsK' hk50
      go_wp2_with fail
      clear hlk kc0 kc1 kc2 kc3 kc4 kc5 kc6 kc7 kc8 kc9
      refine (spoilt_c (k := ⟨la, sm, lc, wa, wm, wc, kw, f, some ⟨L, 0, none⟩, sm, sc, d⟩) (P := Off P [w0.heap.size]) ((h.mono (off_fresh10 (by have h_ := Hge0.out; omega))).to hT50) Hok.out HF.out (fun b hb => off_up10 hP hT50.size hb hv50.lt) i hi M HM.out).mono ?_
      rintro e w51 ⟨n2, rfl, hM_, hB51⟩
      have hT51 := below_then hT50 hB51
      have hk51 := block_below hB51 hk50
      have hv51 := VBlk.to hv50 hB51
      have hA51 := NsIs.to hA50 hB51
      clear hT50 hk50 hv50 hA50 hB51
      have hM51 := hM_
      clear hM_
      have hfz := fun o => hv51.frozen (o := o)
      have hf0 := hfz (i * 7)
      have hf1 := hfz (i * 7 + 1)
      have hf2 := hfz (i * 7 + 2)
      have hf3 := hfz (i * 7 + 3)
      have hf4 := hfz (i * 7 + 4)
      have hf5 := hfz (i * 7 + 5)
      have hf6 := hfz (i * 7 + 6)
      have hln : (gcells NV.cs (doneL done sm zeroNV)).length = sm * 7 := by rw [gcells_len shN, doneL_len (by rw [Hdl.out]; omega)]
      obtain ⟨u0, hu0⟩ := hv51.some_ (o := i * 7) (by rw [hln]; omega)
      obtain ⟨u1, hu1⟩ := hv51.some_ (o := i * 7 + 1) (by rw [hln]; omega)
      obtain ⟨u2, hu2⟩ := hv51.some_ (o := i * 7 + 2) (by rw [hln]; omega)
      obtain ⟨u3, hu3⟩ := hv51.some_ (o := i * 7 + 3) (by rw [hln]; omega)
      obtain ⟨u4, hu4⟩ := hv51.some_ (o := i * 7 + 4) (by rw [hln]; omega)
      obtain ⟨u5, hu5⟩ := hv51.some_ (o := i * 7 + 5) (by rw [hln]; omega)
      obtain ⟨u6, hu6⟩ := hv51.some_ (o := i * 7 + 6) (by rw [hln]; omega)
      clear hfz hln
      go_upto_region 6 with fail
      clear hf0 hf1 hf2 hf3 hf4 hf5 hf6 hu0 hu1 hu2 hu3 hu4 hu5 hu6
      obtain ⟨w90, hw90⟩ : ∃ w_, set7o w51 w0.heap.size (i * 7) (.slice n2.qa n2.qm n2.qc) (.slice n2.la n2.lm n2.lc) (.int .i64 n2.k.t) (.int .i64 n2.k.r) (.int .i64 n2.k.s) (.int .i64 n2.k.q) (.slice n2.ga n2.gm n2.gc) = w_ := ⟨_, rfl⟩
      have hv90 : VBlk NV.cs 49 w90 w0.heap.size (doneL (done ++ [n2]) sm zeroNV) := by rw [← hw90, set7o_put, ← doneL_set (by rw [Hdl.out]; exact hi), Hdl.out]; exact VBlk.put shN hv51 (by rw [doneL_len (by rw [Hdl.out]; omega)]; exact hi) n2
      have hG90 : w51.grownBy w90 (some w0.heap.size) := by rw [← hw90, set7o_put]; exact putAt_grown _ _ _ _
      have hA90 := AllIs.append (NsIs.grow hA51 hG90 (off_not (by simp))) (AllIs.one (NIs.grow hM51 hG90 (off_not (by simp))))
      have hT90 := below_g hT51 hG90 (by have h_ := Hge0.out; omega)
      have hk90 := other_g hG90 hk51 (by have h_ := Hge0.out; omega)
      unfold set7o at hw90
      rw [hw90]
      clear hw90 hG90
      go_wp2_with fail
      go_round
      case measure => simp [intOf]; omega
      exact ⟨i + 1, done ++ [n2], by omega, by go_num, hv90, (by rw [mapTo, HM.out]; exact hA90), hk90, hT90⟩
    obtain rfl : i = sm := by omega
    have j1 : ¬ (i : Int) < (i : Int) := by omega
    have hlk := (Array.getElem?_eq_some_iff.1 hk50).1
    obtain ⟨kc0, kc1, kc2, kc3, kc4, kc5, kc6, kc7, kc8, kc9⟩ := cellsK' hk50
    go_wp2_with fail
    clear hlk kc0 kc1 kc2 kc3 kc4 kc5 kc6 kc7 kc8 kc9
    go_ret
    have hd : doneL done i zeroNV = done := doneL_full Hdl.out
    rw [hd] at hv50
    exact ⟨_, _, rfl, ⟨by rw [← HMs.out, mapTo_len], Nat.le_refl _, by unfold maxLen; omega, ⟨done, hv50.row, by rw [← HMs.out]; exact NsIs.mono hA50 off_base⟩, fun _ ad e => by obtain rfl := Option.some.inj e; exact hP _ (by have h_ := Hge0.out; show w.heap.size ≤ w0.heap.size; omega)⟩, hT50⟩
theorem after_passed {w : World} {P : Nat → Prop} {k : KV} {Ns : List NC} {H : List Int} {F : FC} (h : KIs w P k Ns H F (alongs Ns)) (hok : OkNs Ns) (hF : rightC F = true) (hP : ∀ b, w.heap.size ≤ b → P b) (h8 : k.lm ≤ 8) (Ms : List NC) (hMs : mapTo (passedN Ns H F) k.lm = Ms) :
    Calls Tryz.prog 43 #[k.v, .func (.func 47) #[k.v] #[]] w fun e w' => ∃ A' c', e = .returned (.slice A' k.lm c') ∧ NSl w' P A' k.lm c' Ms ∧ Below w.heap.size w w' := by
  have hi : True := trivial
  have Hok := Lib.hid hok
  have HF := Lib.hid hF
  clear hF
  obtain ⟨la, lm, lc, wa, wm, wc, kw, f, sa, sm, sc, d⟩ := k
  try dsimp only at hi h8 hMs
  have hlm : Ns.length = lm := h.l.len
  obtain rfl : sm = lm := by have h_ : (alongs Ns).length = sm := h.sl; rw [alongs_len] at h_; omega
  have Hlm := Lib.hid hlm
  clear hlm
  obtain ⟨L, hsa, hbk⟩ := h.s
  dsimp only at hsa
  subst hsa
  have hbig : sm ≤ maxLen := h.l.big
  unfold maxLen at hbig
  have HMs := Lib.hid hMs
  clear hMs hok hi hbk
  have hmk := Tryz.makeN sm (by omega)
  obtain ⟨w0, hw0⟩ : ∃ w0, (w.alloc (.cells #[.slice la sm lc, .slice wa wm wc, .int .i64 kw, .bool f.x, .int .i64 f.i, .bool f.r, .int .i64 f.n, .slice f.a f.m f.c, .slice (some ⟨L, 0, none⟩) sm sc, .bool d] 76)) = w0 := ⟨_, rfl⟩
  have hT0 : Below w.heap.size w w0 := by rw [← hw0]; exact below_alloc1 _ _
  have hk0 : w0.heap[w.heap.size]? = some (.cells #[.slice la sm lc, .slice wa wm wc, .int .i64 kw, .bool f.x, .int .i64 f.i, .bool f.r, .int .i64 f.n, .slice f.a f.m f.c, .slice (some ⟨L, 0, none⟩) sm sc, .bool d] 76) := by rw [← hw0]; exact World.alloc_heap_new _ _
  have hs0 : w0.heap.size = w.heap.size + 1 := by rw [← hw0]; simp
  have Hs0 := Lib.hid hs0
  clear hs0
  have hlk := (Array.getElem?_eq_some_iff.1 hk0).1
  obtain ⟨kc0, kc1, kc2, kc3, kc4, kc5, kc6, kc7, kc8, kc9⟩ := cellsK' hk0
  go_enter Tryz.func43, Tryz.ntmps43
  go_wp2_with fail
  clear hlk kc0 kc1 kc2 kc3 kc4 kc5 kc6 kc7 kc8 kc9
  clear hw0
  have hZ0 := Below.refl w0.heap.size w0
  obtain ⟨w1, hw1⟩ : ∃ w1, w0.alloc (.cells (gcells NV.cs (List.replicate sm zeroNV)).toArray 49) = w1 := ⟨_, rfl⟩
  have hB1 : Below w0.heap.size w0 w1 := by rw [← hw1]; exact below_alloc1 _ _
  have hv1 : VBlk NV.cs 49 w1 w0.heap.size (doneL [] sm zeroNV) := by rw [← hw1]; exact World.alloc_heap_new _ _
  rw [hw1]
  clear hw1 hmk
  have hT1 := below_then hT0 hB1
  have hZ1 := below_then hZ0 hB1
  clear hZ0
  have hk1 := block_below hB1 hk0
  clear hT0 hk0  hB1
  have hge0 : w.heap.size + 1 = w0.heap.size := Hs0.out.symm
  have Hge0 := Lib.hid hge0
  clear hge0
  go_loopw [14] (fun i wr => ∃ (i0 : Nat) (done : List NV), i0 ≤ sm ∧ i = .int .i64 i0 ∧ VBlk NV.cs 49 wr w0.heap.size (doneL done sm zeroNV) ∧ NsIs wr (Off P [w0.heap.size]) done (mapTo (passedN Ns H F) i0) ∧ wr.heap[w.heap.size]? = some (.cells #[.slice la sm lc, .slice wa wm wc, .int .i64 kw, .bool f.x, .int .i64 f.i, .bool f.r, .int .i64 f.n, .slice f.a f.m f.c, .slice (some ⟨L, 0, none⟩) sm sc, .bool d] 76) ∧ Below w.heap.size w wr) (fun i _ => sm - (intOf i).toNat)
  case atStart => exact ⟨0, [], Nat.zero_le _, rfl, hv1, AllIs.nil, hk1, hT1⟩
  case round =>
    clear hk1 hT1 hv1
    obtain ⟨i, done, hii, rfl, hv50, hA50, hk50, hT50⟩ := hrel
    have hdl : done.length = i := by have h_ := hA50.1; rw [mapTo_len] at h_; exact h_
    have Hdl := Lib.hid hdl
    clear hdl
    by_cases hi : i < sm
    · skip
      have j1 : (i : Int) < (sm : Int) := by omega
      obtain ⟨M, hM⟩ : ∃ q, (passedN Ns H F) i = q := ⟨_, rfl⟩
      have HM := Lib.hid hM
      clear hM
      have hlk := (Array.getElem?_eq_some_iff.1 hk50).1
      obtain ⟨kc0, kc1, kc2, kc3, kc4, kc5, kc6, kc7, kc8, kc9⟩ := cellsK' hk50
      go_wp2_with fail
      clear hlk kc0 kc1 kc2 kc3 kc4 kc5 kc6 kc7 kc8 kc9
      refine (passed_c (k := ⟨la, sm, lc, wa, wm, wc, kw, f, some ⟨L, 0, none⟩, sm, sc, d⟩) (P := Off P [w0.heap.size]) ((h.mono (off_fresh10 (by have h_ := Hge0.out; omega))).to hT50) Hok.out HF.out (fun b hb => off_up10 hP hT50.size hb hv50.lt) i hi M HM.out).mono ?_
      rintro e w51 ⟨n2, rfl, hM_, hB51⟩
      have hT51 := below_then hT50 hB51
      have hk51 := block_below hB51 hk50
      have hv51 := VBlk.to hv50 hB51
      have hA51 := NsIs.to hA50 hB51
      clear hT50 hk50 hv50 hA50 hB51
      have hM51 := hM_
      clear hM_
      have hfz := fun o => hv51.frozen (o := o)
      have hf0 := hfz (i * 7)
      have hf1 := hfz (i * 7 + 1)
      have hf2 := hfz (i * 7 + 2)
      have hf3 := hfz (i * 7 + 3)
      have hf4 := hfz (i * 7 + 4)
      have hf5 := hfz (i * 7 + 5)
      have hf6 := hfz (i * 7 + 6)
      have hln : (gcells NV.cs (doneL done sm zeroNV)).length = sm * 7 := by rw [gcells_len shN, doneL_len (by rw [Hdl.out]; omega)]
      obtain ⟨u0, hu0⟩ := hv51.some_ (o := i * 7) (by rw [hln]; omega)
      obtain ⟨u1, hu1⟩ := hv51.some_ (o := i * 7 + 1) (by rw [hln]; omega)
      obtain ⟨u2, hu2⟩ := hv51.some_ (o := i * 7 + 2) (by rw [hln]; omega)
      obtain ⟨u3, hu3⟩ := hv51.some_ (o := i * 7 + 3) (by rw [hln]; omega)
      obtain ⟨u4, hu4⟩ := hv51.some_ (o := i * 7 + 4) (by rw [hln]; omega)
      obtain ⟨u5, hu5⟩ := hv51.some_ (o := i * 7 + 5) (by rw [hln]; omega)
      obtain ⟨u6, hu6⟩ := hv51.some_ (o := i * 7 + 6) (by rw [hln]; omega)
      clear hfz hln
      go_upto_region 6 with fail
      clear hf0 hf1 hf2 hf3 hf4 hf5 hf6 hu0 hu1 hu2 hu3 hu4 hu5 hu6
      obtain ⟨w90, hw90⟩ : ∃ w_, set7o w51 w0.heap.size (i * 7) (.slice n2.qa n2.qm n2.qc) (.slice n2.la n2.lm n2.lc) (.int .i64 n2.k.t) (.int .i64 n2.k.r) (.int .i64 n2.k.s) (.int .i64 n2.k.q) (.slice n2.ga n2.gm n2.gc) = w_ := ⟨_, rfl⟩
      have hv90 : VBlk NV.cs 49 w90 w0.heap.size (doneL (done ++ [n2]) sm zeroNV) := by rw [← hw90, set7o_put, ← doneL_set (by rw [Hdl.out]; exact hi), Hdl.out]; exact VBlk.put shN hv51 (by rw [doneL_len (by rw [Hdl.out]; omega)]; exact hi) n2
      have hG90 : w51.grownBy w90 (some w0.heap.size) := by rw [← hw90, set7o_put]; exact putAt_grown _ _ _ _
      have hA90 := AllIs.append (NsIs.grow hA51 hG90 (off_not (by simp))) (AllIs.one (NIs.grow hM51 hG90 (off_not (by simp))))
      have hT90 := below_g hT51 hG90 (by have h_ := Hge0.out; omega)
      have hk90 := other_g hG90 hk51 (by have h_ := Hge0.out; omega)
      unfold set7o at hw90
      rw [hw90]
      clear hw90 hG90
      go_wp2_with fail
      go_round
      case measure => simp [intOf]; omega
      exact ⟨i + 1, done ++ [n2], by omega, by go_num, hv90, (by rw [mapTo, HM.out]; exact hA90), hk90, hT90⟩
    obtain rfl : i = sm := by omega
    have j1 : ¬ (i : Int) < (i : Int) := by omega
    have hlk := (Array.getElem?_eq_some_iff.1 hk50).1
    obtain ⟨kc0, kc1, kc2, kc3, kc4, kc5, kc6, kc7, kc8, kc9⟩ := cellsK' hk50
    go_wp2_with fail
    clear hlk kc0 kc1 kc2 kc3 kc4 kc5 kc6 kc7 kc8 kc9
    go_ret
    have hd : doneL done i zeroNV = done := doneL_full Hdl.out
    rw [hd] at hv50
    exact ⟨_, _, rfl, ⟨by rw [← HMs.out, mapTo_len], Nat.le_refl _, by unfold maxLen; omega, ⟨done, hv50.row, by rw [← HMs.out]; exact NsIs.mono hA50 off_base⟩, fun _ ad e => by obtain rfl := Option.some.inj e; exact hP _ (by have h_ := Hge0.out; show w.heap.size ≤ w0.heap.size; omega)⟩, hT50⟩
theorem after_quiet {w : World} {P : Nat → Prop} {k : KV} {Ns : List NC} {H : List Int} {F : FC} (h : KIs w P k Ns H F (alongs Ns)) (hok : OkNs Ns) {X c0 : Nat} (hx : w.heap[X]? = some (.cells #[.slice k.la k.lm c0] 22)) (hl0 : NSl w P k.la k.lm c0 Ns) (hP : ∀ b, w.heap.size ≤ b → P b) (h8 : k.lm ≤ 8) (Ms : List NC) (hMs : mapTo ((fun i => quietN (nd Ns i))) k.lm = Ms) :
    Calls Tryz.prog 43 #[k.v, .func (.func 41) #[] #[.pointer (some ⟨X, 0, none⟩)]] w fun e w' => ∃ A' c', e = .returned (.slice A' k.lm c') ∧ NSl w' P A' k.lm c' Ms ∧ Below w.heap.size w w' := by
  have hi : True := trivial
  have Hok := Lib.hid hok
  obtain ⟨la, lm, lc, wa, wm, wc, kw, f, sa, sm, sc, d⟩ := k
  try dsimp only at hi h8 hMs hx hl0
  have hlm : Ns.length = lm := h.l.len
  obtain rfl : sm = lm := by have h_ : (alongs Ns).length = sm := h.sl; rw [alongs_len] at h_; omega
  have Hlm := Lib.hid hlm
  clear hlm
  obtain ⟨L, hsa, hbk⟩ := h.s
  dsimp only at hsa
  subst hsa
  have hbig : sm ≤ maxLen := h.l.big
  unfold maxLen at hbig
  have HMs := Lib.hid hMs
  clear hMs hok hi hbk
  have hmk := Tryz.makeN sm (by omega)
  obtain ⟨w0, hw0⟩ : ∃ w0, (w.alloc (.cells #[.slice la sm lc, .slice wa wm wc, .int .i64 kw, .bool f.x, .int .i64 f.i, .bool f.r, .int .i64 f.n, .slice f.a f.m f.c, .slice (some ⟨L, 0, none⟩) sm sc, .bool d] 76)) = w0 := ⟨_, rfl⟩
  have hT0 : Below w.heap.size w w0 := by rw [← hw0]; exact below_alloc1 _ _
  have hk0 : w0.heap[w.heap.size]? = some (.cells #[.slice la sm lc, .slice wa wm wc, .int .i64 kw, .bool f.x, .int .i64 f.i, .bool f.r, .int .i64 f.n, .slice f.a f.m f.c, .slice (some ⟨L, 0, none⟩) sm sc, .bool d] 76) := by rw [← hw0]; exact World.alloc_heap_new _ _
  have hs0 : w0.heap.size = w.heap.size + 1 := by rw [← hw0]; simp
  have Hs0 := Lib.hid hs0
  clear hs0
  have hlk := (Array.getElem?_eq_some_iff.1 hk0).1
  obtain ⟨kc0, kc1, kc2, kc3, kc4, kc5, kc6, kc7, kc8, kc9⟩ := cellsK' hk0
  go_enter Tryz.func43, Tryz.ntmps43
  go_wp2_with fail
  clear hlk kc0 kc1 kc2 kc3 kc4 kc5 kc6 kc7 kc8 kc9
  clear hw0
  have hZ0 := Below.refl w0.heap.size w0
  obtain ⟨w1, hw1⟩ : ∃ w1, w0.alloc (.cells (gcells NV.cs (List.replicate sm zeroNV)).toArray 49) = w1 := ⟨_, rfl⟩
  have hB1 : Below w0.heap.size w0 w1 := by rw [← hw1]; exact below_alloc1 _ _
  have hv1 : VBlk NV.cs 49 w1 w0.heap.size (doneL [] sm zeroNV) := by rw [← hw1]; exact World.alloc_heap_new _ _
  rw [hw1]
  clear hw1 hmk
  have hT1 := below_then hT0 hB1
  have hZ1 := below_then hZ0 hB1
  clear hZ0
  have hk1 := block_below hB1 hk0
  clear hT0 hk0  hB1
  have hge0 : w.heap.size + 1 = w0.heap.size := Hs0.out.symm
  have Hge0 := Lib.hid hge0
  clear hge0
  go_loopw [14] (fun i wr => ∃ (i0 : Nat) (done : List NV), i0 ≤ sm ∧ i = .int .i64 i0 ∧ VBlk NV.cs 49 wr w0.heap.size (doneL done sm zeroNV) ∧ NsIs wr (Off P [w0.heap.size]) done (mapTo ((fun i => quietN (nd Ns i))) i0) ∧ wr.heap[w.heap.size]? = some (.cells #[.slice la sm lc, .slice wa wm wc, .int .i64 kw, .bool f.x, .int .i64 f.i, .bool f.r, .int .i64 f.n, .slice f.a f.m f.c, .slice (some ⟨L, 0, none⟩) sm sc, .bool d] 76) ∧ Below w.heap.size w wr) (fun i _ => sm - (intOf i).toNat)
  case atStart => exact ⟨0, [], Nat.zero_le _, rfl, hv1, AllIs.nil, hk1, hT1⟩
  case round =>
    clear hk1 hT1 hv1
    obtain ⟨i, done, hii, rfl, hv50, hA50, hk50, hT50⟩ := hrel
    have hdl : done.length = i := by have h_ := hA50.1; rw [mapTo_len] at h_; exact h_
    have Hdl := Lib.hid hdl
    clear hdl
    by_cases hi : i < sm
    · skip
      have j1 : (i : Int) < (sm : Int) := by omega
      obtain ⟨M, hM⟩ : ∃ q, ((fun i => quietN (nd Ns i))) i = q := ⟨_, rfl⟩
      have HM := Lib.hid hM
      clear hM
      have hlk := (Array.getElem?_eq_some_iff.1 hk50).1
      obtain ⟨kc0, kc1, kc2, kc3, kc4, kc5, kc6, kc7, kc8, kc9⟩ := cellsK' hk50
      go_wp2_with fail
      clear hlk kc0 kc1 kc2 kc3 kc4 kc5 kc6 kc7 kc8 kc9
      refine (quiet1_c (P := Off P [w0.heap.size]) (block_below hT50 hx) ((hl0.mono (off_fresh10 (by have h_ := Hge0.out; omega))).to hT50) Hok.out i hi M HM.out).mono ?_
      rintro e w51 ⟨n2, rfl, hM_, hB51⟩
      have hT51 := below_then hT50 hB51
      have hk51 := block_below hB51 hk50
      have hv51 := VBlk.to hv50 hB51
      have hA51 := NsIs.to hA50 hB51
      clear hT50 hk50 hv50 hA50 hB51
      have hM51 := hM_
      clear hM_
      have hfz := fun o => hv51.frozen (o := o)
      have hf0 := hfz (i * 7)
      have hf1 := hfz (i * 7 + 1)
      have hf2 := hfz (i * 7 + 2)
      have hf3 := hfz (i * 7 + 3)
      have hf4 := hfz (i * 7 + 4)
      have hf5 := hfz (i * 7 + 5)
      have hf6 := hfz (i * 7 + 6)
      have hln : (gcells NV.cs (doneL done sm zeroNV)).length = sm * 7 := by rw [gcells_len shN, doneL_len (by rw [Hdl.out]; omega)]
      obtain ⟨u0, hu0⟩ := hv51.some_ (o := i * 7) (by rw [hln]; omega)
      obtain ⟨u1, hu1⟩ := hv51.some_ (o := i * 7 + 1) (by rw [hln]; omega)
      obtain ⟨u2, hu2⟩ := hv51.some_ (o := i * 7 + 2) (by rw [hln]; omega)
      obtain ⟨u3, hu3⟩ := hv51.some_ (o := i * 7 + 3) (by rw [hln]; omega)
      obtain ⟨u4, hu4⟩ := hv51.some_ (o := i * 7 + 4) (by rw [hln]; omega)
      obtain ⟨u5, hu5⟩ := hv51.some_ (o := i * 7 + 5) (by rw [hln]; omega)
      obtain ⟨u6, hu6⟩ := hv51.some_ (o := i * 7 + 6) (by rw [hln]; omega)
      clear hfz hln
      go_upto_region 6 with fail
      clear hf0 hf1 hf2 hf3 hf4 hf5 hf6 hu0 hu1 hu2 hu3 hu4 hu5 hu6
      obtain ⟨w90, hw90⟩ : ∃ w_, set7o w51 w0.heap.size (i * 7) (.slice n2.qa n2.qm n2.qc) (.slice n2.la n2.lm n2.lc) (.int .i64 n2.k.t) (.int .i64 n2.k.r) (.int .i64 n2.k.s) (.int .i64 n2.k.q) (.slice n2.ga n2.gm n2.gc) = w_ := ⟨_, rfl⟩
      have hv90 : VBlk NV.cs 49 w90 w0.heap.size (doneL (done ++ [n2]) sm zeroNV) := by rw [← hw90, set7o_put, ← doneL_set (by rw [Hdl.out]; exact hi), Hdl.out]; exact VBlk.put shN hv51 (by rw [doneL_len (by rw [Hdl.out]; omega)]; exact hi) n2
      have hG90 : w51.grownBy w90 (some w0.heap.size) := by rw [← hw90, set7o_put]; exact putAt_grown _ _ _ _
      have hA90 := AllIs.append (NsIs.grow hA51 hG90 (off_not (by simp))) (AllIs.one (NIs.grow hM51 hG90 (off_not (by simp))))
      have hT90 := below_g hT51 hG90 (by have h_ := Hge0.out; omega)
      have hk90 := other_g hG90 hk51 (by have h_ := Hge0.out; omega)
      unfold set7o at hw90
      rw [hw90]
      clear hw90 hG90
      go_wp2_with fail
      go_round
      case measure => simp [intOf]; omega
      exact ⟨i + 1, done ++ [n2], by omega, by go_num, hv90, (by rw [mapTo, HM.out]; exact hA90), hk90, hT90⟩
    obtain rfl : i = sm := by omega
    have j1 : ¬ (i : Int) < (i : Int) := by omega
    have hlk := (Array.getElem?_eq_some_iff.1 hk50).1
    obtain ⟨kc0, kc1, kc2, kc3, kc4, kc5, kc6, kc7, kc8, kc9⟩ := cellsK' hk50
    go_wp2_with fail
    clear hlk kc0 kc1 kc2 kc3 kc4 kc5 kc6 kc7 kc8 kc9
    go_ret
    have hd : doneL done i zeroNV = done := doneL_full Hdl.out
    rw [hd] at hv50
    exact ⟨_, _, rfl, ⟨by rw [← HMs.out, mapTo_len], Nat.le_refl _, by unfold maxLen; omega, ⟨done, hv50.row, by rw [← HMs.out]; exact NsIs.mono hA50 off_base⟩, fun _ ad e => by obtain rfl := Option.some.inj e; exact hP _ (by have h_ := Hge0.out; show w.heap.size ≤ w0.heap.size; omega)⟩, hT50⟩
end Go.Proofs.YtcifjccojmfpaaaGreat

namespace Go.Proofs.YtcifjccojmfpaaaGreat
open Go.RowKit
set_option linter.unusedVariables false
set_option linter.unusedSimpArgs false
theorem NSl.gap {w : World} {P : Nat → Prop} {A : Option Addr} {n c : Nat} {Ns : List NC} (h : NSl w P A n c Ns) (hi : Nat) : NSl w (Gap P w.heap.size hi) A n c Ns := h.mono fun b hb hp => ⟨hp, .inl hb⟩
theorem TIs.cast10 {w : World} {P : Nat → Prop} {t : TV} {x y : Int} {F : FC} {ok : Bool} {b : Int} (h : TIs w P t ⟨x, F, ok, b⟩) (e : x = y) : TIs w P t ⟨y, F, ok, b⟩ := by subst e; exact h
theorem slot_c {w : World} {P : Nat → Prop} {A : Option Addr} {n c : Nat} {Ns : List NC} {wa : Option Addr} {wn wcp : Nat} {H : List Int} (h : NSl w P A n c Ns) (hok : OkNs Ns) (h1 : 1 ≤ n) (hm : n ≤ 8) (hH : Row .i64 w w.heap.size wa H) (hHl : H.length = wn) (hwm : wn ≤ 1000) (hP : ∀ b, w.heap.size ≤ b → P b) (Ms : List NC) (hMs : slotN Ns H = Ms) (T : TC) (hT : toldN lenZ Ns H = T) :
    Calls Tryz.prog 18 #[.slice A n c, .agg #[.slice wa wn wcp]] w fun e w' => ∃ (A' : Option Addr) (c' : Nat) (t : TV), e = .returned (.tuple #[.slice A' n c', t.v]) ∧ NSl w' P A' n c' Ms ∧ TIs w' P t T ∧ Below w.heap.size w w' := by
  have Hok := Lib.hid hok
  have Hl := Lib.hid h.len
  have HHl := Lib.hid hHl
  have HMs := Lib.hid hMs
  have HT := Lib.hid hT
  clear hok hHl hMs hT
  obtain ⟨w0, hw0⟩ : ∃ w0, (((w.alloc (.cells #[.slice A n c] 22)).alloc (.cells #[.slice wa wn wcp] 41)).alloc (.cells #[.int .i64 0, .bool false, .int .i64 0, .bool false, .int .i64 0, .slice none 0 0, .bool false, .int .i64 0] 36)) = w0 := ⟨_, rfl⟩
  have hT0 : Below w.heap.size w w0 := by rw [← hw0]; exact below_then (below_then (below_alloc1 _ _) (below_alloc1 _ _)) (below_alloc1 _ _)
  have hl0 : w0.heap[w.heap.size]? = some (.cells #[.slice A n c] 22) := by rw [← hw0]; exact block_below (below_alloc1 _ _) (block_below (below_alloc1 _ _) (World.alloc_heap_new _ _))
  have hh0 : w0.heap[(w.heap.size + 1)]? = some (.cells #[.slice wa wn wcp] 41) := by rw [← hw0]; exact block_below (below_alloc1 _ _) (alloc_at _ _ (by simp))
  have hr0 : w0.heap[(w.heap.size + 2)]? = some (.cells #[.int .i64 0, .bool false, .int .i64 0, .bool false, .int .i64 0, .slice none 0 0, .bool false, .int .i64 0] 36) := by rw [← hw0]; exact alloc_at _ _ (by simp)
  have hs0 : w0.heap.size = w.heap.size + 3 := by rw [← hw0]; simp
  have Hs0 := Lib.hid hs0
  clear hs0
  have lc0 := cells1' hl0
  have hc0 := cells1' hh0
  obtain ⟨rc0, rc1, rc2, rc3, rc4, rc5, rc6, rc7⟩ := cells8' hr0
  go_enter Tryz.func18, Tryz.ntmps18
  go_wp2_with fail
  clear lc0 hc0 rc0 rc1 rc2 rc3 rc4 rc5 rc6 rc7
  clear hw0
  have hZ0 := Below.refl w0.heap.size w0
  have hP3 : ∀ b, w0.heap.size ≤ b → Gap P w.heap.size (w.heap.size + 3) b := fun b hb => gap_up hP (by omega) b (by have h2 := Hs0.out; exact Nat.le_trans (by omega) hb)
  have HP3 := Lib.hid hP3
  clear hP3
  refine (begin_c (P := Gap P w.heap.size (w.heap.size + 3)) ((h.gap (w.heap.size + 3)).to hT0) Hok.out h1 hm (hH.to hT0) HHl.out hwm HP3.out).mono ?_
  rintro e w1 ⟨⟨la, lm, lc, wa2, wm, wc2, kw, f, sa, sm, sc, d⟩, rfl, hK_, hkw, hla, hlm, hlc, hkd, hB1⟩
  have hT1 := below_then hT0 hB1
  have hZ1 := below_then hZ0 hB1
  clear hZ0
  have hl1 := block_below hB1 hl0
  have hh1 := block_below hB1 hh0
  have hr1 := block_below hB1 hr0
  clear hT0 hl0 hh0 hr0  hB1
  dsimp only at hkw hla hlm hlc hkd
  have e1 := hla.symm
  subst e1
  have e2 := hlm.symm
  subst e2
  have e3 := hlc.symm
  subst e3
  clear hla hlm hlc
  have Hkw := Lib.hid hkw
  have Hkd := Lib.hid hkd
  clear hkw hkd
  have hK1 := hK_
  clear hK_
  go_upto_region 2 with fail
  have hgec : w.heap.size ≤ w1.heap.size := hT1.size
  have Hl_c := Lib.hid (show w.heap.size ≠ w1.heap.size from Nat.ne_of_lt (Array.getElem?_eq_some_iff.1 hl1).1)
  have Hc_l := Lib.hid (show w1.heap.size ≠ w.heap.size from Ne.symm Hl_c.out)
  have Hh_c := Lib.hid (show (w.heap.size + 1) ≠ w1.heap.size from Nat.ne_of_lt (Array.getElem?_eq_some_iff.1 hh1).1)
  have Hc_h := Lib.hid (show w1.heap.size ≠ (w.heap.size + 1) from Ne.symm Hh_c.out)
  have Hr_c := Lib.hid (show (w.heap.size + 2) ≠ w1.heap.size from Nat.ne_of_lt (Array.getElem?_eq_some_iff.1 hr1).1)
  have Hc_r := Lib.hid (show w1.heap.size ≠ (w.heap.size + 2) from Ne.symm Hr_c.out)
  obtain ⟨w2, hw2⟩ : ∃ w2, w1.alloc (.cells #[.slice A n c, .slice wa2 wm wc2, .int .i64 kw, .bool f.x, .int .i64 f.i, .bool f.r, .int .i64 f.n, .slice f.a f.m f.c, .slice sa sm sc, .bool d] 76) = w2 := ⟨_, rfl⟩
  have hB2 : Below w1.heap.size w1 w2 := by rw [← hw2]; exact below_alloc1 _ _
  have hc2 : w2.heap[w1.heap.size]? = some (.cells #[.slice A n c, .slice wa2 wm wc2, .int .i64 kw, .bool f.x, .int .i64 f.i, .bool f.r, .int .i64 f.n, .slice f.a f.m f.c, .slice sa sm sc, .bool d] 76) := by rw [← hw2]; exact World.alloc_heap_new _ _
  rw [hw2]
  clear hw2
  have hT2 := below_then hT1 hB2
  have hZ2 := below_then hZ1 hB2
  clear hZ1
  have hl2 := block_below hB2 hl1
  have hh2 := block_below hB2 hh1
  have hr2 := block_below hB2 hr1
  have hK2 := KIs.to hK1 hB2
  clear hT1 hl1 hh1 hr1 hK1 hB2
  have hPx : ∀ b, w2.heap.size ≤ b → Gap P w.heap.size (w.heap.size + 3) b := fun b hb => HP3.out b (Nat.le_trans hZ2.size hb)
  have HPx := Lib.hid hPx
  clear hPx
  have Hl_r := Lib.hid (show w.heap.size ≠ w.heap.size + 2 by omega)
  have Hh_r := Lib.hid (show w.heap.size + 1 ≠ w.heap.size + 2 by omega)
  by_cases hneg : winN Ns < 0
  · skip
    obtain rfl : -1 = kw := by rw [Hkw.out]; have h_ := winTo_ge Ns Ns.length; unfold winN at *; omega
    have Hg := Lib.hid (show mapTo (fun i => quietN (nd Ns i)) n = Ms by rw [← HMs.out]; unfold slotN; rw [Hl.out]; exact mapTo_slot n (fun i _ => by rw [if_pos hneg]))
    obtain rfl : (⟨-1, zeroF, false, 11⟩ : TC) = T := by rw [← HT.out]; unfold toldN; rw [if_pos hneg]
    clear hneg
    have lc0 := cells1' hl2
    obtain ⟨cc0, cc1, cc2, cc3, cc4, cc5, cc6, cc7, cc8, cc9⟩ := cellsK' hc2
    go_wp2_with fail
    clear lc0 cc0 cc1 cc2 cc3 cc4 cc5 cc6 cc7 cc8 cc9
    refine (after_quiet (k := ⟨A, n, c, wa2, wm, wc2, -1, f, sa, sm, sc, d⟩) (X := w.heap.size) (c0 := c) hK2 Hok.out hl2 ((h.gap (w.heap.size + 3)).to hT2) HPx.out hm Ms Hg.out).mono ?_
    rintro e w3 ⟨A2, c2, rfl, hM_, hB3⟩
    have hT3 := below_then hT2 hB3
    have hZ3 := below_then hZ2 hB3
    clear hZ2
    have hl3 := block_below hB3 hl2
    have hh3 := block_below hB3 hh2
    have hr3 := block_below hB3 hr2
    have hc3 := block_below hB3 hc2
    have hK3 := KIs.to hK2 hB3
    clear hT2 hl2 hh2 hr2 hc2 hK2 hB3
    have hM3 := hM_
    clear hM_
    obtain ⟨⟨rc0, rc1, rc2, rc3, rc4, rc5, rc6, rc7⟩, rf0, rf1, rf2, rf3, rf4, rf5, rf6, rf7⟩ := cells8 hr3
    go_wp2_with fail
    clear rc0 rc1 rc2 rc3 rc4 rc5 rc6 rc7 rf0 rf1 rf2 rf3 rf4 rf5 rf6 rf7
    exact bodyPost_ret (v := .tuple #[.slice A2 n c2, TV.v ⟨-1, zeroFV, false, 11⟩]) (results_st (n := ⟨-1, zeroFV, false, 11⟩) rfl _ rfl rfl (set8_obj hr3 _ _ _ _ _ _ _ _)) rfl ⟨A2, c2, ⟨-1, zeroFV, false, 11⟩, rfl, (NSl.grow hM3 (set8_grown _ _ _ _ _ _ _ _ _ _) (gap_not (by omega) (by omega))).mono (fun _ _ h_ => h_.1), ⟨rfl, fis_zero, rfl, rfl⟩, below_g hT3 (set8_grown _ _ _ _ _ _ _ _ _ _) (by omega)⟩
  have hFr := winF_right Hok.out (show 0 ≤ winN Ns by omega)
  have HFr := Lib.hid hFr
  have hd := Hkd.out (by omega)
  have Hd := Lib.hid hd
  have d1 : (kw == -1) = false := by rw [Hkw.out]; simp; omega
  have Hneg := Lib.hid hneg
  clear hFr hd hneg
  have hZc2 := Below.refl w2.heap.size w2
  cases d
  rotate_left
  · skip
    have hoks : okS Ns H = false := by
      unfold okS
      rw [← Hd.out]
      rfl
    have Hg := Lib.hid (show mapTo (spoiltN Ns H (winF Ns) true) n = Ms by rw [← HMs.out]; unfold slotN; rw [Hl.out]; exact mapTo_slot n (fun i _ => by rw [if_neg (show ¬ winN Ns < 0 by have h_ := Hneg.out; omega)]; have h_ := spoilt_eq hoks i; rw [← Hd.out] at h_; exact h_))
    obtain rfl : (⟨winN Ns, winF Ns, false, lenZ (winF Ns) + 23⟩ : TC) = T := by rw [← HT.out]; unfold toldN; rw [if_neg (show ¬ winN Ns < 0 by have h_ := Hneg.out; omega), hoks]; rfl
    clear hoks
    obtain ⟨cc0, cc1, cc2, cc3, cc4, cc5, cc6, cc7, cc8, cc9⟩ := cellsK' hc2
    go_wp2_with fail
    clear cc0 cc1 cc2 cc3 cc4 cc5 cc6 cc7 cc8 cc9
    refine wp_region_till 7 (S := fun W => (W.cell? ⟨w1.heap.size, 0, none⟩ = some (.slice A n c) ∧ W.cell? ⟨w1.heap.size, 1, none⟩ = some (.slice wa2 wm wc2) ∧ W.cell? ⟨w1.heap.size, 2, none⟩ = some (.int .i64 kw) ∧ W.cell? ⟨w1.heap.size, 3, none⟩ = some (.bool f.x) ∧ W.cell? ⟨w1.heap.size, 4, none⟩ = some (.int .i64 f.i) ∧ W.cell? ⟨w1.heap.size, 5, none⟩ = some (.bool f.r) ∧ W.cell? ⟨w1.heap.size, 6, none⟩ = some (.int .i64 f.n) ∧ W.cell? ⟨w1.heap.size, 7, none⟩ = some (.slice f.a f.m f.c) ∧ W.cell? ⟨w1.heap.size, 8, none⟩ = some (.slice sa sm sc) ∧ W.cell? ⟨w1.heap.size, 9, none⟩ = some (.bool true))) (by kernel_rfl) (by exact cellsK' (block_below (below_drew1 _) hc2)) (fun hHeld_ => ?_)
    refine wpTill_take (i := 0) (v := ?vS1_0_0_) 27 rfl rfl (by kernel_rfl) (by kernel_rfl) (by kernel_rfl) (fun _ _ _ h => h) (Or.inl ⟨by kernel_rfl, ?hyS1_0_0_⟩) (by assumption) (by kernel_rfl) ?restS1_0_0_
    case hyS1_0_0_ => (intro W_ hS_; (try dsimp only at hS_); go_simp; (try (with_reducible rfl)))
    try simp only [Act.put, siA, scZ, scS]
    refine wpTill_take (i := 1) (v := ?vS1_1_0_) 28 rfl rfl (by kernel_rfl) (by kernel_rfl) (by kernel_rfl) (fun _ _ _ h => h) (Or.inl ⟨by kernel_rfl, ?hyS1_1_0_⟩) (by assumption) (by kernel_rfl) ?restS1_1_0_
    case hyS1_1_0_ => (intro W_ hS_; (try dsimp only at hS_); go_simp; (try (with_reducible rfl)))
    try simp only [Act.put, siA, scZ, scS]
    refine wpTill_take (i := 2) (v := ?vS1_2_0_) 29 rfl rfl (by kernel_rfl) (by kernel_rfl) (by kernel_rfl) (fun _ _ _ h => h) (Or.inl ⟨by kernel_rfl, ?hyS1_2_0_⟩) (by assumption) (by kernel_rfl) ?restS1_2_0_
    case hyS1_2_0_ => (intro W_ hS_; (try dsimp only at hS_); go_simp; (try (with_reducible rfl)))
    try simp only [Act.put, siA, scZ, scS]
    refine wpTill_take (i := 4) (v := ?vS1_4_0_) 31 rfl rfl (by kernel_rfl) (by kernel_rfl) (by kernel_rfl) (fun _ _ _ h => h) (Or.inl ⟨by kernel_rfl, ?hyS1_4_0_⟩) (by assumption) (by kernel_rfl) ?restS1_4_0_
    case hyS1_4_0_ => (intro W_ hS_; (try dsimp only at hS_); go_simp; (try (with_reducible rfl)))
    try simp only [Act.put, siA, scZ, scS]
    refine wpTill_ready (rs := [3]) (by kernel_rfl) (by simp) ?_
    refine (AllTill.cons rfl (fun K_ hK_ => ?_) AllTill.nil)
    go_simp
    refine (after_spoilt (k := ⟨A, n, c, wa2, wm, wc2, kw, f, sa, sm, sc, true⟩) (KIs.to hK2 (below_drew1 _)) Hok.out HFr.out (fun b hb => HPx.out b (Nat.le_trans (below_then hZc2 (below_drew1 _)).size hb)) hm Ms Hg.out).mono ?_
    rintro e wr3 ⟨A2, c2, rfl, hM_, hBr3⟩
    go_wp2_with fail
    refine hK_.out _ _ (fun _ => by exact cellsK' (block_below hBr3 (block_below (below_drew1 _) hc2))) (fun hHeld_3_0 => ?_)
    replace hHeld_3_0 := hHeld_3_0 (by decide)
    clear hK_
    try simp only [Act.put, siA, scZ, scS]
    refine wpTill_ready (rs := [5]) (by kernel_rfl) (by simp) ?_
    refine (AllTill.cons rfl (fun K_ hK_ => ?_) AllTill.nil)
    go_simp
    refine (ktold_c (k := ⟨A, n, c, wa2, wm, wc2, kw, f, sa, sm, sc, true⟩) (KIs.to hK2 (below_then (below_drew1 _) hBr3)) HFr.out (fun b hb => HPx.out b (Nat.le_trans (below_then hZc2 (below_then (below_drew1 _) hBr3)).size hb)) false 23 (by decide)).mono ?_
    rintro e wr5 ⟨t, rfl, hD_, hBr5⟩
    go_wp2_with fail
    refine hK_.out _ _ (fun _ => by exact cellsK' (block_below hBr5 (block_below hBr3 (block_below (below_drew1 _) hc2)))) (fun hHeld_5_1 => ?_)
    replace hHeld_5_1 := hHeld_5_1 (by decide)
    clear hK_
    try simp only [Act.put, siA, scZ, scS]
    refine wpTill_take (i := 6) (v := ?vS1_6_2_3_5) 4 rfl rfl (by kernel_rfl) (by kernel_rfl) (by kernel_rfl) (fun _ _ _ h => h) (Or.inl ⟨by kernel_rfl, ?hyS1_6_2_3_5⟩) (by assumption) (by kernel_rfl) ?restS1_6_2_3_5
    case hyS1_6_2_3_5 => (intro W_ hS_; (try dsimp only at hS_); go_simp; (try (with_reducible rfl)))
    try simp only [Act.put, siA, scZ, scS]
    refine wpTill_ready (rs := [7]) (by kernel_rfl) (by simp) ?_
    refine (AllTill.cons rfl (fun K_ hK_ => ?_) AllTill.nil)
    obtain ⟨⟨z0, z1, z2, z3, z4, z5, z6, z7⟩, y0, y1, y2, y3, y4, y5, y6, y7⟩ := cells8 (block_below hBr5 (block_below hBr3 (block_below (below_drew1 _) hr2)))
    go_simp
    go_wp2_with fail
    clear z0 z1 z2 z3 z4 z5 z6 z7 y0 y1 y2 y3 y4 y5 y6 y7
    refine hK_.out _ _ (fun h_ => absurd rfl h_) (fun hHeld_7_2 => ?_)
    clear hK_
    try simp only [Act.put, siA, scZ, scS]
    refine wpTill_done (by kernel_rfl) ?_ _
    skip
    obtain ⟨w3, hw3⟩ : ∃ w3, wr5 = w3 := ⟨_, rfl⟩
    have hB3 : Below w2.heap.size w2 w3 := by rw [← hw3]; exact (below_then (below_then (below_drew1 _) hBr3) hBr5)
    have hM3 := (NSl.to hM_ hBr5)
    rw [hw3] at hM3
    have hD3 := hD_
    rw [hw3] at hD3
    rw [hw3]
    clear hw3 hM_ hD_ hBr3 hBr5
    have hT3 := below_then hT2 hB3
    have hZ3 := below_then hZ2 hB3
    clear hZ2
    have hl3 := block_below hB3 hl2
    have hh3 := block_below hB3 hh2
    have hr3 := block_below hB3 hr2
    have hc3 := block_below hB3 hc2
    clear hT2 hl2 hh2 hr2 hc2  hB3
    go_wp2_with fail
    exact bodyPost_ret (v := .tuple #[.slice A2 n c2, TV.v t]) (results_st (n := t) rfl _ rfl rfl (set8_obj hr3 _ _ _ _ _ _ _ _)) rfl ⟨A2, c2, t, rfl, (NSl.grow hM3 (set8_grown _ _ _ _ _ _ _ _ _ _) (gap_not (by omega) (by omega))).mono (fun _ _ h_ => h_.1), ((TIs.grow hD3 (set8_grown _ _ _ _ _ _ _ _ _ _) (gap_not (by omega) (by omega))).mono (fun _ _ h_ => h_.1)).cast10 Hkw.out, below_g hT3 (set8_grown _ _ _ _ _ _ _ _ _ _) (by omega)⟩
  obtain ⟨q, hq_⟩ : ∃ q, (!ackN Ns) = q := ⟨_, rfl⟩
  have Hq := Lib.hid hq_
  clear hq_
  obtain ⟨cc0, cc1, cc2, cc3, cc4, cc5, cc6, cc7, cc8, cc9⟩ := cellsK' hc2
  go_wp2_with fail
  clear cc0 cc1 cc2 cc3 cc4 cc5 cc6 cc7 cc8 cc9
  refine (kunack_c (k := ⟨A, n, c, wa2, wm, wc2, kw, f, sa, sm, sc, false⟩) hK2 q Hq.out).mono ?_
  rintro e w3 ⟨rfl, hB3⟩
  have hZc3 := below_then hZc2 hB3
  have hT3 := below_then hT2 hB3
  have hZ3 := below_then hZ2 hB3
  clear hZ2
  have hl3 := block_below hB3 hl2
  have hh3 := block_below hB3 hh2
  have hr3 := block_below hB3 hr2
  have hc3 := block_below hB3 hc2
  have hK3 := KIs.to hK2 hB3
  clear hT2 hl2 hh2 hr2 hc2 hK2 hB3
  cases q
  · skip
    have hoks : okS Ns H = true := by
      unfold okS
      rw [← Hd.out]
      have h_ := Hq.out
      revert h_
      cases ackN Ns <;> intro h_ <;> first | rfl | cases h_
    have Hg := Lib.hid (show mapTo (passedN Ns H (winF Ns)) n = Ms by rw [← HMs.out]; unfold slotN; rw [Hl.out]; exact mapTo_slot n (fun i _ => by rw [if_neg (show ¬ winN Ns < 0 by have h_ := Hneg.out; omega)]; exact passed_eq hoks i))
    obtain rfl : (⟨winN Ns, winF Ns, true, lenZ (winF Ns) + 3⟩ : TC) = T := by rw [← HT.out]; unfold toldN; rw [if_neg (show ¬ winN Ns < 0 by have h_ := Hneg.out; omega), hoks]; rfl
    clear hoks
    obtain ⟨cc0, cc1, cc2, cc3, cc4, cc5, cc6, cc7, cc8, cc9⟩ := cellsK' hc3
    go_wp2_with fail
    clear cc0 cc1 cc2 cc3 cc4 cc5 cc6 cc7 cc8 cc9
    refine wp_region_till 7 (S := fun W => (W.cell? ⟨w1.heap.size, 0, none⟩ = some (.slice A n c) ∧ W.cell? ⟨w1.heap.size, 1, none⟩ = some (.slice wa2 wm wc2) ∧ W.cell? ⟨w1.heap.size, 2, none⟩ = some (.int .i64 kw) ∧ W.cell? ⟨w1.heap.size, 3, none⟩ = some (.bool f.x) ∧ W.cell? ⟨w1.heap.size, 4, none⟩ = some (.int .i64 f.i) ∧ W.cell? ⟨w1.heap.size, 5, none⟩ = some (.bool f.r) ∧ W.cell? ⟨w1.heap.size, 6, none⟩ = some (.int .i64 f.n) ∧ W.cell? ⟨w1.heap.size, 7, none⟩ = some (.slice f.a f.m f.c) ∧ W.cell? ⟨w1.heap.size, 8, none⟩ = some (.slice sa sm sc) ∧ W.cell? ⟨w1.heap.size, 9, none⟩ = some (.bool false))) (by kernel_rfl) (by exact cellsK' (block_below (below_drew1 _) hc3)) (fun hHeld_ => ?_)
    refine wpTill_take (i := 0) (v := ?vS2_0_0_) 33 rfl rfl (by kernel_rfl) (by kernel_rfl) (by kernel_rfl) (fun _ _ _ h => h) (Or.inl ⟨by kernel_rfl, ?hyS2_0_0_⟩) (by assumption) (by kernel_rfl) ?restS2_0_0_
    case hyS2_0_0_ => (intro W_ hS_; (try dsimp only at hS_); go_simp; (try (with_reducible rfl)))
    try simp only [Act.put, siA, scZ, scS]
    refine wpTill_take (i := 1) (v := ?vS2_1_0_) 34 rfl rfl (by kernel_rfl) (by kernel_rfl) (by kernel_rfl) (fun _ _ _ h => h) (Or.inl ⟨by kernel_rfl, ?hyS2_1_0_⟩) (by assumption) (by kernel_rfl) ?restS2_1_0_
    case hyS2_1_0_ => (intro W_ hS_; (try dsimp only at hS_); go_simp; (try (with_reducible rfl)))
    try simp only [Act.put, siA, scZ, scS]
    refine wpTill_take (i := 2) (v := ?vS2_2_0_) 35 rfl rfl (by kernel_rfl) (by kernel_rfl) (by kernel_rfl) (fun _ _ _ h => h) (Or.inl ⟨by kernel_rfl, ?hyS2_2_0_⟩) (by assumption) (by kernel_rfl) ?restS2_2_0_
    case hyS2_2_0_ => (intro W_ hS_; (try dsimp only at hS_); go_simp; (try (with_reducible rfl)))
    try simp only [Act.put, siA, scZ, scS]
    refine wpTill_take (i := 4) (v := ?vS2_4_0_) 37 rfl rfl (by kernel_rfl) (by kernel_rfl) (by kernel_rfl) (fun _ _ _ h => h) (Or.inl ⟨by kernel_rfl, ?hyS2_4_0_⟩) (by assumption) (by kernel_rfl) ?restS2_4_0_
    case hyS2_4_0_ => (intro W_ hS_; (try dsimp only at hS_); go_simp; (try (with_reducible rfl)))
    try simp only [Act.put, siA, scZ, scS]
    refine wpTill_ready (rs := [3]) (by kernel_rfl) (by simp) ?_
    refine (AllTill.cons rfl (fun K_ hK_ => ?_) AllTill.nil)
    go_simp
    refine (after_passed (k := ⟨A, n, c, wa2, wm, wc2, kw, f, sa, sm, sc, false⟩) (KIs.to hK3 (below_drew1 _)) Hok.out HFr.out (fun b hb => HPx.out b (Nat.le_trans (below_then hZc3 (below_drew1 _)).size hb)) hm Ms Hg.out).mono ?_
    rintro e wr3 ⟨A2, c2, rfl, hM_, hBr3⟩
    go_wp2_with fail
    refine hK_.out _ _ (fun _ => by exact cellsK' (block_below hBr3 (block_below (below_drew1 _) hc3))) (fun hHeld_3_0 => ?_)
    replace hHeld_3_0 := hHeld_3_0 (by decide)
    clear hK_
    try simp only [Act.put, siA, scZ, scS]
    refine wpTill_ready (rs := [5]) (by kernel_rfl) (by simp) ?_
    refine (AllTill.cons rfl (fun K_ hK_ => ?_) AllTill.nil)
    go_simp
    refine (ktold_c (k := ⟨A, n, c, wa2, wm, wc2, kw, f, sa, sm, sc, false⟩) (KIs.to hK3 (below_then (below_drew1 _) hBr3)) HFr.out (fun b hb => HPx.out b (Nat.le_trans (below_then hZc3 (below_then (below_drew1 _) hBr3)).size hb)) true 3 (by decide)).mono ?_
    rintro e wr5 ⟨t, rfl, hD_, hBr5⟩
    go_wp2_with fail
    refine hK_.out _ _ (fun _ => by exact cellsK' (block_below hBr5 (block_below hBr3 (block_below (below_drew1 _) hc3)))) (fun hHeld_5_1 => ?_)
    replace hHeld_5_1 := hHeld_5_1 (by decide)
    clear hK_
    try simp only [Act.put, siA, scZ, scS]
    refine wpTill_take (i := 6) (v := ?vS2_6_2_3_5) 4 rfl rfl (by kernel_rfl) (by kernel_rfl) (by kernel_rfl) (fun _ _ _ h => h) (Or.inl ⟨by kernel_rfl, ?hyS2_6_2_3_5⟩) (by assumption) (by kernel_rfl) ?restS2_6_2_3_5
    case hyS2_6_2_3_5 => (intro W_ hS_; (try dsimp only at hS_); go_simp; (try (with_reducible rfl)))
    try simp only [Act.put, siA, scZ, scS]
    refine wpTill_ready (rs := [7]) (by kernel_rfl) (by simp) ?_
    refine (AllTill.cons rfl (fun K_ hK_ => ?_) AllTill.nil)
    obtain ⟨⟨z0, z1, z2, z3, z4, z5, z6, z7⟩, y0, y1, y2, y3, y4, y5, y6, y7⟩ := cells8 (block_below hBr5 (block_below hBr3 (block_below (below_drew1 _) hr3)))
    go_simp
    go_wp2_with fail
    clear z0 z1 z2 z3 z4 z5 z6 z7 y0 y1 y2 y3 y4 y5 y6 y7
    refine hK_.out _ _ (fun h_ => absurd rfl h_) (fun hHeld_7_2 => ?_)
    clear hK_
    try simp only [Act.put, siA, scZ, scS]
    refine wpTill_done (by kernel_rfl) ?_ _
    skip
    obtain ⟨w4, hw4⟩ : ∃ w4, wr5 = w4 := ⟨_, rfl⟩
    have hB4 : Below w3.heap.size w3 w4 := by rw [← hw4]; exact (below_then (below_then (below_drew1 _) hBr3) hBr5)
    have hM4 := (NSl.to hM_ hBr5)
    rw [hw4] at hM4
    have hD4 := hD_
    rw [hw4] at hD4
    rw [hw4]
    clear hw4 hM_ hD_ hBr3 hBr5
    have hT4 := below_then hT3 hB4
    have hZ4 := below_then hZ3 hB4
    clear hZ3
    have hl4 := block_below hB4 hl3
    have hh4 := block_below hB4 hh3
    have hr4 := block_below hB4 hr3
    have hc4 := block_below hB4 hc3
    clear hT3 hl3 hh3 hr3 hc3  hB4
    go_wp2_with fail
    exact bodyPost_ret (v := .tuple #[.slice A2 n c2, TV.v t]) (results_st (n := t) rfl _ rfl rfl (set8_obj hr4 _ _ _ _ _ _ _ _)) rfl ⟨A2, c2, t, rfl, (NSl.grow hM4 (set8_grown _ _ _ _ _ _ _ _ _ _) (gap_not (by omega) (by omega))).mono (fun _ _ h_ => h_.1), ((TIs.grow hD4 (set8_grown _ _ _ _ _ _ _ _ _ _) (gap_not (by omega) (by omega))).mono (fun _ _ h_ => h_.1)).cast10 Hkw.out, below_g hT4 (set8_grown _ _ _ _ _ _ _ _ _ _) (by omega)⟩
  have hoks : okS Ns H = false := by
    unfold okS
    rw [← Hd.out]
    have h_ := Hq.out
    revert h_
    cases ackN Ns <;> intro h_ <;> first | rfl | cases h_
  have Hg := Lib.hid (show mapTo (spoiltN Ns H (winF Ns) false) n = Ms by rw [← HMs.out]; unfold slotN; rw [Hl.out]; exact mapTo_slot n (fun i _ => by rw [if_neg (show ¬ winN Ns < 0 by have h_ := Hneg.out; omega)]; have h_ := spoilt_eq hoks i; rw [← Hd.out] at h_; exact h_))
  obtain rfl : (⟨winN Ns, winF Ns, false, lenZ (winF Ns) + 23⟩ : TC) = T := by rw [← HT.out]; unfold toldN; rw [if_neg (show ¬ winN Ns < 0 by have h_ := Hneg.out; omega), hoks]; rfl
  clear hoks
  obtain ⟨cc0, cc1, cc2, cc3, cc4, cc5, cc6, cc7, cc8, cc9⟩ := cellsK' hc3
  go_wp2_with fail
  clear cc0 cc1 cc2 cc3 cc4 cc5 cc6 cc7 cc8 cc9
  refine wp_region_till 7 (S := fun W => (W.cell? ⟨w1.heap.size, 0, none⟩ = some (.slice A n c) ∧ W.cell? ⟨w1.heap.size, 1, none⟩ = some (.slice wa2 wm wc2) ∧ W.cell? ⟨w1.heap.size, 2, none⟩ = some (.int .i64 kw) ∧ W.cell? ⟨w1.heap.size, 3, none⟩ = some (.bool f.x) ∧ W.cell? ⟨w1.heap.size, 4, none⟩ = some (.int .i64 f.i) ∧ W.cell? ⟨w1.heap.size, 5, none⟩ = some (.bool f.r) ∧ W.cell? ⟨w1.heap.size, 6, none⟩ = some (.int .i64 f.n) ∧ W.cell? ⟨w1.heap.size, 7, none⟩ = some (.slice f.a f.m f.c) ∧ W.cell? ⟨w1.heap.size, 8, none⟩ = some (.slice sa sm sc) ∧ W.cell? ⟨w1.heap.size, 9, none⟩ = some (.bool false))) (by kernel_rfl) (by exact cellsK' (block_below (below_drew1 _) hc3)) (fun hHeld_ => ?_)
  refine wpTill_take (i := 0) (v := ?vS3_0_0_) 27 rfl rfl (by kernel_rfl) (by kernel_rfl) (by kernel_rfl) (fun _ _ _ h => h) (Or.inl ⟨by kernel_rfl, ?hyS3_0_0_⟩) (by assumption) (by kernel_rfl) ?restS3_0_0_
  case hyS3_0_0_ => (intro W_ hS_; (try dsimp only at hS_); go_simp; (try (with_reducible rfl)))
  try simp only [Act.put, siA, scZ, scS]
  refine wpTill_take (i := 1) (v := ?vS3_1_0_) 28 rfl rfl (by kernel_rfl) (by kernel_rfl) (by kernel_rfl) (fun _ _ _ h => h) (Or.inl ⟨by kernel_rfl, ?hyS3_1_0_⟩) (by assumption) (by kernel_rfl) ?restS3_1_0_
  case hyS3_1_0_ => (intro W_ hS_; (try dsimp only at hS_); go_simp; (try (with_reducible rfl)))
  try simp only [Act.put, siA, scZ, scS]
  refine wpTill_take (i := 2) (v := ?vS3_2_0_) 29 rfl rfl (by kernel_rfl) (by kernel_rfl) (by kernel_rfl) (fun _ _ _ h => h) (Or.inl ⟨by kernel_rfl, ?hyS3_2_0_⟩) (by assumption) (by kernel_rfl) ?restS3_2_0_
  case hyS3_2_0_ => (intro W_ hS_; (try dsimp only at hS_); go_simp; (try (with_reducible rfl)))
  try simp only [Act.put, siA, scZ, scS]
  refine wpTill_take (i := 4) (v := ?vS3_4_0_) 31 rfl rfl (by kernel_rfl) (by kernel_rfl) (by kernel_rfl) (fun _ _ _ h => h) (Or.inl ⟨by kernel_rfl, ?hyS3_4_0_⟩) (by assumption) (by kernel_rfl) ?restS3_4_0_
  case hyS3_4_0_ => (intro W_ hS_; (try dsimp only at hS_); go_simp; (try (with_reducible rfl)))
  try simp only [Act.put, siA, scZ, scS]
  refine wpTill_ready (rs := [3]) (by kernel_rfl) (by simp) ?_
  refine (AllTill.cons rfl (fun K_ hK_ => ?_) AllTill.nil)
  go_simp
  refine (after_spoilt (k := ⟨A, n, c, wa2, wm, wc2, kw, f, sa, sm, sc, false⟩) (KIs.to hK3 (below_drew1 _)) Hok.out HFr.out (fun b hb => HPx.out b (Nat.le_trans (below_then hZc3 (below_drew1 _)).size hb)) hm Ms Hg.out).mono ?_
  rintro e wr3 ⟨A2, c2, rfl, hM_, hBr3⟩
  go_wp2_with fail
  refine hK_.out _ _ (fun _ => by exact cellsK' (block_below hBr3 (block_below (below_drew1 _) hc3))) (fun hHeld_3_0 => ?_)
  replace hHeld_3_0 := hHeld_3_0 (by decide)
  clear hK_
  try simp only [Act.put, siA, scZ, scS]
  refine wpTill_ready (rs := [5]) (by kernel_rfl) (by simp) ?_
  refine (AllTill.cons rfl (fun K_ hK_ => ?_) AllTill.nil)
  go_simp
  refine (ktold_c (k := ⟨A, n, c, wa2, wm, wc2, kw, f, sa, sm, sc, false⟩) (KIs.to hK3 (below_then (below_drew1 _) hBr3)) HFr.out (fun b hb => HPx.out b (Nat.le_trans (below_then hZc3 (below_then (below_drew1 _) hBr3)).size hb)) false 23 (by decide)).mono ?_
  rintro e wr5 ⟨t, rfl, hD_, hBr5⟩
  go_wp2_with fail
  refine hK_.out _ _ (fun _ => by exact cellsK' (block_below hBr5 (block_below hBr3 (block_below (below_drew1 _) hc3)))) (fun hHeld_5_1 => ?_)
  replace hHeld_5_1 := hHeld_5_1 (by decide)
  clear hK_
  try simp only [Act.put, siA, scZ, scS]
  refine wpTill_take (i := 6) (v := ?vS3_6_2_3_5) 4 rfl rfl (by kernel_rfl) (by kernel_rfl) (by kernel_rfl) (fun _ _ _ h => h) (Or.inl ⟨by kernel_rfl, ?hyS3_6_2_3_5⟩) (by assumption) (by kernel_rfl) ?restS3_6_2_3_5
  case hyS3_6_2_3_5 => (intro W_ hS_; (try dsimp only at hS_); go_simp; (try (with_reducible rfl)))
  try simp only [Act.put, siA, scZ, scS]
  refine wpTill_ready (rs := [7]) (by kernel_rfl) (by simp) ?_
  refine (AllTill.cons rfl (fun K_ hK_ => ?_) AllTill.nil)
  obtain ⟨⟨z0, z1, z2, z3, z4, z5, z6, z7⟩, y0, y1, y2, y3, y4, y5, y6, y7⟩ := cells8 (block_below hBr5 (block_below hBr3 (block_below (below_drew1 _) hr3)))
  go_simp
  go_wp2_with fail
  clear z0 z1 z2 z3 z4 z5 z6 z7 y0 y1 y2 y3 y4 y5 y6 y7
  refine hK_.out _ _ (fun h_ => absurd rfl h_) (fun hHeld_7_2 => ?_)
  clear hK_
  try simp only [Act.put, siA, scZ, scS]
  refine wpTill_done (by kernel_rfl) ?_ _
  skip
  obtain ⟨w4, hw4⟩ : ∃ w4, wr5 = w4 := ⟨_, rfl⟩
  have hB4 : Below w3.heap.size w3 w4 := by rw [← hw4]; exact (below_then (below_then (below_drew1 _) hBr3) hBr5)
  have hM4 := (NSl.to hM_ hBr5)
  rw [hw4] at hM4
  have hD4 := hD_
  rw [hw4] at hD4
  rw [hw4]
  clear hw4 hM_ hD_ hBr3 hBr5
  have hT4 := below_then hT3 hB4
  have hZ4 := below_then hZ3 hB4
  clear hZ3
  have hl4 := block_below hB4 hl3
  have hh4 := block_below hB4 hh3
  have hr4 := block_below hB4 hr3
  have hc4 := block_below hB4 hc3
  clear hT3 hl3 hh3 hr3 hc3  hB4
  go_wp2_with fail
  exact bodyPost_ret (v := .tuple #[.slice A2 n c2, TV.v t]) (results_st (n := t) rfl _ rfl rfl (set8_obj hr4 _ _ _ _ _ _ _ _)) rfl ⟨A2, c2, t, rfl, (NSl.grow hM4 (set8_grown _ _ _ _ _ _ _ _ _ _) (gap_not (by omega) (by omega))).mono (fun _ _ h_ => h_.1), ((TIs.grow hD4 (set8_grown _ _ _ _ _ _ _ _ _ _) (gap_not (by omega) (by omega))).mono (fun _ _ h_ => h_.1)).cast10 Hkw.out, below_g hT4 (set8_grown _ _ _ _ _ _ _ _ _ _) (by omega)⟩
end Go.Proofs.YtcifjccojmfpaaaGreat

namespace Go.Proofs.YtcifjccojmfpaaaGreat
open Go.RowKit
set_option linter.unusedVariables false
set_option linter.unusedSimpArgs false
def set8o (w : World) (L o : Nat) (a b c d e f g i : Value) : World := (((((((w.setCell ⟨L, o, none⟩ a).setCell ⟨L, o + 1, none⟩ b).setCell ⟨L, o + 2, none⟩ c).setCell ⟨L, o + 3, none⟩ d).setCell ⟨L, o + 4, none⟩ e).setCell ⟨L, o + 5, none⟩ f).setCell ⟨L, o + 6, none⟩ g).setCell ⟨L, o + 7, none⟩ i
theorem set8o_put (w : World) (L o : Nat) (t : TV) : set8o w L o (.int .i64 t.w) (.bool t.f.x) (.int .i64 t.f.i) (.bool t.f.r) (.int .i64 t.f.n) (.slice t.f.a t.f.m t.f.c) (.bool t.ok) (.int .i64 t.b) = putAt w L o (TV.cs t) := rfl
theorem Tryz.makeT (n : Nat) (hn : n ≤ 1000) (w : World) : (Instr.makeSlice 27 (.int .i64 n) (.int .i64 n)).run Tryz.prog w = .ok (.slice (some ⟨w.heap.size, 0, none⟩) n n) (w.alloc (.cells (gcells TV.cs (List.replicate n zeroTV)).toArray 36)) :=
  run_make_g shT zeroTV Tryz.underlying27 (bytes := 80) ⟨.agg #[.int .i64 0, .bool false, .int .i64 0, .bool false, .int .i64 0, .slice none 0 0, .bool false, .int .i64 0], by kernel_rfl, by kernel_rfl⟩ (by decide) n hn w
theorem slots_c {w : World} {P Q : Nat → Prop} {A : Option Addr} {n c : Nat} {Ns : List NC} {ha : Option Addr} {hn hc : Nat} {Hs : List (List Int)} (h : NSl w P A n c Ns) (hok : OkNs Ns) (h1 : 1 ≤ n) (hm : n ≤ 8) (hh : HSl w Q ha hn hc Hs) (hhm : hn ≤ 100) (hw : ∀ H ∈ Hs, H.length ≤ 1000) (hP : ∀ b, w.heap.size ≤ b → P b) :
    Calls Tryz.prog 14 #[.slice A n c, .slice ha hn hc] w fun e w' => ∃ (A' B : Option Addr) (c' d : Nat), e = .returned (.tuple #[.slice A' n c', .slice B hn d]) ∧ NSl w' P A' n c' (slotsN Ns Hs) ∧ TSl w' P B hn d (toldsN Ns Hs) ∧ Below w.heap.size w w' := by
  have Hok := Lib.hid hok
  have Hl := Lib.hid h.len
  have HHl := Lib.hid hh.len
  have Hw := Lib.hid hw
  clear hok hw
  have hmk := Tryz.makeT hn (by omega)
  have hT0 : Below w.heap.size w w := Below.refl _ _
  go_enter Tryz.func14, Tryz.ntmps14
  go_upto_region 1 with fail
  go_cut [6, 7] from 9 to 13 (fun o al wc => ∃ (A2 : Option Addr) (c2 L : Nat), o = .slice A2 n c2 ∧ al = .slice (some ⟨L, 0, none⟩) hn hn ∧ w.heap.size ≤ L ∧ VBlk TV.cs 36 wc L (doneL [] hn zeroTV) ∧ NSl wc (Off P [L]) A2 n c2 Ns ∧ Below w.heap.size w wc)
  case first =>
    refine wp_region_held_drew (S := fun W => True) (by kernel_rfl) (by exact trivial) (fun hHeld_ => ?_)
    refine wpAnyH_take' (i := 0) (v := ?v0_0_) 9 rfl rfl (by kernel_rfl) (by kernel_rfl) (by kernel_rfl) (fun _ _ _ h => h) (Or.inl ⟨by kernel_rfl, ?hy0_0_⟩) (by assumption) ?rest0_0_
    case hy0_0_ => (intro W_ hS_; (try dsimp only at hS_); go_simp; (try (with_reducible rfl)))
    try simp only [Act.put, siA, scZ, scS]
    refine wpAnyH_take' (i := 2) (v := ?v2_0_) 11 rfl rfl (by kernel_rfl) (by kernel_rfl) (by kernel_rfl) (fun _ _ _ h => h) (Or.inl ⟨by kernel_rfl, ?hy2_0_⟩) (by assumption) ?rest2_0_
    case hy2_0_ => (intro W_ hS_; (try dsimp only at hS_); go_simp; (try (with_reducible rfl)))
    try simp only [Act.put, siA, scZ, scS]
    refine wpAnyH_take' (i := 3) (v := ?v3_0_) 12 rfl rfl (by kernel_rfl) (by kernel_rfl) (by kernel_rfl) (fun _ _ _ h => h) (Or.inl ⟨by kernel_rfl, ?hy3_0_⟩) (by assumption) ?rest3_0_
    case hy3_0_ => (intro W_ hS_; (try dsimp only at hS_); go_simp; (try (with_reducible rfl)))
    try simp only [Act.put, siA, scZ, scS]
    refine wpAnyH_ready (rs := [1, 4]) (by kernel_rfl) (by simp) ?_
    refine (AllReadyH.cons rfl (fun K_ hK_ => ?_) (AllReadyH.cons rfl (fun K_ hK_ => ?_) AllReadyH.nil))
    · go_simp
      refine (cloneN_c (h.to (below_drew1 _)) (by omega) h1 hP).mono ?_
      rintro e wr1 ⟨A2, c2, rfl, hM_, hBr1⟩
      go_wp2_with fail
      refine hK_.out _ _ (by exact trivial) (fun hHeld_1_0 => ?_)
      clear hK_
      try simp only [Act.put, siA, scZ, scS]
      refine wpAnyH_take' (i := 5) (v := ?v5_1_1) 6 rfl rfl (by kernel_rfl) (by kernel_rfl) (by kernel_rfl) (fun _ _ _ h => h) (Or.inl ⟨by kernel_rfl, ?hy5_1_1⟩) (by assumption) ?rest5_1_1
      case hy5_1_1 => (intro W_ hS_; (try dsimp only at hS_); go_simp; (try (with_reducible rfl)))
      try simp only [Act.put, siA, scZ, scS]
      refine wpAnyH_ready (rs := [4]) (by kernel_rfl) (by simp) ?_
      refine (AllReadyH.cons rfl (fun K_ hK_ => ?_) AllReadyH.nil)
      go_simp
      go_wp2_with fail
      refine hK_.out _ _ (by exact trivial) (fun hHeld_4_1 => ?_)
      clear hK_
      try simp only [Act.put, siA, scZ, scS]
      refine wpAnyH_take' (i := 6) (v := ?v6_2_1_4) 7 rfl rfl (by kernel_rfl) (by kernel_rfl) (by kernel_rfl) (fun _ _ _ h => h) (Or.inl ⟨by kernel_rfl, ?hy6_2_1_4⟩) (by assumption) ?rest6_2_1_4
      case hy6_2_1_4 => (intro W_ hS_; (try dsimp only at hS_); go_simp; (try (with_reducible rfl)))
      try simp only [Act.put, siA, scZ, scS]
      refine wpAnyH_done (by kernel_rfl) ?_ _
      go_wp2_with fail
      go_meet
      have hB9 := below_then (below_drew1 w) hBr1
      exact ⟨A2, c2, wr1.heap.size, rfl, rfl, hB9.size, World.alloc_heap_new _ _, (hM_.mono (off_fresh10 (Nat.le_refl _))).to (below_alloc1 _ _), below_then hB9 (below_alloc1 _ _)⟩
    · go_simp
      go_wp2_with fail
      refine hK_.out _ _ (by exact trivial) (fun hHeld_4_0 => ?_)
      clear hK_
      try simp only [Act.put, siA, scZ, scS]
      refine wpAnyH_ready (rs := [1]) (by kernel_rfl) (by simp) ?_
      refine (AllReadyH.cons rfl (fun K_ hK_ => ?_) AllReadyH.nil)
      go_simp
      refine (cloneN_c (P := Off P [w.heap.size]) ((h.mono (off_fresh10 (Nat.le_refl _))).to (below_then (below_alloc1 _ (.cells (gcells TV.cs (List.replicate hn zeroTV)).toArray 36)) (below_drew1 _))) (by omega) h1 (fun b hb => off_up10 hP (below_then (below_alloc1 _ (.cells (gcells TV.cs (List.replicate hn zeroTV)).toArray 36)) (below_drew1 _)).size hb (by simp))).mono ?_
      rintro e wr1 ⟨A2, c2, rfl, hM_, hBr1⟩
      go_wp2_with fail
      refine hK_.out _ _ (by exact trivial) (fun hHeld_1_1 => ?_)
      clear hK_
      try simp only [Act.put, siA, scZ, scS]
      refine wpAnyH_take' (i := 5) (v := ?v5_2_4_1) 6 rfl rfl (by kernel_rfl) (by kernel_rfl) (by kernel_rfl) (fun _ _ _ h => h) (Or.inl ⟨by kernel_rfl, ?hy5_2_4_1⟩) (by assumption) ?rest5_2_4_1
      case hy5_2_4_1 => (intro W_ hS_; (try dsimp only at hS_); go_simp; (try (with_reducible rfl)))
      try simp only [Act.put, siA, scZ, scS]
      refine wpAnyH_take' (i := 6) (v := ?v6_2_4_1) 7 rfl rfl (by kernel_rfl) (by kernel_rfl) (by kernel_rfl) (fun _ _ _ h => h) (Or.inl ⟨by kernel_rfl, ?hy6_2_4_1⟩) (by assumption) ?rest6_2_4_1
      case hy6_2_4_1 => (intro W_ hS_; (try dsimp only at hS_); go_simp; (try (with_reducible rfl)))
      try simp only [Act.put, siA, scZ, scS]
      refine wpAnyH_done (by kernel_rfl) ?_ _
      go_wp2_with fail
      go_meet
      exact ⟨A2, c2, w.heap.size, rfl, rfl, Nat.le_refl _, block_below hBr1 (block_below (below_drew1 _) (World.alloc_heap_new w (.cells (gcells TV.cs (List.replicate hn zeroTV)).toArray 36))), hM_, below_then (below_then (below_alloc1 _ (.cells (gcells TV.cs (List.replicate hn zeroTV)).toArray 36)) (below_drew1 _)) hBr1⟩
  case rest =>
    obtain ⟨A2, c2, L, rfl, rfl, hgeL, hv_, hM_, hB1⟩ := hcut
    obtain ⟨w1, e_⟩ : ∃ w_, w_ = wc := ⟨_, rfl⟩
    subst e_
    have hT1 := below_then hT0 hB1
    clear hT0   hB1
    have hv1 := hv_
    have hS1 := hM_
    clear hv_ hM_
    go_wp2_with fail
    go_loopw [6, 16] (fun o i wr => ∃ (k c2 : Nat) (A2 : Option Addr) (ts : List TV), k ≤ hn ∧ i = .int .i64 k ∧ o = .slice A2 n c2 ∧ VBlk TV.cs 36 wr L (doneL ts hn zeroTV) ∧ TsIs wr (Off P [L]) ts (toldsTo Ns Hs k) ∧ NSl wr (Off P [L]) A2 n c2 (slotsTo Ns Hs k) ∧ Below w.heap.size w wr) (fun _ i _ => hn - (intOf i).toNat)
    case atStart => exact ⟨0, c2, A2, [], Nat.zero_le _, rfl, rfl, hv1, AllIs.nil, hS1, hT1⟩
    case round =>
      clear hv1 hS1 hT1
      obtain ⟨k, c2, A2, ts, hk, rfl, rfl, hv50, hA50, hS50, hT50⟩ := hrel
      have Htl := Lib.hid (show ts.length = k by have h_ := hA50.1; rw [toldsTo_len] at h_; exact h_)
      by_cases hlt : k < hn
      · skip
        have j1 : (k : Int) < (hn : Int) := by omega
        obtain ⟨ad, x, ea_, hc_, hX50⟩ := (hh.to hT50).at_ hlt
        obtain ⟨H, hH_⟩ : ∃ H, Hs.getD k [] = H := ⟨_, rfl⟩
        rw [hH_] at hX50
        have HH := Lib.hid hH_
        clear hH_
        subst ea_
        rw [Nat.mul_one] at hc_
        have hxm : x.m ≤ 1000 := by
          rw [← hX50.len, ← HH.out]
          exact Hw.out _ (List.mem_of_getElem? (show Hs[k]? = some (Hs.getD k []) by simp [List.getD, List.getElem?_eq_getElem (show k < Hs.length by rw [HHl.out]; exact hlt)]))
        go_wp2_with fail
        clear hc_
        have HokS := Lib.hid (slotsTo_ok Hok.out Hs k)
        obtain ⟨Ms, hMs⟩ : ∃ Ms, slotsTo Ns Hs (k + 1) = Ms := ⟨_, rfl⟩
        obtain ⟨T, hT_⟩ : ∃ T, toldN lenZ (slotsTo Ns Hs k) H = T := ⟨_, rfl⟩
        have HMs := Lib.hid hMs
        have HMs2 := Lib.hid (show slotN (slotsTo Ns Hs k) H = Ms by rw [← hMs, slotsTo, HH.out])
        have HT := Lib.hid hT_
        have HTs := Lib.hid (show toldsTo Ns Hs (k + 1) = toldsTo Ns Hs k ++ [T] by rw [toldsTo, HH.out, hT_])
        clear hMs hT_
        refine (slot_c (P := Off P [L]) hS50 HokS.out h1 hm hX50.row hX50.len hxm (fun b hb => off_up10 hP hT50.size hb hv50.lt) Ms HMs2.out T HT.out).mono ?_
        rintro e w51 ⟨A3, c3, t, rfl, hN_, hD_, hB51⟩
        have hT51 := below_then hT50 hB51
        have hv51 := VBlk.to hv50 hB51
        have hA51 := TsIs.to hA50 hB51
        clear hT50  hv50 hA50 hB51
        have hN51 := hN_
        clear hN_
        have hD51 := hD_
        clear hD_
        clear hS50 hX50
        have hfz := fun o => hv51.frozen (o := o)
        have hf0 := hfz (k * 8)
        have hf1 := hfz (k * 8 + 1)
        have hf2 := hfz (k * 8 + 2)
        have hf3 := hfz (k * 8 + 3)
        have hf4 := hfz (k * 8 + 4)
        have hf5 := hfz (k * 8 + 5)
        have hf6 := hfz (k * 8 + 6)
        have hf7 := hfz (k * 8 + 7)
        have hln : (gcells TV.cs (doneL ts hn zeroTV)).length = hn * 8 := by rw [gcells_len shT, doneL_len (by rw [Htl.out]; omega)]
        obtain ⟨u0, hu0⟩ := hv51.some_ (o := k * 8) (by rw [hln]; omega)
        obtain ⟨u1, hu1⟩ := hv51.some_ (o := k * 8 + 1) (by rw [hln]; omega)
        obtain ⟨u2, hu2⟩ := hv51.some_ (o := k * 8 + 2) (by rw [hln]; omega)
        obtain ⟨u3, hu3⟩ := hv51.some_ (o := k * 8 + 3) (by rw [hln]; omega)
        obtain ⟨u4, hu4⟩ := hv51.some_ (o := k * 8 + 4) (by rw [hln]; omega)
        obtain ⟨u5, hu5⟩ := hv51.some_ (o := k * 8 + 5) (by rw [hln]; omega)
        obtain ⟨u6, hu6⟩ := hv51.some_ (o := k * 8 + 6) (by rw [hln]; omega)
        obtain ⟨u7, hu7⟩ := hv51.some_ (o := k * 8 + 7) (by rw [hln]; omega)
        clear hfz hln
        go_upto_region 6 with fail
        clear hf0 hu0 hf1 hu1 hf2 hu2 hf3 hu3 hf4 hu4 hf5 hu5 hf6 hu6 hf7 hu7
        obtain ⟨w90, hw90⟩ : ∃ w_, set8o w51 L (k * 8) (.int .i64 t.w) (.bool t.f.x) (.int .i64 t.f.i) (.bool t.f.r) (.int .i64 t.f.n) (.slice t.f.a t.f.m t.f.c) (.bool t.ok) (.int .i64 t.b) = w_ := ⟨_, rfl⟩
        have hv90 : VBlk TV.cs 36 w90 L (doneL (ts ++ [t]) hn zeroTV) := by rw [← hw90, set8o_put, ← doneL_set (by rw [Htl.out]; exact hlt), Htl.out]; exact VBlk.put shT hv51 (by rw [doneL_len (by rw [Htl.out]; omega)]; exact hlt) t
        have hG90 : w51.grownBy w90 (some L) := by rw [← hw90, set8o_put]; exact putAt_grown _ _ _ _
        have hA90 := AllIs.append (TsIs.grow hA51 hG90 (off_not (by simp))) (AllIs.one (TIs.grow hD51 hG90 (off_not (by simp))))
        have hN90 := NSl.grow hN51 hG90 (off_not (by simp))
        have hT90 := below_g hT51 hG90 hgeL
        unfold set8o at hw90
        rw [hw90]
        clear hw90 hG90
        go_wp2_with fail
        go_round
        case measure => simp [intOf]; omega
        exact ⟨k + 1, c3, A3, ts ++ [t], by omega, by go_num, rfl, hv90, (by rw [HTs.out]; exact hA90), (by rw [HMs.out]; exact hN90), hT90⟩
      obtain rfl : k = hn := by omega
      have j1 : ¬ (k : Int) < (k : Int) := by omega
      go_wp2_with fail
      go_ret2
      have hd : doneL ts k zeroTV = ts := doneL_full Htl.out
      rw [hd] at hv50
      exact ⟨A2, some ⟨L, 0, none⟩, c2, k, rfl, (by unfold slotsN; rw [HHl.out]; exact hS50.mono off_base), ⟨by unfold toldsN; rw [toldsTo_len, HHl.out], Nat.le_refl _, ⟨ts, hv50.row, by unfold toldsN; rw [HHl.out]; exact TsIs.mono hA50 off_base⟩⟩, hT50⟩
theorem busSlot_is : BusSlot := ⟨fun h hok h1 hm hH hHl hwm hP Ms hMs T hT => slot_c h hok h1 hm hH hHl hwm hP Ms hMs T hT⟩
theorem busSlots_is : BusSlots := ⟨fun h hok h1 hm hh hhm hw hP => slots_c h hok h1 hm hh hhm hw hP⟩
end Go.Proofs.YtcifjccojmfpaaaGreat

namespace Go.Proofs.YtcifjccojmfpaaaGreat
open Go.RowKit
theorem head10_is : Head10 := ⟨fun w => head10_of busSlot_is busSlots_is w⟩
end Go.Proofs.YtcifjccojmfpaaaGreat

namespace Go.Proofs.YtcifjccojmfpaaaGreat
open Go.RowKit
set_option linter.unusedVariables false
set_option linter.unusedSimpArgs false
def gotV (Ns : List NC) (H : List Int) (i : Nat) : Bool :=
  (toldN lenZ Ns H).ok && (!alongN Ns i && (decide ((nd Ns i).k.s ≠ 3) && (!inH H i && anyV (nd Ns i).l (toldN lenZ Ns H).f.x (toldN lenZ Ns H).f.i)))
theorem told_some {Ns : List NC} (H : List Int) (h : 0 ≤ winN Ns) : toldN lenZ Ns H = ⟨winN Ns, winF Ns, okS Ns H, lenZ (winF Ns) + (if okS Ns H then 3 else 23)⟩ := by unfold toldN; rw [if_neg (by omega)]
end Go.Proofs.YtcifjccojmfpaaaGreat

namespace Go.Proofs.YtcifjccojmfpaaaGreat
open Go.RowKit
set_option linter.unusedVariables false
def mkC (t r : Int) : CV := ⟨t, r, if 127 < t ∨ 127 < r then 2 else 1, 0⟩
def offC (q : Int) : CV := ⟨256, 0, 3, q⟩
theorem mk_s (t r : Int) : (mkC t r).s = 1 ∨ (mkC t r).s = 2 := by
  unfold mkC; dsimp only; split <;> simp
theorem mk_s3 (t r : Int) : (mkC t r).s ≠ 3 := by
  rcases mk_s t r with h | h <;> rw [h] <;> decide
theorem settle_mk {t r s : Int} (h : t ≤ 255) : settleV ⟨t, r, s, 0⟩ = mkC t r := by
  unfold settleV mkC
  dsimp only
  rw [if_neg (by omega)]
  by_cases h1 : 127 < t ∨ 127 < r
  · rw [if_pos h1, if_pos h1]
  · rw [if_neg h1, if_neg h1]
theorem step_mk1 {t r : Int} (h : t ≤ 255) : stepV (mkC t r) 1 = mkC (max (t - 1) 0) r := by
  unfold stepV
  rw [if_neg (mk_s3 t r)]
  exact settle_mk (t := max (t - 1) 0) (r := r) (s := (mkC t r).s) (by omega)
theorem step_mk2 {t r : Int} (h : t ≤ 255) : stepV (mkC t r) 2 = mkC t (if 127 < r then 127 else max (r - 1) 0) := by
  unfold stepV
  rw [if_neg (mk_s3 t r)]
  exact settle_mk (s := (mkC t r).s) h
theorem step_mk3 {t r : Int} (h : t ≤ 247) : stepV (mkC t r) 3 = mkC (t + 8) r := by
  unfold stepV
  rw [if_neg (mk_s3 t r)]
  exact settle_mk (t := t + 8) (r := r) (s := (mkC t r).s) (by omega)
theorem step_mk3o {t r : Int} (h : 247 < t) : stepV (mkC t r) 3 = offC 0 := by
  unfold stepV
  rw [if_neg (mk_s3 t r)]
  show settleV ⟨t + 8, r, _, 0⟩ = _
  unfold settleV
  dsimp only
  rw [if_pos (by omega)]
  rfl
theorem step_mk4 {t r : Int} (h : t ≤ 255) : stepV (mkC t r) 4 = mkC t (min (r + 1) 255) := by
  unfold stepV
  rw [if_neg (mk_s3 t r)]
  exact settle_mk (s := (mkC t r).s) h
theorem steps_rep (c : CV) (n : Nat) (k : Int) : stepsV c (List.replicate (n + 1) k) = stepV (stepsV c (List.replicate n k)) k := by
  rw [List.replicate_succ', stepsV_snoc]
end Go.Proofs.YtcifjccojmfpaaaGreat

namespace Go.Proofs.YtcifjccojmfpaaaGreat
open Go.RowKit
set_option linter.unusedVariables false
set_option linter.unusedSimpArgs false
theorem nd_ext {a b : List NC} (hl : a.length = b.length) (h : ∀ i, i < a.length → nd a i = nd b i) : a = b := by
  apply List.ext_getElem hl
  intro i h1 h2
  have := h i h1
  have e1 := nd_get h1
  have e2 := nd_get h2
  rw [List.getElem?_eq_getElem h1] at e1
  rw [List.getElem?_eq_getElem h2] at e2
  rw [Option.some.inj e1, Option.some.inj e2, this]
theorem ackTo_iff {Ns : List NC} : ∀ {k : Nat}, ackTo Ns k = true ↔ ∃ i, i < k ∧ ackAt Ns i = true
  | 0 => by simp [ackTo]
  | k + 1 => by
    rw [ackTo, Bool.or_eq_true, ackTo_iff]
    constructor
    · rintro (⟨i, h1, h2⟩ | h)
      · exact ⟨i, by omega, h2⟩
      · exact ⟨k, by omega, h⟩
    · rintro ⟨i, h1, h2⟩
      by_cases e : i = k
      · subst e; exact .inr h2
      · exact .inl ⟨i, by omega, h2⟩
theorem has_one {F : FC} {l : List FL} {k : CV} {g : List FC} (h : k.s ≠ 3) : hasN ⟨[F], l, k, g⟩ = true := by simp [hasN, h]
theorem next_one {F : FC} {l : List FL} {k : CV} {g : List FC} (h : k.s ≠ 3) : nextF ⟨[F], l, k, g⟩ = F := by
  unfold nextF
  rw [if_pos (has_one h), show atN ⟨[F], l, k, g⟩ = 0 from leastTo_first [F]]
  rfl
structure Sole (Ns : List NC) (a : Nat) : Prop where
  lt : a < Ns.length
  has : hasN (nd Ns a) = true
  no : ∀ j, j < Ns.length → j ≠ a → hasN (nd Ns j) = false
theorem Sole.win {Ns : List NC} {a : Nat} (h : Sole Ns a) : winN Ns = a ∧ winF Ns = nextF (nd Ns a) := by
  rcases winN_cases Ns with ⟨h1, h2⟩ | ⟨b, hb, h1, h2, h3, h4⟩
  · have := h2 a h.lt; rw [h.has] at this; cases this
  · have : b = a := by
      by_cases e : b = a
      · exact e
      · rw [h.no b hb e] at h2; cases h2
    subst this
    exact ⟨h1, h3⟩
theorem Sole.along {Ns : List NC} {a : Nat} (h : Sole Ns a) {i : Nat} (hi : i < Ns.length) : alongN Ns i = decide (i = a) := by
  unfold alongN
  rw [h.win.2, h.win.1, decide_eq_true (by omega : (0 : Int) ≤ (a : Int)), Bool.true_and]
  by_cases e : i = a
  · subst e
    rw [h.has, lessC_irr, decide_eq_true rfl]; rfl
  · rw [h.no i hi e, decide_eq_false e]; rfl
theorem win_none {Ns : List NC} (h : ∀ j, j < Ns.length → hasN (nd Ns j) = false) : winN Ns = -1 := by
  rcases winN_cases Ns with ⟨h1, _⟩ | ⟨b, hb, _, h2, _⟩
  · exact h1
  · rw [h b hb] at h2; cases h2
def aloneV (j : Nat) : CV := mkC ((8 * min j 16 : Nat) : Int) 0
def aloneN (F : FC) (j : Nat) : List NC := [⟨[F], [], aloneV j, []⟩]
theorem aloneV_s (j : Nat) : (aloneV j).s = if 16 ≤ j then 2 else 1 := by
  unfold aloneV mkC
  dsimp only
  by_cases h : 16 ≤ j
  · rw [if_pos h, if_pos (by left; omega)]
  · rw [if_neg h, if_neg (by omega)]
theorem aloneV_s3 (j : Nat) : (aloneV j).s ≠ 3 := mk_s3 _ _
theorem alone_sole (F : FC) (j : Nat) : Sole (aloneN F j) 0 := ⟨by simp [aloneN], has_one (aloneV_s3 j), fun i hi h0 => by simp [aloneN] at hi; omega⟩
theorem alone_hit (F : FC) (j : Nat) : hitN (aloneN F j) [] = false := by
  have h := alone_sole F j
  show (false || hitAt (aloneN F j) [] 0) = false
  unfold hitAt
  rw [h.along h.lt, if_pos (decide_eq_true rfl), h.win.2]
  simp [sameF, inH]
theorem alone_ack (F : FC) (j : Nat) : ackN (aloneN F j) = false := by
  have h := alone_sole F j
  show (false || ackAt (aloneN F j) 0) = false
  unfold ackAt
  rw [h.along h.lt]; simp
theorem alone_ok (F : FC) (j : Nat) : okS (aloneN F j) [] = false := by unfold okS; rw [alone_ack, Bool.and_false]
theorem alone_step (j : Nat) : (if (aloneV j).s = 2 then aloneV j else stepV (aloneV j) 3) = aloneV (j + 1) := by
  rw [aloneV_s]
  by_cases h : 16 ≤ j
  · rw [if_pos h, if_pos rfl]
    unfold aloneV
    rw [show min j 16 = 16 by omega, show min (j + 1) 16 = 16 by omega]
  · rw [if_neg h, if_neg (by decide)]
    unfold aloneV
    rw [step_mk3 (by omega)]
    congr 1
    omega
theorem alone_slot (F : FC) (j : Nat) : slotN (aloneN F j) [] = aloneN F (j + 1) := by
  have h := alone_sole F j
  show [] ++ [if winN (aloneN F j) < 0 then _ else afterN (aloneN F j) [] 0] = _
  rw [if_neg (by rw [h.win.1]; decide)]
  unfold afterN
  rw [h.along h.lt, if_pos (decide_eq_true rfl), alone_ok, alone_hit, Bool.or_false, Bool.false_or]
  have hs := alone_step j
  show [if decide ((aloneV j).s ≠ 2) = true then sentN ⟨[F], [], aloneV j, []⟩ false else ⟨[F], [], aloneV j, []⟩] = [⟨[F], [], aloneV (j + 1), []⟩]
  by_cases e : (aloneV j).s = 2
  · rw [if_pos e] at hs
    rw [if_neg (by simp [e]), ← hs]
  · rw [if_neg e] at hs
    rw [if_pos (by simp [e])]
    unfold sentN
    rw [if_pos (has_one (aloneV_s3 j)), if_neg (by decide)]
    show [(⟨[F], [], stepV (aloneV j) 3, []⟩ : NC)] = _
    rw [hs]
theorem alone_told (F : FC) (j : Nat) : toldN lenZ (aloneN F j) [] = ⟨0, F, false, lenZ F + 23⟩ := by
  have h := alone_sole F j
  rw [told_some [] (by rw [h.win.1]; decide), h.win.1, h.win.2, alone_ok]
  rw [show nextF (nd (aloneN F j) 0) = F from next_one (aloneV_s3 j)]
  rfl
theorem getD_rep {n : Nat} (j : Nat) : (List.replicate n ([] : List Int)).getD j [] = [] := by
  simp [List.getD, List.getElem?_replicate]
  split <;> rfl
theorem alone_slots (F : FC) (n : Nat) : ∀ j, slotsTo (aloneN F 0) (List.replicate n []) j = aloneN F j
  | 0 => rfl
  | j + 1 => by rw [slotsTo, alone_slots F n j, getD_rep, alone_slot]
def brokV (j : Nat) : CV := if j < 32 then mkC ((8 * j : Nat) : Int) 0 else offC 0
def brokAt (a : Nat) (F : FC) (j i : Nat) : NC := if i = a then ⟨[F], [], brokV j, []⟩ else ⟨[], [], mkC 0 (j : Int), []⟩
def brokN (n a : Nat) (F : FC) (j : Nat) : List NC := (List.range n).map (brokAt a F j)
theorem brok_len (n a : Nat) (F : FC) (j : Nat) : (brokN n a F j).length = n := by simp [brokN]
theorem brok_at {n i : Nat} (a : Nat) (F : FC) (j : Nat) (h : i < n) : nd (brokN n a F j) i = brokAt a F j i := by simp [nd, brokN, List.getD, h]
theorem brok_no {a i : Nat} (F : FC) (j : Nat) (h : i ≠ a) : hasN (brokAt a F j i) = false := by unfold brokAt; rw [if_neg h]; simp [hasN]
theorem brok_s3 {j : Nat} (h : j < 32) : (brokV j).s ≠ 3 := by unfold brokV; rw [if_pos h]; exact mk_s3 _ _
theorem brok_sole {n a : Nat} (F : FC) {j : Nat} (ha : a < n) (hj : j < 32) : Sole (brokN n a F j) a := by
  refine ⟨by rw [brok_len]; exact ha, ?_, fun i hi h => ?_⟩
  · rw [brok_at a F j ha]; unfold brokAt; rw [if_pos rfl]; exact has_one (brok_s3 hj)
  · rw [brok_len] at hi; rw [brok_at a F j hi]; exact brok_no F j h
theorem brok_hit {n a : Nat} (F : FC) {j : Nat} (ha : a < n) (hj : j < 32) : hitN (brokN n a F j) [(a : Int)] = true := by
  have h := brok_sole F ha hj
  refine hitTo_iff.2 ⟨a, h.lt, ?_⟩
  unfold hitAt
  rw [h.along h.lt, if_pos (decide_eq_true rfl)]
  simp [inH]
theorem brok_slot {n a : Nat} (F : FC) {j : Nat} (ha : a < n) (hj : j < 32) : slotN (brokN n a F j) [(a : Int)] = brokN n a F (j + 1) := by
  have h := brok_sole F ha hj
  have hok : okS (brokN n a F j) [(a : Int)] = false := by unfold okS; rw [brok_hit F ha hj]; rfl
  apply nd_ext
  · rw [slotN_len, brok_len, brok_len]
  · intro i hi
    rw [slotN_len] at hi
    rw [slotN_at _ hi, if_neg (by rw [h.win.1]; omega)]
    have hin : i < n := by rw [brok_len] at hi; exact hi
    rw [brok_at a F (j + 1) hin]
    unfold afterN
    rw [h.along hi, hok, brok_hit F ha hj, brok_at a F j hin]
    by_cases e : i = a
    · subst e
      rw [if_pos (decide_eq_true rfl), if_pos (by simp)]
      unfold brokAt
      rw [if_pos rfl, if_pos rfl]
      unfold sentN
      rw [if_pos (has_one (brok_s3 hj)), if_neg (by decide)]
      have : stepV (brokV j) 3 = brokV (j + 1) := by
        unfold brokV
        rw [if_pos hj]
        by_cases e : j < 31
        · rw [if_pos (by omega), step_mk3 (by omega)]
          show mkC _ _ = mkC _ _
          rw [show ((8 * j : Nat) : Int) + 8 = ((8 * (j + 1) : Nat) : Int) by omega]
        · rw [if_neg (by omega), step_mk3o (by omega)]
      show (⟨[F], [], stepV (brokV j) 3, []⟩ : NC) = _
      rw [this]
    · rw [if_neg (by simp [e])]
      unfold brokAt
      rw [if_neg e, if_neg e]
      unfold heardN
      rw [if_neg (mk_s3 _ _)]
      have hin2 : inH [(a : Int)] i = false := by unfold inH; rw [decide_eq_false]; simp; omega
      rw [hin2]
      simp only [Bool.false_and, Bool.and_false, Bool.false_eq_true, if_false]
      show (⟨[], [], stepV (mkC 0 (j : Int)) 4, []⟩ : NC) = _
      rw [step_mk4 (by omega), show min ((j : Int) + 1) 255 = ((j + 1 : Nat) : Int) by omega]
theorem getD_repA {n a j : Nat} (h : j < n) : (List.replicate n [(a : Int)]).getD j [] = [(a : Int)] := by
  simp [List.getD, List.getElem?_replicate, h]
structure Apt (Ns : List NC) : Prop where
  ok : OkNs Ns
  len : 2 ≤ Ns.length
  k : ∀ i, i < Ns.length → (nd Ns i).k = newV
  id : ∀ i, i < Ns.length → ∀ F ∈ (nd Ns i).q, F.i % 8 = i
def manyQ (Ns : List NC) : Nat := (Ns.map fun N => N.q.length).sum
theorem rank_id {F G : FC} (hF : okC F) (hG : okC G) (h : rankC F = rankC G) : F.i = G.i := by
  obtain ⟨a, ha, ha'⟩ := hF
  obtain ⟨b, hb, hb'⟩ := hG
  unfold rankC at h
  rw [ha, hb] at h ⊢
  simp only [Int.toNat_natCast] at h
  have := (rankV_eq ha' hb').1 h
  omega
theorem along_one {Ns : List NC} (h : Apt Ns) {a : Nat} (ha : a < Ns.length) (hw : winN Ns = a) (hf : winF Ns = nextF (nd Ns a)) (hh : hasN (nd Ns a) = true) {i : Nat} (hi : i < Ns.length) : alongN Ns i = decide (i = a) := by
  by_cases hs : hasN (nd Ns i) = true
  · rw [along_rank (by omega) hs, hf]
    by_cases e : i = a
    · subst e; rw [decide_eq_true rfl, decide_eq_true rfl]
    · rw [decide_eq_false e]
      apply decide_eq_false
      intro hr
      have h1 := rank_id (okC_of (next_right (h.ok.at_ hi) hs)) (okC_of (next_right (h.ok.at_ ha) hh)) hr
      have h2 := h.id i hi _ (List.mem_of_getElem? (nextF_mem hs).2)
      have h3 := h.id a ha _ (List.mem_of_getElem? (nextF_mem hh).2)
      omega
  · have hs' : hasN (nd Ns i) = false := by simpa using hs
    unfold alongN
    rw [hs']
    have : i ≠ a := fun e => by subst e; rw [hh] at hs'; cases hs'
    rw [decide_eq_false this]; simp
theorem apt_ok {Ns : List NC} (h : Apt Ns) {a : Nat} (ha : a < Ns.length) (hw : winN Ns = a) (hf : winF Ns = nextF (nd Ns a)) (hh : hasN (nd Ns a) = true) : okS Ns [] = true := by
  have hit : hitN Ns [] = false := by
    cases e : hitN Ns [] with
    | false => rfl
    | true =>
      obtain ⟨i, hi, h1⟩ := hitTo_iff.1 e
      unfold hitAt at h1
      rw [along_one h ha hw hf hh hi] at h1
      by_cases e2 : i = a
      · subst e2
        rw [if_pos (decide_eq_true rfl), hf] at h1
        simp [sameF, inH] at h1
      · rw [if_neg (by simp [e2])] at h1
        simp [inH] at h1
  have ack : ackN Ns = true := by
    have hl := h.len
    obtain ⟨i, hi, e⟩ : ∃ i, i < Ns.length ∧ i ≠ a := by
      by_cases e : a = 0
      · exact ⟨1, by omega, by omega⟩
      · exact ⟨0, by omega, by omega⟩
    refine ackTo_iff.2 ⟨i, hi, ?_⟩
    unfold ackAt
    rw [along_one h ha hw hf hh hi, decide_eq_false e, h.k i hi]
    decide
  unfold okS
  rw [hit, ack]; rfl
theorem step_new1 : stepV newV 1 = newV := by decide
theorem step_new2 : stepV newV 2 = newV := by decide
theorem apt_at {Ns : List NC} (h : Apt Ns) {a : Nat} (ha : a < Ns.length) (hw : winN Ns = a) (hf : winF Ns = nextF (nd Ns a)) (hh : hasN (nd Ns a) = true) {i : Nat} (hi : i < Ns.length) :
    (nd (slotN Ns []) i).k = newV ∧ (nd (slotN Ns []) i).q = if i = a then (nd Ns a).q.eraseIdx (atN (nd Ns a)) else (nd Ns i).q := by
  rw [slotN_at _ hi, if_neg (by omega)]
  unfold afterN
  rw [along_one h ha hw hf hh hi, apt_ok h ha hw hf hh]
  by_cases e : i = a
  · subst e
    rw [if_pos (decide_eq_true rfl), if_pos (by simp), if_pos rfl]
    unfold sentN
    rw [if_pos hh, if_pos rfl, h.k i hi]
    exact ⟨step_new1, rfl⟩
  · rw [if_neg (by simp [e]), if_neg e]
    unfold heardN
    rw [if_neg (by rw [h.k i hi]; decide), if_pos (by simp [inH]), h.k i hi]
    exact ⟨step_new2, rfl⟩
theorem apt_slot {Ns : List NC} (h : Apt Ns) (hw0 : 0 ≤ winN Ns) : Apt (slotN Ns []) := by
  rcases winN_cases Ns with ⟨h1, _⟩ | ⟨a, ha, hw, hh, hf, _⟩
  · omega
  refine ⟨ok_slot h.ok _, by rw [slotN_len]; exact h.len, fun i hi => ?_, fun i hi F hF => ?_⟩
  · rw [slotN_len] at hi; exact (apt_at h ha hw hf hh hi).1
  · rw [slotN_len] at hi
    rw [(apt_at h ha hw hf hh hi).2] at hF
    split at hF
    · rename_i e; subst e; exact h.id i hi F (List.mem_of_mem_eraseIdx hF)
    · exact h.id i hi F hF
theorem sum_at {A B : List Nat} (hl : A.length = B.length) {a : Nat} (ha : a < A.length) (h1 : A.getD a 0 = B.getD a 0 + 1) (h2 : ∀ i, i < A.length → i ≠ a → A.getD i 0 = B.getD i 0) : A.sum = B.sum + 1 := by
  induction A generalizing B a with
  | nil => simp at ha
  | cons x A ih =>
    cases B with
    | nil => simp at hl
    | cons y B =>
      simp only [List.length_cons, Nat.add_right_cancel_iff] at hl
      cases a with
      | zero =>
        simp only [List.getD_cons_zero] at h1
        have : A = B := by
          apply List.ext_getElem hl
          intro i g1 g2
          have := h2 (i + 1) (by simp; omega) (by omega)
          simpa [List.getD, List.getElem?_eq_getElem g1, List.getElem?_eq_getElem g2] using this
        subst this
        simp only [List.sum_cons]; omega
      | succ a =>
        simp only [List.getD_cons_succ] at h1
        have e := h2 0 (by simp) (by omega)
        simp only [List.getD_cons_zero] at e
        have := ih hl (by simpa using ha) h1 (fun i hi hne => by
          have := h2 (i + 1) (by simp; omega) (by omega)
          simpa using this)
        simp only [List.sum_cons]; omega
theorem many_at {Ns : List NC} {i : Nat} (h : i < Ns.length) : (Ns.map fun N => N.q.length).getD i 0 = (nd Ns i).q.length := by
  simp [List.getD, nd, List.getElem?_eq_getElem h]
theorem apt_many {Ns : List NC} (h : Apt Ns) (hw0 : 0 ≤ winN Ns) : manyQ Ns = manyQ (slotN Ns []) + 1 := by
  rcases winN_cases Ns with ⟨h1, _⟩ | ⟨a, ha, hw, hh, hf, _⟩
  · omega
  have hm := (nextF_mem hh).1
  refine sum_at (a := a) (by simp [slotN_len]) (by simpa using ha) ?_ (fun i hi e => ?_)
  · rw [many_at ha, many_at (by rw [slotN_len]; exact ha), (apt_at h ha hw hf hh ha).2, if_pos rfl, List.length_eraseIdx_of_lt hm]
    omega
  · have hi' : i < Ns.length := by simpa using hi
    rw [many_at hi', many_at (by rw [slotN_len]; exact hi'), (apt_at h ha hw hf hh hi').2, if_neg e]
theorem many_zero {Ns : List NC} (h : manyQ Ns = 0) {i : Nat} (hi : i < Ns.length) : (nd Ns i).q = [] := by
  apply List.eq_nil_of_length_eq_zero
  rw [← many_at hi]
  have : ∀ (l : List Nat), l.sum = 0 → ∀ x ∈ l, x = 0 := by
    intro l; induction l with
    | nil => intro _ x hx; cases hx
    | cons y l ih => intro hs x hx; simp only [List.sum_cons] at hs; rcases List.mem_cons.1 hx with rfl | hx; omega; exact ih (by omega) x hx
  refine this _ h _ ?_
  have hl : i < (Ns.map fun N => N.q.length).length := by simpa using hi
  rw [List.getD, List.getElem?_eq_getElem hl]
  exact List.getElem_mem hl
theorem many_win {Ns : List NC} (h : Apt Ns) : (winN Ns < 0 ↔ manyQ Ns = 0) := by
  constructor
  · intro hw
    rcases winN_cases Ns with ⟨_, h2⟩ | ⟨a, ha, h1, _⟩
    · have hq : ∀ N ∈ Ns, N.q.length = 0 := by
        intro N hN
        obtain ⟨i, hi, e⟩ := List.getElem_of_mem hN
        have e2 : nd Ns i = N := by simp [nd, List.getD, List.getElem?_eq_getElem hi, e]
        have h3 := h2 i hi
        unfold hasN at h3
        rw [h.k i hi, e2] at h3
        simp [newV] at h3
        rw [h3]; rfl
      unfold manyQ
      have : ∀ (l : List Nat), (∀ x ∈ l, x = 0) → l.sum = 0 := by
        intro l; induction l with
        | nil => intro _; rfl
        | cons y l ih => intro hs; rw [List.sum_cons, hs y (List.mem_cons_self ..), ih fun x hx => hs x (List.mem_cons_of_mem _ hx)]
      exact this _ (by simpa using hq)
    · omega
  · intro hm
    rw [win_none fun j hj => by unfold hasN; rw [many_zero hm hj]; simp]
    decide
structure AptRun (Ns : List NC) (M k : Nat) : Prop where
  apt : Apt (slotsTo Ns (List.replicate M []) k)
  many : manyQ (slotsTo Ns (List.replicate M []) k) + k = manyQ Ns
def toldK (Ns : List NC) (M k : Nat) : TC := toldN lenZ (slotsTo Ns (List.replicate M []) k) []
end Go.Proofs.YtcifjccojmfpaaaGreat

namespace Go.Proofs.YtcifjccojmfpaaaGreat
open Go.RowKit
set_option linter.unusedVariables false
set_option linter.unusedSimpArgs false
abbrev zeroHV : HV := ⟨none, 0, 0⟩
section
variable {V : Type} {cs : V → List Value} {sz : Nat} {t : TypeId}
end
section
variable {V C : Type} {R : V → C → Prop}
end
abbrev freshNV : NV := ⟨none, 0, 0, none, 0, 0, newV, none, 0, 0⟩
abbrev freshN : NC := ⟨[], [], newV, []⟩
end Go.Proofs.YtcifjccojmfpaaaGreat

namespace Go.Proofs.YtcifjccojmfpaaaGreat
open Go.RowKit
set_option linter.unusedVariables false
set_option linter.unusedSimpArgs false
def reC (i : Nat) (F : FC) : FC := { F with i := ((F.i.toNat / 8 * 8 + i : Nat) : Int) }
def apAt (Ns : List NC) (i : Nat) : NC := { nd Ns i with q := (nd Ns i).q.map (reC i) }
def apartTo (Ns : List NC) : Nat → List NC
  | 0 => []
  | k + 1 => apartTo Ns k ++ [apAt Ns k]
theorem apartTo_len (Ns : List NC) (k : Nat) : (apartTo Ns k).length = k := by
  induction k with
  | zero => rfl
  | succ k ih => simp [apartTo, ih]
def frTo (Ns : List NC) : Nat → List NC
  | 0 => Ns
  | k + 1 => (frTo Ns k).set k { nd (frTo Ns k) k with k := newV }
theorem frTo_len (Ns : List NC) (k : Nat) : (frTo Ns k).length = Ns.length := by
  induction k with
  | zero => rfl
  | succ k ih => rw [frTo, List.length_set, ih]
theorem nd_set {Ns : List NC} {k : Nat} {N : NC} (i : Nat) (hi : i < Ns.length) : nd (Ns.set k N) i = if i = k then N else nd Ns i := by
  simp only [nd, List.getD, List.getElem?_set]
  by_cases e : k = i
  · subst e; rw [if_pos rfl, if_pos rfl, if_pos hi]; rfl
  · rw [if_neg e, if_neg (fun h => e h.symm)]
def sumQ (Ns : List NC) : Nat → Nat
  | 0 => 0
  | k + 1 => sumQ Ns k + (nd Ns k).q.length
def ordN (Ms : List NC) : List NC := apartTo (frTo Ms Ms.length) Ms.length
end Go.Proofs.YtcifjccojmfpaaaGreat

