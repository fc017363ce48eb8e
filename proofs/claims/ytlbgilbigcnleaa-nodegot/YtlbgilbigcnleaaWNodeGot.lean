/-
  NodeGot: the walk.
-/
import Derived.Test.YtlbgilbigcnleaaNdG
import Derived.Test.YtlbgilbigcnleaaNdV
import Derived.Test.YtlbgilbigcnleaaNeO
import Derived.Test.YtlbgilbigcnleaaNeH
namespace Go.Proofs.Ytlbgilbigcnleaa
open Go.RowKit
set_option linter.unusedVariables false
set_option linter.unusedSimpArgs false

theorem fat_inj {w : World} {a : Addr} {f g : FV} (h : FAt w a f) (h' : FAt w a g) : f = g := by
  obtain ⟨a0, a1, a2, a3, a4⟩ := h
  obtain ⟨b0, b1, b2, b3, b4⟩ := h'
  rw [b0] at a0; rw [b1] at a1; rw [b2] at a2; rw [b3] at a3; rw [b4] at a4
  cases f; cases g
  simp_all

theorem heard_new (l : List FL) (G : List FC) (F : FC) : heardN ⟨[], l, newV, G⟩ F true false = ⟨[], l, newV, gotN ⟨[], l, newV, G⟩ F⟩ := by
  unfold heardN
  rw [if_neg (by show ¬ newV.s = 3; decide), if_pos rfl]
  rw [show stepV newV 2 = newV by decide]

set_option maxRecDepth 100000 in
set_option maxHeartbeats 4000000 in
theorem nodeGot_any (ta : Option Addr) (tn tc : Nat) (ls : List FL) (la : Option Addr) (ln lc : Nat) (Ls : List FC) (w : World) (ht : LSl w (fun _ => True) ta tn tc ls) (hl : FSl w (fun _ => True) la ln lc Ls) :
    Calls Try.prog 7 #[.slice ta tn tc, .slice la ln lc] w fun e w' => e = .returned (.bool true) ∧ Below w.heap.size w w' := by
  have q1 := eqIn_c
  have q2 := eq_c
  have hT0 : Below w.heap.size w w := Below.refl _ _
  go_enter Try.func7, Try.ntmps7
  go_wp2_with fail
  refine (head_c w).mono ?_
  rintro e w1 ⟨rfl, hB1⟩
  have hT1 := below_then hT0 hB1
  clear hT0   hB1
  by_cases h1 : ln ≤ 100
  rotate_left
  · skip
    have i1 : (100 : Int) < (ln : Int) := by omega
    go_wp2_with fail
    go_ret
    exact ⟨rfl, hT1⟩
  have i1 : ¬ (100 : Int) < (ln : Int) := by omega
  by_cases h2 : tn ≤ 8
  rotate_left
  · skip
    have i2 : (8 : Int) < (tn : Int) := by omega
    go_wp2_with fail
    go_ret
    exact ⟨rfl, hT1⟩
  have i2 : ¬ (8 : Int) < (tn : Int) := by omega
  go_wp2_with fail
  by_cases hq : rightLk ls = true
  rotate_left
  · skip
    refine (new_c ((ht.mono (Q := Out []) (fun _ _ _ _ h => by cases h)).to hT1) (by omega) (out_up (fun _ h => by cases h)) 1 (by unfold newE; rw [if_neg hq]) _ rfl).mono ?_
    rintro e w2 ⟨n1, rfl, hn1_, hB2⟩
    have hT2 := below_then hT1 hB2
    clear hT1   hB2
    have hn12 := hn1_
    clear hn1_
    go_wp2_with fail
    go_ret
    exact ⟨rfl, below_then hT2 (below_alloc1 _ _)⟩
  refine (new_c ((ht.mono (Q := Out []) (fun _ _ _ _ h => by cases h)).to hT1) (by omega) (out_up (fun _ h => by cases h)) 0 (by unfold newE; rw [if_pos hq]) ⟨[], ls, newV, []⟩ (by unfold newN; rw [if_pos hq])).mono ?_
  rintro e w2 ⟨n1, rfl, hn1_, hB2⟩
  have hT2 := below_then hT1 hB2
  clear hT1   hB2
  have hn12 := hn1_
  clear hn1_
  go_wp2_with fail
  have Hok0 := Lib.hid (ok_new_n hq)
  clear hq
  replace hn12 := hn12.mono (out_cons (L := []) (X := w2.heap.size) (Nat.le_refl _))
  have hgen : w.heap.size ≤ w2.heap.size := hT2.size
  obtain ⟨w3, hw3⟩ : ∃ w3, w2.alloc (.cells #[.slice n1.qa n1.qm n1.qc, .slice n1.la n1.lm n1.lc, .int .i64 n1.k.t, .int .i64 n1.k.r, .int .i64 n1.k.s, .int .i64 n1.k.q, .slice n1.ga n1.gm n1.gc] 27) = w3 := ⟨_, rfl⟩
  have hB3 : Below w2.heap.size w2 w3 := by rw [← hw3]; exact below_alloc1 _ _
  have hn3 : w3.heap[w2.heap.size]? = some (.cells #[.slice n1.qa n1.qm n1.qc, .slice n1.la n1.lm n1.lc, .int .i64 n1.k.t, .int .i64 n1.k.r, .int .i64 n1.k.s, .int .i64 n1.k.q, .slice n1.ga n1.gm n1.gc] 27) := by rw [← hw3]; exact World.alloc_heap_new _ _
  rw [hw3]
  clear hw3
  have hT3 := below_then hT2 hB3
  have hn13 := NIs.to hn12 hB3
  clear hT2  hn12 hB3
  go_loopw [8, 9] (fun v i wr => ∃ (k n c : Nat) (m : NV) (A : Option Addr) (fs : List FV) (Gs : List FC), k ≤ ln ∧ i = .int .i64 k ∧ v = .slice A n c ∧ FOwn wr (w2.heap.size + 1) A n c fs ∧ Gs.length = n ∧ FsIs w (fun _ => True) fs Gs ∧ OkN ⟨[], ls, newV, Gs⟩ ∧ wr.heap[w2.heap.size]? = some (.cells #[.slice m.qa m.qm m.qc, .slice m.la m.lm m.lc, .int .i64 m.k.t, .int .i64 m.k.r, .int .i64 m.k.s, .int .i64 m.k.q, .slice m.ga m.gm m.gc] 27) ∧ NIs wr (Out (w2.heap.size :: ownL A)) m ⟨[], ls, newV, Gs⟩ ∧ Below w.heap.size w wr) (fun _ i _ => ln - (intOf i).toNat)
  case atStart => exact ⟨0, 0, 0, n1, none, [], [], Nat.zero_le _, rfl, rfl, World.ownsRow_nil _ _ _ _, rfl, FsIs.nil, Hok0.out, hn3, hn13, hT3⟩
  case round =>
    clear hn3 hn13 hT3
    obtain ⟨k, n, c, m, A, fs, Gs, hk, rfl, rfl, hO50, hGl, hFs, hok, hn50, hV50, hT50⟩ := hrel
    have Hok := Lib.hid hok
    have HGl := Lib.hid hGl
    clear hok
    have hn64 : n ≤ 64 := by rw [← hGl]; exact Hok.out.gm
    clear hGl
    by_cases hlt : k < ln
    · skip
      have j1 : (k : Int) < (ln : Int) := by omega
      obtain ⟨ad, f, ea, hAt50, hF50, _⟩ := fsl_getD ((hl.mono (out_low hO50 (Nat.lt_succ_self _) hgen)).to hT50) hlt
      obtain ⟨F, hFF⟩ : ∃ F, Ls.getD k zeroF = F := ⟨_, rfl⟩
      rw [hFF] at hF50
      have HFF := Lib.hid hFF
      clear hFF
      subst ea
      have ht_ := hAt50
      obtain ⟨t0, t1, t2, t3, t4⟩ := ht_
      have hln := (Array.getElem?_eq_some_iff.1 hn50).1
      obtain ⟨nc0, nc1, nc2, nc3, nc4, nc5, nc6⟩ := cells7' hn50
      go_wp2_with fail
      clear t0 t1 t2 t3 t4 hln nc0 nc1 nc2 nc3 nc4 nc5 nc6
      obtain ⟨a, ha⟩ : ∃ q, decide (100 < F.d.length) = q := ⟨_, rfl⟩
      have Ha := Lib.hid ha
      clear ha
      cases a
      rotate_left
      · skip
        refine (great_c hF50 true Ha.out).mono ?_
        rintro e w51 ⟨rfl, hB51⟩
        have hT51 := below_then hT50 hB51
        have hn51 := block_below hB51 hn50
        have hO51 := FOwn9.to hO50 hB51
        have hV51 := NIs.to hV50 hB51
        have hF51 := FIs.to hF50 hB51
        have hAt51 := fat_to hAt50 hB51
        clear hT50 hn50 hO50 hV50 hF50 hAt50 hB51
        have hln := (Array.getElem?_eq_some_iff.1 hn51).1
        obtain ⟨nc0, nc1, nc2, nc3, nc4, nc5, nc6⟩ := cells7' hn51
        go_wp2_with fail
        go_ret
        exact ⟨rfl, hT51⟩
      refine (great_c hF50 false Ha.out).mono ?_
      rintro e w51 ⟨rfl, hB51⟩
      have hT51 := below_then hT50 hB51
      have hn51 := block_below hB51 hn50
      have hO51 := FOwn9.to hO50 hB51
      have hV51 := NIs.to hV50 hB51
      have hF51 := FIs.to hF50 hB51
      have hAt51 := fat_to hAt50 hB51
      clear hT50 hn50 hO50 hV50 hF50 hAt50 hB51
      have ht_ := hAt51
      obtain ⟨t0, t1, t2, t3, t4⟩ := ht_
      have hln := (Array.getElem?_eq_some_iff.1 hn51).1
      obtain ⟨nc0, nc1, nc2, nc3, nc4, nc5, nc6⟩ := cells7' hn51
      go_wp2_with fail
      clear t0 t1 t2 t3 t4 hln nc0 nc1 nc2 nc3 nc4 nc5 nc6
      obtain ⟨b, hb⟩ : ∃ q, rightC F = q := ⟨_, rfl⟩
      have Hb := Lib.hid hb
      clear hb
      cases b
      · skip
        refine (refFrRight_c hF51 false Hb.out).mono ?_
        rintro e w52 ⟨rfl, hB52⟩
        have hT52 := below_then hT51 hB52
        have hn52 := block_below hB52 hn51
        have hO52 := FOwn9.to hO51 hB52
        have hV52 := NIs.to hV51 hB52
        have hF52 := FIs.to hF51 hB52
        have hAt52 := fat_to hAt51 hB52
        clear hT51 hn51 hO51 hV51 hF51 hAt51 hB52
        have hln := (Array.getElem?_eq_some_iff.1 hn52).1
        obtain ⟨nc0, nc1, nc2, nc3, nc4, nc5, nc6⟩ := cells7' hn52
        go_wp2_with fail
        go_ret
        exact ⟨rfl, hT52⟩
      refine (refFrRight_c hF51 true Hb.out).mono ?_
      rintro e w52 ⟨rfl, hB52⟩
      have hT52 := below_then hT51 hB52
      have hn52 := block_below hB52 hn51
      have hO52 := FOwn9.to hO51 hB52
      have hV52 := NIs.to hV51 hB52
      have hF52 := FIs.to hF51 hB52
      have hAt52 := fat_to hAt51 hB52
      clear hT51 hn51 hO51 hV51 hF51 hAt51 hB52
      have ht_ := hAt52
      obtain ⟨t0, t1, t2, t3, t4⟩ := ht_
      have hln := (Array.getElem?_eq_some_iff.1 hn52).1
      obtain ⟨nc0, nc1, nc2, nc3, nc4, nc5, nc6⟩ := cells7' hn52
      go_wp2_with fail
      clear t0 t1 t2 t3 t4 hln nc0 nc1 nc2 nc3 nc4 nc5 nc6
      obtain ⟨G2, hG2⟩ : ∃ q, gotN ⟨[], ls, newV, Gs⟩ F = q := ⟨_, rfl⟩
      have HG2 := Lib.hid hG2
      clear hG2
      have Hh := Lib.hid (show heardN ⟨[], ls, newV, Gs⟩ F true false = ⟨[], ls, newV, G2⟩ by rw [heard_new, HG2.out])
      refine wp_region_till 6 (S := fun W => (W.cell? ⟨w2.heap.size, 0, none⟩ = some (.slice m.qa m.qm m.qc) ∧ W.cell? ⟨w2.heap.size, 1, none⟩ = some (.slice m.la m.lm m.lc) ∧ W.cell? ⟨w2.heap.size, 2, none⟩ = some (.int .i64 m.k.t) ∧ W.cell? ⟨w2.heap.size, 3, none⟩ = some (.int .i64 m.k.r) ∧ W.cell? ⟨w2.heap.size, 4, none⟩ = some (.int .i64 m.k.s) ∧ W.cell? ⟨w2.heap.size, 5, none⟩ = some (.int .i64 m.k.q) ∧ W.cell? ⟨w2.heap.size, 6, none⟩ = some (.slice m.ga m.gm m.gc)) ∧ (W.cell? (ad.add (k * 5)) = some (.bool f.x) ∧ W.cell? ⟨(ad.add (k * 5)).block, (ad.add (k * 5)).off + 1, none⟩ = some (.int .i64 f.i) ∧ W.cell? ⟨(ad.add (k * 5)).block, (ad.add (k * 5)).off + 2, none⟩ = some (.bool f.r) ∧ W.cell? ⟨(ad.add (k * 5)).block, (ad.add (k * 5)).off + 3, none⟩ = some (.int .i64 f.n) ∧ W.cell? ⟨(ad.add (k * 5)).block, (ad.add (k * 5)).off + 4, none⟩ = some (.slice f.a f.m f.c))) (by kernel_rfl) (by exact ⟨cells7' (block_below (below_drew1 _) hn52), fat_to hAt52 (below_drew1 _)⟩) (fun hHeld_ => ?_)
      refine wpTill_take (i := 0) (v := ?vT1_0_0_) 59 rfl rfl (by kernel_rfl) (by kernel_rfl) (by kernel_rfl) (fun _ _ _ h => h) (Or.inl ⟨by kernel_rfl, ?hyT1_0_0_⟩) (by assumption) (by kernel_rfl) ?restT1_0_0_
      case hyT1_0_0_ => (intro W_ hS_; (try dsimp only at hS_); go_simp; (try (with_reducible rfl)))
      try simp only [Act.put, List.setIfInBounds_toArray, List.set_cons_zero, List.set_cons_succ]
      refine wpTill_take (i := 1) (v := ?vT1_1_0_) 60 rfl rfl (by kernel_rfl) (by kernel_rfl) (by kernel_rfl) (fun _ _ _ h => h) (Or.inl ⟨by kernel_rfl, ?hyT1_1_0_⟩) (by assumption) (by kernel_rfl) ?restT1_1_0_
      case hyT1_1_0_ => (intro W_ hS_; (try dsimp only at hS_); go_simp; (try (with_reducible rfl)))
      try simp only [Act.put, List.setIfInBounds_toArray, List.set_cons_zero, List.set_cons_succ]
      refine wpTill_take (i := 2) (v := ?vT1_2_0_) 61 rfl rfl (by kernel_rfl) (by kernel_rfl) (by kernel_rfl) (fun _ _ _ h => h) (Or.inl ⟨by kernel_rfl, ?hyT1_2_0_⟩) (by assumption) (by kernel_rfl) ?restT1_2_0_
      case hyT1_2_0_ => (intro W_ hS_; (try dsimp only at hS_); go_simp; (try (with_reducible rfl)))
      try simp only [Act.put, List.setIfInBounds_toArray, List.set_cons_zero, List.set_cons_succ]
      refine wpTill_take (i := 3) (v := ?vT1_3_0_) 62 rfl rfl (by kernel_rfl) (by kernel_rfl) (by kernel_rfl) (fun _ _ _ h => h) (Or.inl ⟨by kernel_rfl, ?hyT1_3_0_⟩) (by assumption) (by kernel_rfl) ?restT1_3_0_
      case hyT1_3_0_ => (intro W_ hS_; (try dsimp only at hS_); go_simp; (try (with_reducible rfl)))
      try simp only [Act.put, List.setIfInBounds_toArray, List.set_cons_zero, List.set_cons_succ]
      refine wpTill_take (i := 4) (v := ?vT1_4_0_) 63 rfl rfl (by kernel_rfl) (by kernel_rfl) (by kernel_rfl) (fun _ _ _ h => h) (Or.inl ⟨by kernel_rfl, ?hyT1_4_0_⟩) (by assumption) (by kernel_rfl) ?restT1_4_0_
      case hyT1_4_0_ => (intro W_ hS_; (try dsimp only at hS_); go_simp; (try (with_reducible rfl)))
      try simp only [Act.put, List.setIfInBounds_toArray, List.set_cons_zero, List.set_cons_succ]
      refine wpTill_ready (rs := [5]) (by kernel_rfl) (by simp) ?_
      refine (AllTill.cons rfl (fun K_ hK_ => ?_) AllTill.nil)
      go_simp
      refine (heard_c (NIs.to hV52 (below_drew1 _)) (FIs.to hF52 (below_drew1 _)) Hok.out Hb.out (out_ownUp (own_to hO52 (below_drew1 _)) (Array.getElem?_eq_some_iff.1 (block_below (below_drew1 _) hn52)).1) true false ⟨[], ls, newV, G2⟩ Hh.out).mono ?_
      rintro e wr5 ⟨m2, rfl, hV2_, hBr5⟩
      go_wp2_with fail
      refine hK_.out _ _ (fun _ => by exact ⟨cells7' (block_below hBr5 (block_below (below_drew1 _) hn52)), fat_to (fat_to hAt52 (below_drew1 _)) hBr5⟩) (fun hHeld_5_0 => ?_)
      replace hHeld_5_0 := hHeld_5_0 (by decide)
      clear hK_
      try simp only [Act.put, List.setIfInBounds_toArray, List.set_cons_zero, List.set_cons_succ]
      refine wpTill_ready (rs := [6]) (by kernel_rfl) (by simp) ?_
      refine (AllTill.cons rfl (fun K_ hK_ => ?_) AllTill.nil)
      obtain ⟨⟨nc0, nc1, nc2, nc3, nc4, nc5, nc6⟩, nf0, nf1, nf2, nf3, nf4, nf5, nf6⟩ := cells7 (block_below hBr5 (block_below (below_drew1 _) hn52))
      go_simp
      go_wp2_with fail
      clear nc0 nc1 nc2 nc3 nc4 nc5 nc6 nf0 nf1 nf2 nf3 nf4 nf5 nf6
      refine hK_.out _ _ (fun h_ => absurd rfl h_) (fun hHeld_6_1 => ?_)
      clear hK_
      try simp only [Act.put, List.setIfInBounds_toArray, List.set_cons_zero, List.set_cons_succ]
      refine wpTill_done (by kernel_rfl) ?_ _
      skip
      obtain ⟨w53, hw53⟩ : ∃ w53, wr5 = w53 := ⟨_, rfl⟩
      have hB53 : Below w52.heap.size w52 w53 := by rw [← hw53]; exact (below_then (below_drew1 _) hBr5)
      have hV253 := hV2_
      rw [hw53] at hV253
      rw [hw53]
      clear hw53 hV2_ hBr5
      have hT53 := below_then hT52 hB53
      have hn53 := block_below hB53 hn52
      have hO53 := FOwn9.to hO52 hB53
      have hV53 := NIs.to hV52 hB53
      have hF53 := FIs.to hF52 hB53
      have hAt53 := fat_to hAt52 hB53
      clear hT52 hn52 hO52 hV52 hF52 hAt52 hB53
      clear hV53
      have Hok2 := Lib.hid (show OkN ⟨[], ls, newV, G2⟩ by rw [← Hh.out]; exact ok_heard Hok.out Hb.out true false)
      clear hF53
      clear hAt53
      obtain ⟨w54, hw54⟩ : ∃ w_, set7 w53 w2.heap.size (.slice m2.qa m2.qm m2.qc) (.slice m2.la m2.lm m2.lc) (.int .i64 m2.k.t) (.int .i64 m2.k.r) (.int .i64 m2.k.s) (.int .i64 m2.k.q) (.slice m2.ga m2.gm m2.gc) = w_ := ⟨_, rfl⟩
      have hG54 : w53.grownBy w54 (some w2.heap.size) := by rw [← hw54]; exact set7_grown _ _ _ _ _ _ _ _ _
      have hT54 := below_g hT53 hG54 hgen
      have hn54 : w54.heap[w2.heap.size]? = some (.cells #[.slice m2.qa m2.qm m2.qc, .slice m2.la m2.lm m2.lc, .int .i64 m2.k.t, .int .i64 m2.k.r, .int .i64 m2.k.s, .int .i64 m2.k.q, .slice m2.ga m2.gm m2.gc] 27) := by rw [← hw54]; exact set7_obj hn53 _ _ _ _ _ _ _
      have hO54 := FOwn9.grow hO53 hG54 (Nat.lt_succ_self _)
      have hV254 := NIs.grow hV253 hG54 (out_not (by simp))
      have Hsz54 := Lib.hid (show w54.heap.size = w53.heap.size by rw [← hw54]; simp [set7, World.setCell])
      unfold set7 at hw54
      rw [hw54]
      clear hw54 hG54 hT53 hn53 hO53 hV253
      obtain ⟨ad2, f2, ea, hAt54, hF54, _⟩ := fsl_getD ((hl.mono (out_low hO54 (Nat.lt_succ_self _) hgen)).to hT54) hlt
      rw [HFF.out] at hF54
      obtain rfl := Option.some.inj ea
      clear ea
      by_cases hc : n < 64
      rotate_left
      · skip
        have j2 : ¬ (n : Int) < 64 := by omega
        have hG : G2 = Gs := by rw [← HG2.out]; unfold gotN; dsimp only; rw [HGl.out, decide_eq_false hc, Bool.false_and]; rfl
        subst hG
        have ht_ := hAt54
        obtain ⟨t0, t1, t2, t3, t4⟩ := ht_
        have hln := (Array.getElem?_eq_some_iff.1 hn54).1
        obtain ⟨nc0, nc1, nc2, nc3, nc4, nc5, nc6⟩ := cells7' hn54
        go_wp2_with fail
        clear t0 t1 t2 t3 t4 hln nc0 nc1 nc2 nc3 nc4 nc5 nc6
        go_round
        case measure => simp [intOf]; omega
        exact ⟨k + 1, n, c, m2, A, fs, G2, by omega, by go_num, rfl, hO54, HGl.out, hFs, Hok2.out, hn54, hV254, hT54⟩
      have j2 : (n : Int) < 64 := by omega
      have ht_ := hAt54
      obtain ⟨t0, t1, t2, t3, t4⟩ := ht_
      have hln := (Array.getElem?_eq_some_iff.1 hn54).1
      obtain ⟨nc0, nc1, nc2, nc3, nc4, nc5, nc6⟩ := cells7' hn54
      go_wp2_with fail
      clear t0 t1 t2 t3 t4 hln nc0 nc1 nc2 nc3 nc4 nc5 nc6
      obtain ⟨q, hq⟩ : ∃ q, anyV ls F.x F.i = q := ⟨_, rfl⟩
      have Hq := Lib.hid hq
      clear hq
      cases q
      · skip
        refine (refAny_c (ht.to hT54) hF54 (by omega) false Hq.out).mono ?_
        rintro e w55 ⟨rfl, hB55⟩
        have hT55 := below_then hT54 hB55
        have hn55 := block_below hB55 hn54
        have hO55 := FOwn9.to hO54 hB55
        have hV255 := NIs.to hV254 hB55
        have hF55 := FIs.to hF54 hB55
        have hAt55 := fat_to hAt54 hB55
        clear hT54 hn54 hO54 hV254 hF54 hAt54 hB55
        have hG : G2 = Gs := by rw [← HG2.out]; unfold gotN; dsimp only; rw [Hq.out, Bool.and_false]; rfl
        subst hG
        have ht_ := hAt55
        obtain ⟨t0, t1, t2, t3, t4⟩ := ht_
        have hln := (Array.getElem?_eq_some_iff.1 hn55).1
        obtain ⟨nc0, nc1, nc2, nc3, nc4, nc5, nc6⟩ := cells7' hn55
        go_wp2_with fail
        clear t0 t1 t2 t3 t4 hln nc0 nc1 nc2 nc3 nc4 nc5 nc6
        go_round
        case measure => simp [intOf]; omega
        exact ⟨k + 1, n, c, m2, A, fs, G2, by omega, by go_num, rfl, hO55, HGl.out, hFs, Hok2.out, hn55, hV255, hT55⟩
      refine (refAny_c (ht.to hT54) hF54 (by omega) true Hq.out).mono ?_
      rintro e w55 ⟨rfl, hB55⟩
      have hT55 := below_then hT54 hB55
      have hn55 := block_below hB55 hn54
      have hO55 := FOwn9.to hO54 hB55
      have hV255 := NIs.to hV254 hB55
      have hF55 := FIs.to hF54 hB55
      have hAt55 := fat_to hAt54 hB55
      clear hT54 hn54 hO54 hV254 hF54 hAt54 hB55
      have hG : G2 = Gs ++ [F] := by rw [← HG2.out]; unfold gotN; dsimp only; rw [HGl.out, decide_eq_true hc, Hq.out]; rfl
      subst hG
      have hnx := (Array.getElem?_eq_some_iff.1 hn55).1
      have hOx : FOwn (w55.alloc (.cells #[.bool f2.x, .int .i64 f2.i, .bool f2.r, .int .i64 f2.n, .slice f2.a f2.m f2.c] 30)) (w2.heap.size + 1) A n c fs := own_to hO55 (below_alloc1 _ _)
      have hVx : NIs (w55.alloc (.cells #[.bool f2.x, .int .i64 f2.i, .bool f2.r, .int .i64 f2.n, .slice f2.a f2.m f2.c] 30)) (Out (w2.heap.size :: ownL A)) m2 ⟨[], ls, newV, (Gs ++ [F])⟩ := hV255.to (below_alloc1 _ _)
      have hnb : (w55.alloc (.cells #[.bool f2.x, .int .i64 f2.i, .bool f2.r, .int .i64 f2.n, .slice f2.a f2.m f2.c] 30)).heap[w2.heap.size]? = some (.cells #[.slice m2.qa m2.qm m2.qc, .slice m2.la m2.lm m2.lc, .int .i64 m2.k.t, .int .i64 m2.k.r, .int .i64 m2.k.s, .int .i64 m2.k.q, .slice m2.ga m2.gm m2.gc] 27) := block_below (below_alloc1 _ _) hn55
      have hTx := below_then hT55 (below_alloc1 w55 (.cells #[.bool f2.x, .int .i64 f2.i, .bool f2.r, .int .i64 f2.n, .slice f2.a f2.m f2.c] 30))
      have hTe := hT55.size
      obtain ⟨_, f3, ea, hAt3, hF3, _⟩ := fsl_getD hl hlt
      rw [HFF.out] at hF3
      obtain rfl := Option.some.inj ea
      clear ea
      obtain rfl : f3 = f2 := fat_inj (fat_to hAt3 hT55) hAt55
      clear hAt3
      have ht_ := hAt55
      obtain ⟨t0, t1, t2, t3, t4⟩ := ht_
      have hln := (Array.getElem?_eq_some_iff.1 hn55).1
      obtain ⟨nc0, nc1, nc2, nc3, nc4, nc5, nc6⟩ := cells7' hn55
      go_wp2_with (at_builtin; refine wpList_append_frO _ rfl _ _ rfl (w2.heap.size + 1) A n c fs rfl hOx _ 1 _ _ [f3] rfl rfl (FRow.lit1 w55 f3 rfl) (by omega) (by simp; omega) ?_; intro A2 c2 w90 hO90 hc90 hg90 he90 hB90)
      clear t0 t1 t2 t3 t4 hln nc0 nc1 nc2 nc3 nc4 nc5 nc6
      have hV290 := nis_app hVx hg90 he90
      have hn90 : w90.heap[w2.heap.size]? = some (.cells #[.slice m2.qa m2.qm m2.qc, .slice m2.la m2.lm m2.lc, .int .i64 m2.k.t, .int .i64 m2.k.r, .int .i64 m2.k.s, .int .i64 m2.k.q, .slice m2.ga m2.gm m2.gc] 27) := (hB90.block _ (Nat.lt_succ_self _)).trans hnb
      have hT90 : Below w.heap.size w w90 := hTx.trans (hB90.mono (by have := hgen; omega))
      go_round
      case measure => simp [intOf]; omega
      exact ⟨k + 1, (n + 1), c2, m2, A2, (fs ++ [f3]), (Gs ++ [F]), by omega, by go_num, rfl, hO90, (by simp [HGl.out]), (hFs.append (FsIs.one hF3)), Hok2.out, hn90, hV290, hT90⟩
    obtain rfl : k = ln := by omega
    have j1 : ¬ (k : Int) < (k : Int) := by omega
    replace hV50 := nis_out hV50
    have hln := (Array.getElem?_eq_some_iff.1 hn50).1
    obtain ⟨nc0, nc1, nc2, nc3, nc4, nc5, nc6⟩ := cells7' hn50
    go_wp2_with fail
    clear hln nc0 nc1 nc2 nc3 nc4 nc5 nc6
    clear j1 hlt
    go_loopw [10] (fun i wt => ∃ (j : Nat) (m : NV), j ≤ n ∧ i = .int .i64 j ∧ FOwn wt (w2.heap.size + 1) A n c fs ∧ wt.heap[w2.heap.size]? = some (.cells #[.slice m.qa m.qm m.qc, .slice m.la m.lm m.lc, .int .i64 m.k.t, .int .i64 m.k.r, .int .i64 m.k.s, .int .i64 m.k.q, .slice m.ga m.gm m.gc] 27) ∧ NIs wt (Out [w2.heap.size]) m ⟨[], ls, newV, (Gs.drop j)⟩ ∧ Below w.heap.size w wt) (fun i _ => n - (intOf i).toNat)
    case atStart => exact ⟨0, m, Nat.zero_le _, rfl, hO50, hn50, hV50, hT50⟩
    case round =>
      clear hn50 hV50 hT50 hO50
      clear m
      obtain ⟨j, m, hj, rfl, hO60, hn60, hV60, hT60⟩ := hrel
      have HokD := Lib.hid (show OkN ⟨[], ls, newV, (Gs.drop j)⟩ from ⟨by simp, by simp, fun F hF => Hok.out.g F (List.mem_of_mem_drop hF), by have := Hok.out.gm; simp at this ⊢; omega, Hok.out.l, Hok.out.lm, Hok.out.k⟩)
      by_cases hlt : j < n
      · skip
        have j1 : (j : Int) < (n : Int) := by omega
        have hln := (Array.getElem?_eq_some_iff.1 hn60).1
        obtain ⟨nc0, nc1, nc2, nc3, nc4, nc5, nc6⟩ := cells7' hn60
        go_wp2_with fail
        clear hln nc0 nc1 nc2 nc3 nc4 nc5 nc6
        obtain ⟨G, hG⟩ : ∃ q, Gs.getD j zeroF = q := ⟨_, rfl⟩
        have HG := Lib.hid hG
        clear hG
        have HM := Lib.hid (show takeN ⟨[], ls, newV, (Gs.drop j)⟩ = ⟨[], ls, newV, (Gs.drop (j + 1))⟩ by unfold takeN; dsimp only; rw [List.eraseIdx_zero, List.tail_drop])
        have HF := Lib.hid (show takeF ⟨[], ls, newV, (Gs.drop j)⟩ = G by rw [← HG.out]; unfold takeF; simp [List.getD])
        have Hb := Lib.hid (show takeB ⟨[], ls, newV, (Gs.drop j)⟩ = true by unfold takeB; have := HGl.out; simp; omega)
        refine (take_c hV60 HokD.out (out_up (lt_cons (Array.getElem?_eq_some_iff.1 hn60).1 (fun _ h => by cases h))) ⟨[], ls, newV, (Gs.drop (j + 1))⟩ HM.out G HF.out true Hb.out).mono ?_
        rintro e w61 ⟨m5, f5, rfl, hm5_, hf5_, hB61⟩
        have hT61 := below_then hT60 hB61
        have hn61 := block_below hB61 hn60
        have hO61 := FOwn9.to hO60 hB61
        have hV61 := NIs.to hV60 hB61
        clear hT60 hn60 hO60 hV60 hB61
        have hm561 := hm5_
        clear hm5_
        have hf561 := hf5_
        clear hf5_
        have hln := (Array.getElem?_eq_some_iff.1 hn61).1
        obtain ⟨nc0, nc1, nc2, nc3, nc4, nc5, nc6⟩ := cells7' hn61
        go_wp2_with fail
        clear hln nc0 nc1 nc2 nc3 nc4 nc5 nc6
        have hgemm : w.heap.size ≤ w61.heap.size := hT61.size
        have Hn_mm := Lib.hid (show w2.heap.size ≠ w61.heap.size from Nat.ne_of_lt (Array.getElem?_eq_some_iff.1 hn61).1)
        have Hmm_n := Lib.hid (show w61.heap.size ≠ w2.heap.size from Ne.symm Hn_mm.out)
        obtain ⟨w62, hw62⟩ : ∃ w62, w61.alloc (.cells #[.slice m5.qa m5.qm m5.qc, .slice m5.la m5.lm m5.lc, .int .i64 m5.k.t, .int .i64 m5.k.r, .int .i64 m5.k.s, .int .i64 m5.k.q, .slice m5.ga m5.gm m5.gc] 27) = w62 := ⟨_, rfl⟩
        have hB62 : Below w61.heap.size w61 w62 := by rw [← hw62]; exact below_alloc1 _ _
        have hmm62 : w62.heap[w61.heap.size]? = some (.cells #[.slice m5.qa m5.qm m5.qc, .slice m5.la m5.lm m5.lc, .int .i64 m5.k.t, .int .i64 m5.k.r, .int .i64 m5.k.s, .int .i64 m5.k.q, .slice m5.ga m5.gm m5.gc] 27) := by rw [← hw62]; exact World.alloc_heap_new _ _
        have hzw62 : w62.heap.size = w61.heap.size + 1 := by rw [← hw62]; simp
        rw [hw62]
        clear hw62
        have hT62 := below_then hT61 hB62
        have hn62 := block_below hB62 hn61
        have hO62 := FOwn9.to hO61 hB62
        have hV62 := NIs.to hV61 hB62
        have hm562 := NIs.to hm561 hB62
        have hf562 := FIs.to hf561 hB62
        clear hT61 hn61 hO61 hV61 hm561 hf561 hB62
        have hgeff : w.heap.size ≤ (w61.heap.size + 1) := (hzw62 ▸ hT62.size)
        have Hn_ff := Lib.hid (show w2.heap.size ≠ (w61.heap.size + 1) from Nat.ne_of_lt (by have := (Array.getElem?_eq_some_iff.1 hn62).1; rw [hzw62] at this; exact this))
        have Hff_n := Lib.hid (show (w61.heap.size + 1) ≠ w2.heap.size from Ne.symm Hn_ff.out)
        have Hmm_ff := Lib.hid (show w61.heap.size ≠ (w61.heap.size + 1) from Nat.ne_of_lt (by have := (Array.getElem?_eq_some_iff.1 hmm62).1; rw [hzw62] at this; exact this))
        have Hff_mm := Lib.hid (show (w61.heap.size + 1) ≠ w61.heap.size from Ne.symm Hmm_ff.out)
        obtain ⟨w63, hw63⟩ : ∃ w63, w62.alloc (.cells #[.bool f5.x, .int .i64 f5.i, .bool f5.r, .int .i64 f5.n, .slice f5.a f5.m f5.c] 30) = w63 := ⟨_, rfl⟩
        have hB63 : Below w62.heap.size w62 w63 := by rw [← hw63]; exact below_alloc1 _ _
        have hff63 : w63.heap[(w61.heap.size + 1)]? = some (.cells #[.bool f5.x, .int .i64 f5.i, .bool f5.r, .int .i64 f5.n, .slice f5.a f5.m f5.c] 30) := by rw [← hw63]; exact alloc_at _ _ hzw62
        rw [hw63]
        clear hw63
        have hT63 := below_then hT62 hB63
        have hn63 := block_below hB63 hn62
        have hmm63 := block_below hB63 hmm62
        have hO63 := FOwn9.to hO62 hB63
        have hV63 := NIs.to hV62 hB63
        have hm563 := NIs.to hm562 hB63
        have hf563 := FIs.to hf562 hB63
        clear hT62 hn62 hmm62 hO62 hV62 hm562 hf562 hB63
        clear hzw62
        obtain ⟨ad, g, ea, hAt63, hg_⟩ := own_at hO63 hFs HGl.out hlt
        rw [HG.out] at hg_
        have hG63 := hg_.to hT63
        clear hg_
        subst ea
        refine wp_region_held_drew (S := fun W => (W.cell? ⟨(w61.heap.size + 1), 0, none⟩ = some (.bool f5.x) ∧ W.cell? ⟨(w61.heap.size + 1), 1, none⟩ = some (.int .i64 f5.i) ∧ W.cell? ⟨(w61.heap.size + 1), 2, none⟩ = some (.bool f5.r) ∧ W.cell? ⟨(w61.heap.size + 1), 3, none⟩ = some (.int .i64 f5.n) ∧ W.cell? ⟨(w61.heap.size + 1), 4, none⟩ = some (.slice f5.a f5.m f5.c)) ∧ (W.cell? (ad.add (j * 5)) = some (.bool g.x) ∧ W.cell? ⟨(ad.add (j * 5)).block, (ad.add (j * 5)).off + 1, none⟩ = some (.int .i64 g.i) ∧ W.cell? ⟨(ad.add (j * 5)).block, (ad.add (j * 5)).off + 2, none⟩ = some (.bool g.r) ∧ W.cell? ⟨(ad.add (j * 5)).block, (ad.add (j * 5)).off + 3, none⟩ = some (.int .i64 g.n) ∧ W.cell? ⟨(ad.add (j * 5)).block, (ad.add (j * 5)).off + 4, none⟩ = some (.slice g.a g.m g.c))) (by kernel_rfl) (by exact ⟨cells5' (block_below (below_drew1 _) hff63), (fat_to hAt63 (below_drew1 _))⟩) (fun hHeld_ => ?_)
        refine wpAnyH_take' (i := 0) (v := ?v0_t2) 95 rfl rfl (by kernel_rfl) (by kernel_rfl) (by kernel_rfl) (fun _ _ _ h => h) (Or.inl ⟨by kernel_rfl, ?hy0_t2⟩) (by assumption) ?rest0_t2
        case hy0_t2 => (intro W_ hS_; (try dsimp only at hS_); go_simp; (try (with_reducible rfl)))
        try simp only [Act.put, List.setIfInBounds_toArray, List.set_cons_zero, List.set_cons_succ]
        refine wpAnyH_take' (i := 1) (v := ?v1_t2) 96 rfl rfl (by kernel_rfl) (by kernel_rfl) (by kernel_rfl) (fun _ _ _ h => h) (Or.inl ⟨by kernel_rfl, ?hy1_t2⟩) (by assumption) ?rest1_t2
        case hy1_t2 => (intro W_ hS_; (try dsimp only at hS_); go_simp; (try (with_reducible rfl)))
        try simp only [Act.put, List.setIfInBounds_toArray, List.set_cons_zero, List.set_cons_succ]
        refine wpAnyH_take' (i := 2) (v := ?v2_t2) 97 rfl rfl (by kernel_rfl) (by kernel_rfl) (by kernel_rfl) (fun _ _ _ h => h) (Or.inl ⟨by kernel_rfl, ?hy2_t2⟩) (by assumption) ?rest2_t2
        case hy2_t2 => (intro W_ hS_; (try dsimp only at hS_); go_simp; (try (with_reducible rfl)))
        try simp only [Act.put, List.setIfInBounds_toArray, List.set_cons_zero, List.set_cons_succ]
        refine wpAnyH_take' (i := 3) (v := ?v3_t2) 98 rfl rfl (by kernel_rfl) (by kernel_rfl) (by kernel_rfl) (fun _ _ _ h => h) (Or.inl ⟨by kernel_rfl, ?hy3_t2⟩) (by assumption) ?rest3_t2
        case hy3_t2 => (intro W_ hS_; (try dsimp only at hS_); go_simp; (try (with_reducible rfl)))
        try simp only [Act.put, List.setIfInBounds_toArray, List.set_cons_zero, List.set_cons_succ]
        refine wpAnyH_take' (i := 4) (v := ?v4_t2) 99 rfl rfl (by kernel_rfl) (by kernel_rfl) (by kernel_rfl) (fun _ _ _ h => h) (Or.inl ⟨by kernel_rfl, ?hy4_t2⟩) (by assumption) ?rest4_t2
        case hy4_t2 => (intro W_ hS_; (try dsimp only at hS_); go_simp; (try (with_reducible rfl)))
        try simp only [Act.put, List.setIfInBounds_toArray, List.set_cons_zero, List.set_cons_succ]
        refine wpAnyH_take' (i := 5) (v := ?v5_t2) 100 rfl rfl (by kernel_rfl) (by kernel_rfl) (by kernel_rfl) (fun _ _ _ h => h) (Or.inl ⟨by kernel_rfl, ?hy5_t2⟩) (by assumption) ?rest5_t2
        case hy5_t2 => (intro W_ hS_; (try dsimp only at hS_); go_simp; (try (with_reducible rfl)))
        try simp only [Act.put, List.setIfInBounds_toArray, List.set_cons_zero, List.set_cons_succ]
        refine wpAnyH_take' (i := 6) (v := ?v6_t2) 101 rfl rfl (by kernel_rfl) (by kernel_rfl) (by kernel_rfl) (fun _ _ _ h => h) (Or.inl ⟨by kernel_rfl, ?hy6_t2⟩) (by assumption) ?rest6_t2
        case hy6_t2 => (intro W_ hS_; (try dsimp only at hS_); go_simp; (try (with_reducible rfl)))
        try simp only [Act.put, List.setIfInBounds_toArray, List.set_cons_zero, List.set_cons_succ]
        refine wpAnyH_take' (i := 7) (v := ?v7_t2) 102 rfl rfl (by kernel_rfl) (by kernel_rfl) (by kernel_rfl) (fun _ _ _ h => h) (Or.inl ⟨by kernel_rfl, ?hy7_t2⟩) (by assumption) ?rest7_t2
        case hy7_t2 => (intro W_ hS_; (try dsimp only at hS_); go_simp; (try (with_reducible rfl)))
        try simp only [Act.put, List.setIfInBounds_toArray, List.set_cons_zero, List.set_cons_succ]
        refine wpAnyH_ready (rs := [8]) (by kernel_rfl) (by simp) ?_
        refine AllReadyH.cons rfl (fun K_ hK_ => ?_) AllReadyH.nil
        go_simp
        refine (refFrSame_c (FIs.to hf563 (below_drew1 _)) (FIs.to hG63 (below_drew1 _)) true (by simp [sameF])).mono ?_; rintro e wr8 ⟨rfl, hBr8⟩
        go_wp2_with fail
        refine hK_.out _ _ (by exact ⟨cells5' (block_below hBr8 (block_below (below_drew1 _) hff63)), (fat_to (fat_to hAt63 (below_drew1 _)) hBr8)⟩) (fun hHeld_8 => ?_)
        clear hK_
        try simp only [Act.put, List.setIfInBounds_toArray, List.set_cons_zero, List.set_cons_succ]
        refine wpAnyH_take' (i := 9) (v := ?v9_t2) 104 rfl rfl (by kernel_rfl) (by kernel_rfl) (by kernel_rfl) (fun _ _ _ h => h) (Or.inl ⟨by kernel_rfl, ?hy9_t2⟩) (by assumption) ?rest9_t2
        case hy9_t2 => (intro W_ hS_; (try dsimp only at hS_); go_simp; (try (with_reducible rfl)))
        try simp only [Act.put, List.setIfInBounds_toArray, List.set_cons_zero, List.set_cons_succ]
        refine wpAnyH_take' (i := 10) (v := ?v10_t2) 105 rfl rfl (by kernel_rfl) (by kernel_rfl) (by kernel_rfl) (fun _ _ _ h => h) (Or.inl ⟨by kernel_rfl, ?hy10_t2⟩) (by assumption) ?rest10_t2
        case hy10_t2 => (intro W_ hS_; (try dsimp only at hS_); go_simp; (try (with_reducible rfl)))
        try simp only [Act.put, List.setIfInBounds_toArray, List.set_cons_zero, List.set_cons_succ]
        refine wpAnyH_done (by kernel_rfl) ?_ _
        clear hAt63
        obtain ⟨w64, hw64⟩ : ∃ w64, wr8 = w64 := ⟨_, rfl⟩
        have hB64 : Below w63.heap.size w63 w64 := by rw [← hw64]; exact (below_then (below_drew1 _) hBr8)
        rw [hw64]
        clear hw64  hBr8
        have hT64 := below_then hT63 hB64
        have hn64 := block_below hB64 hn63
        have hmm64 := block_below hB64 hmm63
        have hff64 := block_below hB64 hff63
        have hO64 := FOwn9.to hO63 hB64
        have hV64 := NIs.to hV63 hB64
        have hm564 := NIs.to hm563 hB64
        have hf564 := FIs.to hf563 hB64
        have hG64 := FIs.to hG63 hB64
        clear hT63 hn63 hmm63 hff63 hO63 hV63 hm563 hf563 hG63 hB64
        clear hf564
        clear hG64
        have hln := (Array.getElem?_eq_some_iff.1 hn64).1
        obtain ⟨⟨nc0, nc1, nc2, nc3, nc4, nc5, nc6⟩, nf0, nf1, nf2, nf3, nf4, nf5, nf6⟩ := cells7 hn64
        have hlmm := (Array.getElem?_eq_some_iff.1 hmm64).1
        obtain ⟨mmc0, mmc1, mmc2, mmc3, mmc4, mmc5, mmc6⟩ := cells7' hmm64
        have hlff := (Array.getElem?_eq_some_iff.1 hff64).1
        obtain ⟨ffc0, ffc1, ffc2, ffc3, ffc4⟩ := cells5' hff64
        go_wp2_with fail
        clear hln nc0 nc1 nc2 nc3 nc4 nc5 nc6 nf0 nf1 nf2 nf3 nf4 nf5 nf6 hlmm mmc0 mmc1 mmc2 mmc3 mmc4 mmc5 mmc6 hlff ffc0 ffc1 ffc2 ffc3 ffc4
        clear hV64
        obtain ⟨w65, hw65⟩ : ∃ w_, set7 w64 w2.heap.size (.slice m5.qa m5.qm m5.qc) (.slice m5.la m5.lm m5.lc) (.int .i64 m5.k.t) (.int .i64 m5.k.r) (.int .i64 m5.k.s) (.int .i64 m5.k.q) (.slice m5.ga m5.gm m5.gc) = w_ := ⟨_, rfl⟩
        have hG65 : w64.grownBy w65 (some w2.heap.size) := by rw [← hw65]; exact set7_grown _ _ _ _ _ _ _ _ _
        have hT65 := below_g hT64 hG65 hgen
        have hn65 : w65.heap[w2.heap.size]? = some (.cells #[.slice m5.qa m5.qm m5.qc, .slice m5.la m5.lm m5.lc, .int .i64 m5.k.t, .int .i64 m5.k.r, .int .i64 m5.k.s, .int .i64 m5.k.q, .slice m5.ga m5.gm m5.gc] 27) := by rw [← hw65]; exact set7_obj hn64 _ _ _ _ _ _ _
        have hmm65 := other_g hG65 hmm64 Hmm_n.out
        have hff65 := other_g hG65 hff64 Hff_n.out
        have hO65 := FOwn9.grow hO64 hG65 (Nat.lt_succ_self _)
        have hm565 := NIs.grow hm564 hG65 (out_not (by simp))
        have Hsz65 := Lib.hid (show w65.heap.size = w64.heap.size by rw [← hw65]; simp [set7, World.setCell])
        unfold set7 at hw65
        rw [hw65]
        clear hw65 hG65 hT64 hn64 hmm64 hff64 hO64 hm564
        go_round
        case measure => simp [intOf]; omega
        exact ⟨j + 1, m5, by omega, by go_num, hO65, hn65, hm565, hT65⟩
      obtain rfl : j = n := by omega
      have j1 : ¬ (j : Int) < (j : Int) := by omega
      have Hb := Lib.hid (show takeB ⟨[], ls, newV, (Gs.drop j)⟩ = false by unfold takeB; have := HGl.out; simp; omega)
      have hln := (Array.getElem?_eq_some_iff.1 hn60).1
      obtain ⟨nc0, nc1, nc2, nc3, nc4, nc5, nc6⟩ := cells7' hn60
      go_wp2_with fail
      clear hln nc0 nc1 nc2 nc3 nc4 nc5 nc6
      refine (take_c hV60 HokD.out (out_up (lt_cons (Array.getElem?_eq_some_iff.1 hn60).1 (fun _ h => by cases h))) _ rfl _ rfl false Hb.out).mono ?_
      rintro e w61 ⟨m5, f5, rfl, hm5_, hf5_, hB61⟩
      have hT61 := below_then hT60 hB61
      have hn61 := block_below hB61 hn60
      have hO61 := FOwn9.to hO60 hB61
      have hV61 := NIs.to hV60 hB61
      clear hT60 hn60 hO60 hV60 hB61
      have hm561 := hm5_
      clear hm5_
      have hf561 := hf5_
      clear hf5_
      clear hm561
      clear hf561
      have e5 : m.k = ⟨0, 0, 1, 0⟩ := hV61.k
      clear hV61
      obtain ⟨mqa, mqm, mqc, mla, mlm, mlc, mk, mga, mgm, mgc⟩ := m
      dsimp only at e5
      subst e5
      dsimp only at hn61
      have hln := (Array.getElem?_eq_some_iff.1 hn61).1
      obtain ⟨nc0, nc1, nc2, nc3, nc4, nc5, nc6⟩ := cells7' hn61
      go_wp2_with fail
      clear hln nc0 nc1 nc2 nc3 nc4 nc5 nc6
      have hgemm : w.heap.size ≤ w61.heap.size := hT61.size
      have Hn_mm := Lib.hid (show w2.heap.size ≠ w61.heap.size from Nat.ne_of_lt (Array.getElem?_eq_some_iff.1 hn61).1)
      have Hmm_n := Lib.hid (show w61.heap.size ≠ w2.heap.size from Ne.symm Hn_mm.out)
      obtain ⟨w62, hw62⟩ : ∃ w62, w61.alloc (.cells #[.slice m5.qa m5.qm m5.qc, .slice m5.la m5.lm m5.lc, .int .i64 m5.k.t, .int .i64 m5.k.r, .int .i64 m5.k.s, .int .i64 m5.k.q, .slice m5.ga m5.gm m5.gc] 27) = w62 := ⟨_, rfl⟩
      have hB62 : Below w61.heap.size w61 w62 := by rw [← hw62]; exact below_alloc1 _ _
      have hmm62 : w62.heap[w61.heap.size]? = some (.cells #[.slice m5.qa m5.qm m5.qc, .slice m5.la m5.lm m5.lc, .int .i64 m5.k.t, .int .i64 m5.k.r, .int .i64 m5.k.s, .int .i64 m5.k.q, .slice m5.ga m5.gm m5.gc] 27) := by rw [← hw62]; exact World.alloc_heap_new _ _
      have hzw62 : w62.heap.size = w61.heap.size + 1 := by rw [← hw62]; simp
      rw [hw62]
      clear hw62
      have hT62 := below_then hT61 hB62
      have hn62 := block_below hB62 hn61
      have hO62 := FOwn9.to hO61 hB62
      clear hT61 hn61 hO61 hB62
      have hgeff : w.heap.size ≤ (w61.heap.size + 1) := (hzw62 ▸ hT62.size)
      have Hn_ff := Lib.hid (show w2.heap.size ≠ (w61.heap.size + 1) from Nat.ne_of_lt (by have := (Array.getElem?_eq_some_iff.1 hn62).1; rw [hzw62] at this; exact this))
      have Hff_n := Lib.hid (show (w61.heap.size + 1) ≠ w2.heap.size from Ne.symm Hn_ff.out)
      have Hmm_ff := Lib.hid (show w61.heap.size ≠ (w61.heap.size + 1) from Nat.ne_of_lt (by have := (Array.getElem?_eq_some_iff.1 hmm62).1; rw [hzw62] at this; exact this))
      have Hff_mm := Lib.hid (show (w61.heap.size + 1) ≠ w61.heap.size from Ne.symm Hmm_ff.out)
      obtain ⟨w63, hw63⟩ : ∃ w63, w62.alloc (.cells #[.bool f5.x, .int .i64 f5.i, .bool f5.r, .int .i64 f5.n, .slice f5.a f5.m f5.c] 30) = w63 := ⟨_, rfl⟩
      have hB63 : Below w62.heap.size w62 w63 := by rw [← hw63]; exact below_alloc1 _ _
      have hff63 : w63.heap[(w61.heap.size + 1)]? = some (.cells #[.bool f5.x, .int .i64 f5.i, .bool f5.r, .int .i64 f5.n, .slice f5.a f5.m f5.c] 30) := by rw [← hw63]; exact alloc_at _ _ hzw62
      rw [hw63]
      clear hw63
      have hT63 := below_then hT62 hB63
      have hn63 := block_below hB63 hn62
      have hmm63 := block_below hB63 hmm62
      have hO63 := FOwn9.to hO62 hB63
      clear hT62 hn62 hmm62 hO62 hB63
      clear hzw62
      have e6 : sameC ⟨0, 0, 1, 0⟩ ⟨newV.t, newV.r, newV.s, newV.q⟩ = true := by decide
      have E6 := Lib.hid e6
      clear e6
      refine wp_region_held_drew (S := fun W => (W.cell? ⟨w2.heap.size, 0, none⟩ = some (.slice mqa mqm mqc) ∧ W.cell? ⟨w2.heap.size, 1, none⟩ = some (.slice mla mlm mlc) ∧ W.cell? ⟨w2.heap.size, 2, none⟩ = some (.int .i64 0) ∧ W.cell? ⟨w2.heap.size, 3, none⟩ = some (.int .i64 0) ∧ W.cell? ⟨w2.heap.size, 4, none⟩ = some (.int .i64 1) ∧ W.cell? ⟨w2.heap.size, 5, none⟩ = some (.int .i64 0) ∧ W.cell? ⟨w2.heap.size, 6, none⟩ = some (.slice mga mgm mgc))) (by kernel_rfl) (by exact cells7' (block_below (below_drew1 _) hn63)) (fun hHeld_ => ?_)
      refine wpAnyH_take' (i := 0) (v := ?v0_t3) 113 rfl rfl (by kernel_rfl) (by kernel_rfl) (by kernel_rfl) (fun _ _ _ h => h) (Or.inl ⟨by kernel_rfl, ?hy0_t3⟩) (by assumption) ?rest0_t3
      case hy0_t3 => (intro W_ hS_; (try dsimp only at hS_); go_simp; (try (with_reducible rfl)))
      try simp only [Act.put, List.setIfInBounds_toArray, List.set_cons_zero, List.set_cons_succ]
      refine wpAnyH_take' (i := 1) (v := ?v1_t3) 114 rfl rfl (by kernel_rfl) (by kernel_rfl) (by kernel_rfl) (fun _ _ _ h => h) (Or.inl ⟨by kernel_rfl, ?hy1_t3⟩) (by assumption) ?rest1_t3
      case hy1_t3 => (intro W_ hS_; (try dsimp only at hS_); go_simp; (try (with_reducible rfl)))
      try simp only [Act.put, List.setIfInBounds_toArray, List.set_cons_zero, List.set_cons_succ]
      refine wpAnyH_take' (i := 2) (v := ?v2_t3) 115 rfl rfl (by kernel_rfl) (by kernel_rfl) (by kernel_rfl) (fun _ _ _ h => h) (Or.inl ⟨by kernel_rfl, ?hy2_t3⟩) (by assumption) ?rest2_t3
      case hy2_t3 => (intro W_ hS_; (try dsimp only at hS_); go_simp; (try (with_reducible rfl)))
      try simp only [Act.put, List.setIfInBounds_toArray, List.set_cons_zero, List.set_cons_succ]
      refine wpAnyH_take' (i := 3) (v := ?v3_t3) 116 rfl rfl (by kernel_rfl) (by kernel_rfl) (by kernel_rfl) (fun _ _ _ h => h) (Or.inl ⟨by kernel_rfl, ?hy3_t3⟩) (by assumption) ?rest3_t3
      case hy3_t3 => (intro W_ hS_; (try dsimp only at hS_); go_simp; (try (with_reducible rfl)))
      try simp only [Act.put, List.setIfInBounds_toArray, List.set_cons_zero, List.set_cons_succ]
      refine wpAnyH_take' (i := 4) (v := ?v4_t3) 117 rfl rfl (by kernel_rfl) (by kernel_rfl) (by kernel_rfl) (fun _ _ _ h => h) (Or.inl ⟨by kernel_rfl, ?hy4_t3⟩) (by assumption) ?rest4_t3
      case hy4_t3 => (intro W_ hS_; (try dsimp only at hS_); go_simp; (try (with_reducible rfl)))
      try simp only [Act.put, List.setIfInBounds_toArray, List.set_cons_zero, List.set_cons_succ]
      refine wpAnyH_take' (i := 5) (v := ?v5_t3) 118 rfl rfl (by kernel_rfl) (by kernel_rfl) (by kernel_rfl) (fun _ _ _ h => h) (Or.inl ⟨by kernel_rfl, ?hy5_t3⟩) (by assumption) ?rest5_t3
      case hy5_t3 => (intro W_ hS_; (try dsimp only at hS_); go_simp; (try (with_reducible rfl)))
      try simp only [Act.put, List.setIfInBounds_toArray, List.set_cons_zero, List.set_cons_succ]
      refine wpAnyH_take' (i := 6) (v := ?v6_t3) 119 rfl rfl (by kernel_rfl) (by kernel_rfl) (by kernel_rfl) (fun _ _ _ h => h) (Or.inl ⟨by kernel_rfl, ?hy6_t3⟩) (by assumption) ?rest6_t3
      case hy6_t3 => (intro W_ hS_; (try dsimp only at hS_); go_simp; (try (with_reducible rfl)))
      try simp only [Act.put, List.setIfInBounds_toArray, List.set_cons_zero, List.set_cons_succ]
      refine wpAnyH_take' (i := 7) (v := ?v7_t3) 120 rfl rfl (by kernel_rfl) (by kernel_rfl) (by kernel_rfl) (fun _ _ _ h => h) (Or.inl ⟨by kernel_rfl, ?hy7_t3⟩) (by assumption) ?rest7_t3
      case hy7_t3 => (intro W_ hS_; (try dsimp only at hS_); go_simp; (try (with_reducible rfl)))
      try simp only [Act.put, List.setIfInBounds_toArray, List.set_cons_zero, List.set_cons_succ]
      refine wpAnyH_ready (rs := [8]) (by kernel_rfl) (by simp) ?_
      refine AllReadyH.cons rfl (fun K_ hK_ => ?_) AllReadyH.nil
      go_simp
      refine (refNew_any _).mono ?_; rintro e wr8 ⟨rfl, hBr8⟩
      go_wp2_with fail
      refine hK_.out _ _ (by exact cells7' (block_below hBr8 (block_below (below_drew1 _) hn63))) (fun hHeld_8 => ?_)
      clear hK_
      try simp only [Act.put, List.setIfInBounds_toArray, List.set_cons_zero, List.set_cons_succ]
      refine wpAnyH_take' (i := 9) (v := ?v9_t3) 122 rfl rfl (by kernel_rfl) (by kernel_rfl) (by kernel_rfl) (fun _ _ _ h => h) (Or.inl ⟨by kernel_rfl, ?hy9_t3⟩) (by assumption) ?rest9_t3
      case hy9_t3 => (intro W_ hS_; (try dsimp only at hS_); go_simp; (try (with_reducible rfl)))
      try simp only [Act.put, List.setIfInBounds_toArray, List.set_cons_zero, List.set_cons_succ]
      refine wpAnyH_take' (i := 10) (v := ?v10_t3) 123 rfl rfl (by kernel_rfl) (by kernel_rfl) (by kernel_rfl) (fun _ _ _ h => h) (Or.inl ⟨by kernel_rfl, ?hy10_t3⟩) (by assumption) ?rest10_t3
      case hy10_t3 => (intro W_ hS_; (try dsimp only at hS_); go_simp; (try (with_reducible rfl)))
      try simp only [Act.put, List.setIfInBounds_toArray, List.set_cons_zero, List.set_cons_succ]
      refine wpAnyH_take' (i := 11) (v := ?v11_t3) 4 rfl rfl (by kernel_rfl) (by kernel_rfl) (by kernel_rfl) (fun _ _ _ h => h) (Or.inl ⟨by kernel_rfl, ?hy11_t3⟩) (by assumption) ?rest11_t3
      case hy11_t3 => (intro W_ hS_; (try dsimp only at hS_); go_simp; (try (with_reducible rfl)))
      try simp only [Act.put, List.setIfInBounds_toArray, List.set_cons_zero, List.set_cons_succ]
      refine wpAnyH_done (by kernel_rfl) ?_ _
      go_wp2_with fail
      go_ret
      exact ⟨ret_bool (by rw [E6.out]), below_then hT63 (below_then (below_drew1 _) hBr8)⟩

end Go.Proofs.Ytlbgilbigcnleaa
