/-
  WBusBroken.
-/
import Derived.Test.YtcifjccojmfpaaaGreatJ0
import Derived.Test.YtcifjccojmfpaaaGreatJ1
import Derived.Test.YtcifjccojmfpaaaGreatJ2
import Derived.Test.YtcifjccojmfpaaaGreatJ3
import Derived.Test.YtcifjccojmfpaaaGreatJ4
import Derived.Test.YtcifjccojmfpaaaGreatJ5
import Derived.Test.YtcifjccojmfpaaaGreatJ8
import Derived.Test.YtcifjccojmfpaaaGreatJ9
import Derived.Test.YtcifjccojmfpaaaGreatJ10
set_option maxRecDepth 100000
set_option maxHeartbeats 4000000
namespace Go.Proofs.YtcifjccojmfpaaaGreat
open Go.RowKit
set_option linter.unusedVariables false
set_option linter.unusedSimpArgs false
theorem w64_2r (r : Nat) (h : r < 7) : wrap64 (2 + (r : Int)) = ((2 + r : Nat) : Int) := by unfold wrap64; omega
theorem wi_2r (r : Nat) (h : r < 7) : IntKind.i64.wrap (2 + (r : Int)) = ((2 + r : Nat) : Int) := by rw [IntKind.wrap_i64]; omega
theorem rep_le31 (a : Nat) : ∀ H ∈ List.replicate 31 [(a : Int)], H.length ≤ 1000 := fun H h => by rw [List.eq_of_mem_replicate h]; exact (by decide : (1 : Nat) ≤ 1000)
theorem blk2q (w : World) (o1 o2 : Obj) : ((w.alloc o1).alloc o2).heap[w.heap.size + 1]? = some o2 := by have := World.alloc_heap_new (w.alloc o1) o2; simpa using this
theorem row_lowS {w w' : World} {S : Nat} {g : FV} {M : FC} (h : FIs w (fun b => b < S) g M) (b : Below S w w') : Row .u8 w' w'.heap.size g.a M.d := by
  rcases h.row with h0 | ⟨ad, e, hb, hc⟩
  · exact .inl h0
  · by_cases hl : M.d = []
    · exact .inl hl
    · have hlt : ad.block < S := h.inP (by rw [← h.len]; exact List.length_pos_iff.2 hl) ad e
      exact .inr ⟨ad, e, Nat.lt_of_lt_of_le hb b.size, fun k x hx => (b.cell (by rw [addr_block]; exact hlt)).trans (hc k x hx)⟩
theorem hiss_app9 {w w' : World} {L : List Nat} {A A' : Option Addr} {n c : Nat} {hs : List HV} {Hs : List (List Int)} (h : AllIs (HIs w (Out (L ++ ownL A))) hs Hs) (g : w.grownBy w' (Value.slice A n c).ownBlock) (e : ownL A' = ownL A ∨ ownL A' = [w.heap.size]) : AllIs (HIs w' (Out (L ++ ownL A'))) hs Hs :=
  beside_app (Rp := fun w P => AllIs (HIs w P) hs Hs) (fun _ _ _ h hq => h.imp fun _ _ x => x.mono hq) (fun _ _ _ h b => h.imp fun _ _ x => x.to b) (fun _ _ _ _ h g hX => h.imp fun _ _ x => x.grow g hX) h g e
theorem busBroken_any (hHd : Head10) (N0 N1 : Nat) (h0256 : N0 < 256) (h256 : N1 < 256) (f0 : FV) (F0 : FC) (w : World) (h : FIs w (fun _ => True) f0 F0) :
    Calls Tryz.prog 7 #[.int .u8 N0, .int .u8 N1, f0.v] w fun e w' => e = .returned (.bool true) ∧ Below w.heap.size w w' := by
  obtain ⟨r, hr⟩ : ∃ r : Nat, (N0 : Int) % 7 = (r : Int) := ⟨N0 % 7, by omega⟩
  have hr7 : r < 7 := by omega
  have hr2 : Int.tmod (N0 : Int) 7 = (r : Int) := by rw [Int.tmod_eq_emod_of_nonneg (by omega)]; exact hr
  have hw0 := w64_u8 N0 h0256
  obtain ⟨n, hn⟩ : ∃ n, 2 + r = n := ⟨_, rfl⟩
  have hn2 : 2 ≤ n := by omega
  have hn8 : n ≤ 8 := by omega
  have hw1 : wrap64 (2 + (r : Int)) = (n : Int) := by rw [← hn]; exact w64_2r r hr7
  have hi1 : IntKind.i64.wrap (2 + (r : Int)) = (n : Int) := by rw [← hn]; exact wi_2r r hr7
  clear hn
  obtain ⟨a, ha⟩ : ∃ a : Nat, N1 % n = a := ⟨_, rfl⟩
  have han : a < n := by rw [← ha]; exact Nat.mod_lt _ (by omega)
  have hmod : (N1 : Int) % (n : Int) = (a : Int) := by rw [← ha]; rfl
  have hmod2 : Int.tmod (N1 : Int) (n : Int) = (a : Int) := by rw [Int.tmod_eq_emod_of_nonneg (by omega)]; exact hmod
  have hn0 : ¬ (n : Int) = 0 := by omega
  have hw2 := w64_u8 N1 h256
  clear ha
  have h0 : FIs w (Out [w.heap.size]) f0 F0 := h.mono out_low10
  clear h
  obtain ⟨w0, hw0⟩ : ∃ w0, (w.alloc (.cells #[.bool f0.x, .int .i64 f0.i, .bool f0.r, .int .i64 f0.n, .slice f0.a f0.m f0.c] 34)) = w0 := ⟨_, rfl⟩
  have hT0 : Below w.heap.size w w0 := by rw [← hw0]; exact below_alloc1 _ _
  have hf0 : w0.heap[w.heap.size]? = some (.cells #[.bool f0.x, .int .i64 f0.i, .bool f0.r, .int .i64 f0.n, .slice f0.a f0.m f0.c] 34) := by rw [← hw0]; exact World.alloc_heap_new _ _
  have hs0 : w0.heap.size = w.heap.size + 1 := by rw [← hw0]; simp
  have Hs0 := Lib.hid hs0
  clear hs0
  have hlf := (Array.getElem?_eq_some_iff.1 hf0).1
  obtain ⟨fc0, fc1, fc2, fc3, fc4⟩ := cells5' hf0
  go_enter Tryz.func7, Tryz.ntmps7
  go_wp2_with fail
  clear hlf fc0 fc1 fc2 fc3 fc4
  clear hw0
  have hZ0 := Below.refl w0.heap.size w0
  clear hZ0
  clear Hs0
  refine (hHd.run w0).mono ?_
  rintro e w1 ⟨rfl, hB1⟩
  have hT1 := below_then hT0 hB1
  have hf1 := block_below hB1 hf0
  clear hT0 hf0  hB1
  have hlf := (Array.getElem?_eq_some_iff.1 hf1).1
  obtain ⟨fc0, fc1, fc2, fc3, fc4⟩ := cells5' hf1
  go_wp2_with fail
  clear hlf fc0 fc1 fc2 fc3 fc4
  obtain ⟨M, hM_⟩ : ∃ M, madeC F0 = M := ⟨_, rfl⟩
  have HMr := Lib.hid (show rightC M = true by rw [← hM_]; exact made_right F0)
  refine (made6_c (Q := Out [w.heap.size]) (h0.to hT1) (out_up (lt_cons (Array.getElem?_eq_some_iff.1 hf1).1 (fun _ h => by cases h))) M hM_).mono ?_
  rintro e w2 ⟨g, rfl, hg_, hB2⟩
  have hT2 := below_then hT1 hB2
  have hf2 := block_below hB2 hf1
  clear hT1 hf1  hB2
  have hg2 := hg_
  clear hg_
  clear hM_
  have hgef : w.heap.size ≤ w.heap.size := Nat.le_refl _
  have hlf := (Array.getElem?_eq_some_iff.1 hf2).1
  obtain ⟨⟨fc0, fc1, fc2, fc3, fc4⟩, ff0, ff1, ff2, ff3, ff4⟩ := cells5 hf2
  go_upto_region 3 with fail
  clear hlf fc0 fc1 fc2 fc3 fc4 ff0 ff1 ff2 ff3 ff4
  obtain ⟨w3, hw3⟩ : ∃ w_, set5 w2 w.heap.size (.bool g.x) (.int .i64 g.i) (.bool g.r) (.int .i64 g.n) (.slice g.a g.m g.c) = w_ := ⟨_, rfl⟩
  have hG3 : w2.grownBy w3 (some w.heap.size) := by rw [← hw3]; exact set5_grown _ _ _ _ _ _ _
  have hT3 := below_g hT2 hG3 hgef
  have hf3 : w3.heap[w.heap.size]? = some (.cells #[.bool g.x, .int .i64 g.i, .bool g.r, .int .i64 g.n, .slice g.a g.m g.c] 34) := by rw [← hw3]; exact set5_obj hf2 _ _ _ _ _
  have hg3 := FIs.grow hg2 hG3 (out_not (by simp))
  have Hsz3 := Lib.hid (show w3.heap.size = w2.heap.size by rw [← hw3]; simp [set5, World.setCell])
  unfold set5 at hw3
  rw [hw3]
  clear hw3 hG3 hT2 hf2 hg2
  clear hgef
  obtain ⟨S, hS_⟩ : ∃ S, w3.heap.size = S := ⟨_, rfl⟩
  replace hg3 : FIs w3 (fun b => b < S) g M := hg3.mono (fun b hb _ => by rw [← hS_]; exact hb)
  have HS := Lib.hid hS_
  have HfS := Lib.hid (show w.heap.size < S by rw [← hS_]; exact (Array.getElem?_eq_some_iff.1 hf3).1)
  have hwS : w.heap.size ≤ S := by rw [← hS_]; exact hT3.size
  go_upto_region 6 with fail
  clear hr hr2 hw0 hw1 hi1 hmod hmod2 hw2
  obtain ⟨w4, hw4⟩ : ∃ w_, (w3.alloc (.cells #[] 49)).alloc (.cells #[] 41) = w_ := ⟨_, rfl⟩
  have hB4 : Below w3.heap.size w3 w4 := by rw [← hw4]; exact below_two _ _ _
  have ho_ : NOwn w4 S (some ⟨w3.heap.size, 0, none⟩) 0 0 (List.replicate 0 freshNV) := by rw [← hw4]; exact GOwn.to (gown_empty shN w3 S _ rfl (Nat.le_of_eq hS_.symm)) (below_alloc1 _ _)
  have he_ : w4.heap[S + 1]? = some (.cells #[] 41) := by rw [← hw4, ← hS_]; exact blk2q _ _ _
  rw [hw4]
  clear hw4
  have hT4 := below_then hT3 hB4
  have hf4 := block_below hB4 hf3
  have hg4 := FIs.to hg3 hB4
  clear hT3 hf3 hg3 hB4
  rw [show w3.heap.size = S from HS.out] at ho_
  have hS2 : S + 2 ≤ w4.heap.size := by have h1 := (Array.getElem?_eq_some_iff.1 he_).1; omega
  clear hS_
  go_wp2_with fail
  go_loopw [8, 12] (fun o i wr => ∃ (j c2 : Nat) (A2 : Option Addr), j ≤ n ∧ i = .int .i64 j ∧ o = .slice A2 j c2 ∧ NOwn wr S A2 j c2 (List.replicate j freshNV) ∧ wr.heap[S + 1]? = some (.cells #[] 41) ∧ (∀ Y ∈ ownL A2, Y ≠ S + 1) ∧ wr.heap[w.heap.size]? = some (.cells #[.bool g.x, .int .i64 g.i, .bool g.r, .int .i64 g.n, .slice g.a g.m g.c] 34) ∧ FIs wr (fun b => b < S) g M ∧ Below w.heap.size w wr) (fun _ i _ => n - (intOf i).toNat)
  case atStart => exact ⟨0, 0, _, Nat.zero_le _, rfl, rfl, ho_, he_, (fun Y hY => by simp [ownL] at hY; omega), hf4, hg4, hT4⟩
  case round =>
    clear ho_ he_ hf4 hg4 hT4 hS2
    obtain ⟨j, c2, A2, hj, rfl, rfl, ho50, he50, hne50, hf50, hg50, hT50⟩ := hrel
    have hS2 : S + 2 ≤ wr.heap.size := by have h1 := (Array.getElem?_eq_some_iff.1 he50).1; omega
    by_cases hlt : j < n
    · skip
      have j1 : (j : Int) < (n : Int) := by omega
      go_wp2_with fail
      refine (refNew_lit2 wr).mono ?_
      rintro e w51 ⟨rfl, hB51⟩
      have hT51 := below_then hT50 hB51
      have hf51 := block_below hB51 hf50
      have he51 := block_below hB51 he50
      have hg51 := FIs.to hg50 hB51
      have ho51 := GOwn.to ho50 hB51
      clear hT50 hf50 he50 hg50 ho50 hB51
      have hOx : NOwn (w51.alloc (.cells #[.slice none 0 0, .slice none 0 0, .int .i64 0, .int .i64 0, .int .i64 1, .int .i64 0, .slice none 0 0] 49)) S A2 j c2 (List.replicate j freshNV) := GOwn.to ho51 (below_alloc1 _ _)
      have hSx : S ≤ (w51.alloc (.cells #[.slice none 0 0, .slice none 0 0, .int .i64 0, .int .i64 0, .int .i64 1, .int .i64 0, .slice none 0 0] 49)).heap.size := by have h1 := (below_alloc1 w51 (.cells #[.slice none 0 0, .slice none 0 0, .int .i64 0, .int .i64 0, .int .i64 1, .int .i64 0, .slice none 0 0] 49)).size; have h2 := (Array.getElem?_eq_some_iff.1 he51).1; omega
      go_wp2_with (at_builtin; refine wpList_append_g shN Tryz.infoN _ rfl _ _ rfl S A2 j c2 (List.replicate j freshNV) rfl hOx _ 1 _ _ [freshNV] rfl rfl (GRow.lit w51 [freshNV] rfl rfl) (by omega) hSx ?_; intro A3 c3 w90 hO90 hc90 hg90 he90 hB90)
      have hBx := below_alloc1 w51 (.cells #[.slice none 0 0, .slice none 0 0, .int .i64 0, .int .i64 0, .int .i64 1, .int .i64 0, .slice none 0 0] 49)
      have hex := block_below hBx he51
      have hfx := block_below hBx hf51
      have hgx := FIs.to hg51 hBx
      have hTx := below_then hT51 hBx
      have hnw : (Value.slice A2 j c2).ownBlock ≠ some (S + 1) := fun e_ => by cases A2 with | none => cases e_ | some ad_ => exact hne50 ad_.block (by simp [ownL]) (Option.some.inj e_)
      have he90_ : w90.heap[S + 1]? = some (.cells #[] 41) := (hg90.block _ (Array.getElem?_eq_some_iff.1 hex).1 (fun e_ => hnw e_.symm)).trans hex
      have hf90_ : w90.heap[w.heap.size]? = some (.cells #[.bool g.x, .int .i64 g.i, .bool g.r, .int .i64 g.n, .slice g.a g.m g.c] 34) := (hB90.block _ HfS.out).trans hfx
      go_round
      case measure => simp [intOf]; omega
      refine ⟨j + 1, c3, A3, by omega, by go_num, rfl, rep_snoc j freshNV ▸ hO90, he90_, ?_, hf90_, ⟨hgx.x, hgx.i, hgx.r, hgx.n, hgx.len, hgx.cap, hgx.big, hgx.byte, row_lowS hgx hB90, hgx.inP⟩, hTx.trans (hB90.mono hwS)⟩
      intro Y hY
      rcases he90 with e_ | e_
      · rw [e_] at hY; exact hne50 Y hY
      · rw [e_] at hY; have h2 := (Array.getElem?_eq_some_iff.1 hex).1; rw [List.mem_singleton.1 hY]; omega
    obtain rfl : j = n := by omega
    have j1 : ¬ (j : Int) < (j : Int) := by omega
    obtain ⟨gB, rfl, hgB, hgBl⟩ := gown_some shN ho50 (by omega)
    have hgne : gB ≠ S + 1 := hne50 gB (by simp [ownL])
    have hlt := (Array.getElem?_eq_some_iff.1 hf50).1
    obtain ⟨c0, c1, c2_, c3, c4⟩ := cells5' hf50
    have hro_ : (List.replicate j freshNV)[a]? = some freshNV := by rw [List.getElem?_replicate, if_pos han]
    have k0 : (a : Int) < (j : Int) := by omega
    have k1 : j ≤ c2 := GOwn.cap ho50
    obtain ⟨z0, zf⟩ := gown_cell shN (GOwn.to ho50 (below_alloc1 wr (.cells #[.bool g.x, .int .i64 g.i, .bool g.r, .int .i64 g.n, .slice g.a g.m g.c] 34))) hro_ (j := 0) rfl
    rw [Nat.add_zero] at z0 zf
    go_upto_region 11 with fail
    clear hlt c0 c1 c2_ c3 c4 z0 zf k0 k1
    obtain ⟨w60, hw60⟩ : ∃ w_, wr.setCell ⟨gB, a * 7, none⟩ (.slice (some ⟨wr.heap.size, 0, none⟩) 1 1) = w_ := ⟨_, rfl⟩
    have hG : wr.grownBy w60 (some gB) := by rw [← hw60]; exact grown_setAt _ _ _ _
    have hs60 : w60.heap.size = wr.heap.size := by rw [← hw60]; simp [World.setCell]
    have Hs60 := Lib.hid hs60
    have ho60 : NOwn w60 S (some ⟨gB, 0, none⟩) j c2 ((List.replicate j freshNV).set a ⟨some ⟨wr.heap.size, 0, none⟩, 1, 1, none, 0, 0, newV, none, 0, 0⟩) := by rw [← hw60, ← Nat.add_zero (a * 7)]; exact gown_set1 shN ho50 hro_ rfl (by decide)
    have hg60 : FIs w60 (fun b => b < S) g M := FIs.grow hg50 hG (by omega)
    have he60 : w60.heap[S + 1]? = some (.cells #[] 41) := other_g hG he50 (fun e_ => hgne e_.symm)
    have hT60 : Below w.heap.size w w60 := below_g hT50 hG (by omega)
    rw [hw60]
    clear hw60 hs60
    obtain ⟨w61, hw61⟩ : ∃ w_, w60.alloc (.cells #[.bool g.x, .int .i64 g.i, .bool g.r, .int .i64 g.n, .slice g.a g.m g.c] 34) = w_ := ⟨_, rfl⟩
    have hB61 : Below w60.heap.size w60 w61 := by rw [← hw61]; exact below_alloc1 _ _
    have hq61 : FSl w61 (Out [S + 1, gB]) (some ⟨wr.heap.size, 0, none⟩) 1 1 [M] := by rw [← hw61, ← Hs60.out]; exact fsl_lit10 (hg60.mono (fun b _ hb Y hY => by simp at hY; rcases hY with rfl | rfl <;> omega)) (fun Y hY => by rw [Hs60.out]; simp at hY; rcases hY with rfl | rfl <;> omega)
    have ho61 := GOwn.to ho60 hB61
    have hm61 : NSl w61 (Out ([] ++ ownL (some ⟨S + 1, 0, none⟩))) (some ⟨gB, 0, none⟩) j c2 (brokN j a M 0) := brok_zero j a M han ▸ (NSl.mk (by simp) (GOwn.cap ho50) (by unfold maxLen; omega) ⟨_, GRow.own shN ho61, AllIs.set (AllIs.rep nis_fresh j) a (nis_lit10 (hq61.mono (fun b _ hb Y hY => hb Y (by simp [ownL] at hY; subst hY; simp))))⟩ (fun _ ad e => by obtain rfl := Option.some.inj e; intro Y hY; simp [ownL] at hY; subst hY; exact hgne))
    have he61 := block_below hB61 he60
    have hT61 : Below w.heap.size w w61 := below_then hT60 hB61
    have hb61 : S + 2 ≤ w61.heap.size := by have h1 := (Array.getElem?_eq_some_iff.1 he61).1; omega
    have hh61 : GOwn HV.cs 1 41 w61 S (some ⟨S + 1, 0, none⟩) 0 0 [] := ⟨by simp [gcells], .inr ⟨S + 1, 0, _, rfl, by omega, he61, Nat.zero_le _, by decide, by simp, by simp [gcells]⟩⟩
    rw [hw61]
    clear hw61 hG hq61 ho61 ho60 hg60 hro_ he60 he61 hT60 hB61 hT50 ho50 he50 hne50 hf50 hg50 hS2 hgB hgBl hgne
    have Han := Lib.hid han
    go_wp2_with fail
    go_loopw [9, 13] (fun o i wr => ∃ (i0 c3 : Nat) (A3 : Option Addr) (hs : List HV), i0 ≤ 31 ∧ i = .int .i64 i0 ∧ o = .slice A3 i0 c3 ∧ GOwn HV.cs 1 41 wr S A3 i0 c3 hs ∧ AllIs (HIs wr (Out ([] ++ ownL A3))) hs (List.replicate i0 [(a : Int)]) ∧ NSl wr (Out ([] ++ ownL A3)) (some ⟨gB, 0, none⟩) j c2 (brokN j a M 0) ∧ S + 2 ≤ wr.heap.size ∧ Below w.heap.size w wr) (fun _ i _ => 31 - (intOf i).toNat)
    case atStart => exact ⟨0, 0, _, [], by decide, rfl, rfl, hh61, AllIs.nil, hm61, hb61, hT61⟩
    case round =>
      clear hh61 hm61 hb61 hT61
      skip
      obtain ⟨i0, c3, A3, hs, hi0, rfl, rfl, hh70, hA70, hm70, hb70, hT70⟩ := hrel
      obtain ⟨w70, e_⟩ : ∃ w_, w_ = wr := ⟨_, rfl⟩
      subst e_
      by_cases hlt : i0 < 31
      · skip
        have j1 : (i0 : Int) < 31 := by omega
        obtain ⟨w71, hw71⟩ : ∃ w_, w70.alloc (.cells #[.int .i64 (a : Int)] 3) = w_ := ⟨_, rfl⟩
        have hB71 : Below w70.heap.size w70 w71 := by rw [← hw71]; exact below_alloc1 _ _
        have hi71 : w71.heap[w70.heap.size]? = some (.cells #[.int .i64 (a : Int)] 3) := by rw [← hw71]; exact World.alloc_heap_new _ _
        have hs71 : w71.heap.size = w70.heap.size + 1 := by rw [← hw71]; simp
        have Hs71 := Lib.hid hs71
        clear hs71
        have hOx : GOwn HV.cs 1 41 (w71.alloc (.cells #[.slice (some ⟨w70.heap.size, 0, none⟩) 1 1] 41)) S A3 i0 c3 hs := GOwn.to (GOwn.to hh70 hB71) (below_alloc1 _ _)
        have hSx : S ≤ (w71.alloc (.cells #[.slice (some ⟨w70.heap.size, 0, none⟩) 1 1] 41)).heap.size := by have h1 := (below_alloc1 w71 (.cells #[.slice (some ⟨w70.heap.size, 0, none⟩) 1 1] 41)).size; have h2 := hB71.size; omega
        have hBx := below_then hB71 (below_alloc1 w71 (.cells #[.slice (some ⟨w70.heap.size, 0, none⟩) 1 1] 41))
        have hTx := below_then hT70 hBx
        have hix := block_below (below_alloc1 w71 (.cells #[.slice (some ⟨w70.heap.size, 0, none⟩) 1 1] 41)) hi71
        have hAx : AllIs (HIs (w71.alloc (.cells #[.slice (some ⟨w70.heap.size, 0, none⟩) 1 1] 41)) (Out ([] ++ ownL A3))) hs (List.replicate i0 [(a : Int)]) := hA70.imp fun _ _ x => x.to hBx
        have hmx := NSl.to hm70 hBx
        have hnx : HIs (w71.alloc (.cells #[.slice (some ⟨w70.heap.size, 0, none⟩) 1 1] 41)) (Out ([] ++ ownL A3)) (⟨some ⟨w70.heap.size, 0, none⟩, 1, 1⟩ : HV) [(a : Int)] := his_lit10 (W := w70) (a : Int) hix (fun Y hY => Nat.ne_of_gt (gown_lt hh70 Y (by simpa using hY)))
        go_wp2_with (at_builtin; refine wpList_append_g shH Tryz.infoH _ rfl _ _ rfl S A3 i0 c3 hs rfl hOx _ 1 _ _ [(⟨some ⟨w70.heap.size, 0, none⟩, 1, 1⟩ : HV)] rfl rfl (GRow.lit w71 [(⟨some ⟨w70.heap.size, 0, none⟩, 1, 1⟩ : HV)] rfl (by first | rfl | exact Hs71.out.symm | exact Hs71.out)) (by omega) hSx ?_; intro A4 c4 w90 hO90 hc90 hg90 he90 hB90)
        go_round
        case measure => simp [intOf]; omega
        exact ⟨i0 + 1, c4, A4, _, by omega, by go_num, rfl, hO90, rep_snoc i0 [(a : Int)] ▸ hiss_app9 (AllIs.append hAx (AllIs.one hnx)) hg90 he90, nsl_app9 hmx hg90 he90, Nat.le_trans hb70 (Nat.le_trans hBx.size hB90.size), hTx.trans (hB90.mono hwS)⟩
      obtain rfl : i0 = 31 := by omega
      have j1 : ¬ ((31 : Nat) : Int) < 31 := by decide
      have hH70 := (hsl_own10 hh70 hA70)
      clear hh70 hA70 hb70
      have HOk := Lib.hid (brok_ok HMr.out Han.out)
      have j2 : ¬ (31 : Int) < 31 := by decide
      go_wp2_with fail
      refine (slots_c (P := (fun _ => True)) (hm70.mono (fun _ _ _ => trivial)) HOk.out (by omega) hn8 hH70 (by decide) (rep_le31 a) (fun _ _ => trivial)).mono ?_
      rintro e w71 ⟨A5, B5, c5, d5, rfl, hm_, -, hB71⟩
      rw [brok_slotsN M Han.out] at hm_
      have hT71 := below_then hT70 hB71
      have hH71 := HSl.to hH70 hB71
      clear hT70 hm70 hH70 hB71 HOk
      obtain ⟨ad, x, ea_, hx_, hX_⟩ := NSl.at_ hm_ (k := a) Han.out
      subst ea_
      have hX2 : NIs w71 (fun _ => True) x ⟨[M], [], ⟨248, 0, 2, 0⟩, []⟩ := brok_at31 M Han.out ▸ hX_
      obtain ⟨qa, qm, qc, la, lm, lc, kv, ga, gm, gc⟩ := x
      obtain rfl : kv = ⟨248, 0, 2, 0⟩ := hX2.k
      clear hX_ hX2
      obtain ⟨t0, t1, t2, t3, t4, t5, t6⟩ := hx_
      dsimp only at t0 t1 t2 t3 t4 t5 t6
      obtain ⟨ad3, y, ea_, hy_, hY_⟩ := HSl.at_ hH71 (k := 0) (by decide)
      subst ea_
      rw [Nat.zero_mul, add_zero] at hy_
      have hY2 : HIs w71 _ y [(a : Int)] := hY_
      obtain ⟨ya, ym, yc⟩ := y
      obtain rfl : ym = 1 := hY2.len.symm
      dsimp only at hy_
      have k0 : (a : Int) < (j : Int) := by have := Han.out; omega
      go_wp2_with fail
      clear t0 t1 t2 t3 t4 t5 t6 hy_
      obtain ⟨T1, hT1_⟩ : ∃ T_, toldN lenZ (brokN j a M 31) [(a : Int)] = T_ := ⟨_, rfl⟩
      have HT1 := Lib.hid hT1_
      clear hT1_
      refine (slot_c (P := (fun _ => True)) hm_ (brok_ok31 HMr.out Han.out (by decide)) (by omega) hn8 hY2.row hY2.len (Nat.le_of_ble_eq_true rfl) (fun _ _ => trivial) _ (brok_slot M Han.out (by decide)) T1 HT1.out).mono ?_
      rintro e w72 ⟨A6, c6, t1, rfl, hu_, -, hB72⟩
      have hT72 := below_then hT71 hB72
      clear hT71 hB72 hm_ hH71 hY_ hY2
      go_upto_region 19 with fail
      obtain ⟨w73, hw73⟩ : ∃ w_, w72.alloc (.cells #[.int .i64 t1.w, .bool t1.f.x, .int .i64 t1.f.i, .bool t1.f.r, .int .i64 t1.f.n, .slice t1.f.a t1.f.m t1.f.c, .bool t1.ok, .int .i64 t1.b] 36) = w_ := ⟨_, rfl⟩
      have hB73 : Below w72.heap.size w72 w73 := by rw [← hw73]; exact below_alloc1 _ _
      rw [hw73]
      clear hw73
      have hT73 := below_then hT72 hB73
      have hu73 := NSl.to hu_ hB73
      clear hT72 hu_ hB73
      go_wp2_with fail
      have HT2 := Lib.hid (told_none (Ns := brokN j a M 32) [] (by rw [brok_off]; decide))
      refine (slot_c (P := (fun _ => True)) (wa := none) (wn := 0) (wcp := 0) (H := []) hu73 (brok_ok31 HMr.out Han.out (by decide)) (by omega) hn8 (.inl rfl) rfl (by decide) (fun _ _ => trivial) _ rfl _ HT2.out).mono ?_
      rintro e w74 ⟨A7, c7, t2, rfl, hv_, ht_, hB74⟩
      have hT74 := below_then hT73 hB74
      have hu74 := NSl.to hu73 hB74
      clear hT73 hu73 hB74
      obtain ⟨tw, tf, tok, tb⟩ := t2
      obtain rfl : tw = -1 := ht_.win
      clear ht_ hv_
      go_upto_region 21 with fail
      obtain ⟨w75, hw75⟩ : ∃ w_, w74.alloc (.cells #[.int .i64 (-1), .bool tf.x, .int .i64 tf.i, .bool tf.r, .int .i64 tf.n, .slice tf.a tf.m tf.c, .bool tok, .int .i64 tb] 36) = w_ := ⟨_, rfl⟩
      have hB75 : Below w74.heap.size w74 w75 := by rw [← hw75]; exact below_alloc1 _ _
      have hz75 : w75.heap[w74.heap.size]? = some (.cells #[.int .i64 (-1), .bool tf.x, .int .i64 tf.i, .bool tf.r, .int .i64 tf.n, .slice tf.a tf.m tf.c, .bool tok, .int .i64 tb] 36) := by rw [← hw75]; exact World.alloc_heap_new _ _
      rw [hw75]
      clear hw75
      have hT75 := below_then hT74 hB75
      have hu75 := NSl.to hu74 hB75
      clear hT74 hu74 hB75
      obtain ⟨c0, c1_, c2_, c3_, c4_, c5_, c6_, c7_⟩ := cells8' hz75
      have hlz := (Array.getElem?_eq_some_iff.1 hz75).1
      go_wp2_with fail
      clear c0 c1_ c2_ c3_ c4_ c5_ c6_ c7_ hlz hz75
      go_loopw [20] (fun i wr => ∃ (i1 : Nat), i1 ≤ j ∧ i = .int .i64 i1 ∧ NSl wr (fun _ => True) A6 j c6 (brokN j a M 32) ∧ Below w.heap.size w wr) (fun i _ => j - (intOf i).toNat)
      case atStart => exact ⟨0, Nat.zero_le _, rfl, hu75, hT75⟩
      case round =>
        clear hu75 hT75
        obtain ⟨i1, hi1, rfl, hu80, hT80⟩ := hrel
        by_cases hlt : i1 < j
        rotate_left
        · skip
          obtain rfl : i1 = j := by omega
          have j1 : ¬ (i1 : Int) < (i1 : Int) := by omega
          go_wp2_with fail
          go_ret
          exact ⟨rfl, hT80⟩
        have j1 : (i1 : Int) < (j : Int) := by omega
        obtain ⟨ad4, x, ea_, hx_, hX_⟩ := NSl.at_ hu80 hlt
        subst ea_
        rw [show (brokN j a M 32).getD i1 zeroN = _ from brok_at32 M hlt] at hX_
        obtain ⟨qa, qm, qc, la, lm, lc, kv, ga, gm, gc⟩ := x
        by_cases e : i1 = a
        · skip
          rw [if_pos e] at hX_
          subst e
          obtain rfl : kv = ⟨256, 0, 3, 0⟩ := hX_.k
          obtain rfl : qm = 1 := hX_.q.len.symm
          clear hX_
          obtain ⟨t0, t1, t2, t3, t4, t5, t6⟩ := hx_
          dsimp only at t0 t1 t2 t3 t4 t5 t6
          go_wp2_with fail
          clear t0 t1 t2 t3 t4 t5 t6
          go_round
          case measure => simp [intOf]; omega
          exact ⟨i1 + 1, by omega, by go_num, hu80, hT80⟩
        rw [if_neg e] at hX_
        obtain rfl : kv = ⟨0, 32, 1, 0⟩ := hX_.k
        obtain rfl : gm = 0 := hX_.g.len.symm
        have d1 : ¬ (i1 : Int) = (a : Int) := by omega
        have d2 : ((i1 : Int) == (a : Int)) = false := by simpa using d1
        have d3 : (i1 == a) = false := by simpa using e
        have d4 : ((i1 : Int) != (a : Int)) = true := by simpa [bne] using d1
        have d5 : (i1 != a) = true := by simpa [bne] using e
        clear hX_
        obtain ⟨t0, t1, t2, t3, t4, t5, t6⟩ := hx_
        dsimp only at t0 t1 t2 t3 t4 t5 t6
        go_wp2_with fail
        clear t0 t1 t2 t3 t4 t5 t6
        go_round
        case measure => simp [intOf]; omega
        exact ⟨i1 + 1, by omega, by go_num, hu80, hT80⟩
end Go.Proofs.YtcifjccojmfpaaaGreat

