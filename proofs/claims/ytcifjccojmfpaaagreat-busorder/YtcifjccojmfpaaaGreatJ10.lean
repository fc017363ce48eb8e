/-
  NqM · NqL.
-/
import Derived.Test.YtcifjccojmfpaaaGreatJ0
import Derived.Test.YtcifjccojmfpaaaGreatJ1
import Derived.Test.YtcifjccojmfpaaaGreatJ2
import Derived.Test.YtcifjccojmfpaaaGreatJ3
import Derived.Test.YtcifjccojmfpaaaGreatJ4
import Derived.Test.YtcifjccojmfpaaaGreatJ5
import Derived.Test.YtcifjccojmfpaaaGreatJ8
import Derived.Test.YtcifjccojmfpaaaGreatJ9
set_option maxRecDepth 100000
set_option maxHeartbeats 4000000
namespace Go.Proofs.YtcifjccojmfpaaaGreat
open Go.RowKit
set_option linter.unusedVariables false
set_option linter.unusedSimpArgs false
theorem alone_tolds (F : FC) (n : Nat) : ∀ j, toldsTo (aloneN F 0) (List.replicate n []) j = List.replicate j ⟨0, F, false, lenZ F + 23⟩
  | 0 => rfl
  | j + 1 => by rw [toldsTo, alone_slots F n j, getD_rep, alone_told, alone_tolds F n j, List.replicate_succ']
theorem brok_slots {n a : Nat} (F : FC) (ha : a < n) {M : Nat} (hM : M ≤ 32) : ∀ j, j ≤ M → slotsTo (brokN n a F 0) (List.replicate M [(a : Int)]) j = brokN n a F j
  | 0, _ => rfl
  | j + 1, h => by rw [slotsTo, brok_slots F ha hM j (by omega), getD_repA (by omega), brok_slot F ha (by omega)]
theorem brok_off {n a : Nat} (F : FC) : winN (brokN n a F 32) = -1 := by
  apply win_none
  intro i hi
  rw [brok_len] at hi
  rw [brok_at a F 32 hi]
  by_cases e : i = a
  · subst e; unfold brokAt; rw [if_pos rfl, show brokV 32 = ⟨256, 0, 3, 0⟩ by decide]; rfl
  · exact brok_no F 32 e
theorem brok_ok {n a : Nat} {F : FC} (hF : rightC F = true) (ha : a < n) : OkNs (brokN n a F 0) := by
  refine ⟨fun N hN => ?_⟩
  simp only [brokN, List.mem_map, List.mem_range] at hN
  obtain ⟨i, hi, rfl⟩ := hN
  unfold brokAt
  split
  · exact ⟨fun G hG => by simp at hG; subst hG; exact hF, by simp, by simp, by simp, by simp, by simp, by rw [show brokV 0 = newV by decide]; exact ok_new⟩
  · exact ⟨by simp, by simp, by simp, by simp, by simp, by simp, by rw [show mkC 0 ((0 : Nat) : Int) = newV by decide]; exact ok_new⟩
theorem alone_ok0 {F : FC} (hF : rightC F = true) : OkNs (aloneN F 0) := by
  refine ⟨fun N hN => ?_⟩
  simp only [aloneN, List.mem_singleton] at hN
  subst hN
  exact ⟨fun G hG => by simp at hG; subst hG; exact hF, by simp, by simp, by simp, by simp, by simp, by rw [show aloneV 0 = newV by decide]; exact ok_new⟩
theorem step_new6 : stepV newV 6 = newV := by decide
theorem win_min {Ns : List NC} (h : Apt Ns) (hw0 : 0 ≤ winN Ns) {i : Nat} (hi : i < Ns.length) {F : FC} (hF : F ∈ (nd Ns i).q) : lessC F (winF Ns) = false := by
  rcases winN_cases Ns with ⟨h1, _⟩ | ⟨a, ha, hw, hh, hf, hm⟩
  · omega
  have hs : hasN (nd Ns i) = true := by
    unfold hasN
    rw [h.k i hi, decide_eq_true (by decide), decide_eq_true (List.ne_nil_of_mem hF)]; rfl
  obtain ⟨k, hk, e⟩ := List.getElem_of_mem hF
  have h1 := leastTo_min (nd Ns i).q (nd Ns i).q.length k hk
  rw [show (nd Ns i).q.getD k zeroF = F by rw [List.getD, List.getElem?_eq_getElem hk, e]; rfl] at h1
  have h2 := hm i hi hs
  unfold nextF at h2
  rw [if_pos hs] at h2
  rw [hf]
  exact lessC_not h1 h2
theorem apt_run {Ns : List NC} (h : Apt Ns) (M : Nat) : ∀ k, k ≤ manyQ Ns → AptRun Ns M k
  | 0, _ => ⟨h, by show manyQ Ns + 0 = _; omega⟩
  | k + 1, hk => by
    have ih := apt_run h M k (by omega)
    have hw : 0 ≤ winN (slotsTo Ns (List.replicate M []) k) := by
      have h1 := many_win ih.apt
      have h2 := ih.many
      by_cases e : winN (slotsTo Ns (List.replicate M []) k) < 0
      · have := h1.1 e; omega
      · omega
    refine ⟨?_, ?_⟩
    · rw [slotsTo, getD_rep]; exact apt_slot ih.apt hw
    · rw [slotsTo, getD_rep]
      have := apt_many ih.apt hw
      have := ih.many
      omega
theorem apt_win {Ns : List NC} (h : Apt Ns) (M : Nat) {k : Nat} (hk : k < manyQ Ns) : 0 ≤ winN (slotsTo Ns (List.replicate M []) k) := by
  have ih := apt_run h M k (by omega)
  have h1 := many_win ih.apt
  have h2 := ih.many
  by_cases e : winN (slotsTo Ns (List.replicate M []) k) < 0
  · have := h1.1 e; omega
  · omega
theorem tolds_at (Ns : List NC) (M : Nat) : ∀ (n k : Nat), k < n → (toldsTo Ns (List.replicate M []) n)[k]? = some (toldK Ns M k)
  | 0, k, h => by omega
  | n + 1, k, h => by
    rw [toldsTo, getD_rep]
    have hl := toldsTo_len Ns (List.replicate M []) n
    by_cases e : k < n
    · rw [List.getElem?_append_left (by omega)]; exact tolds_at Ns M n k e
    · obtain rfl : k = n := by omega
      rw [List.getElem?_append_right (by omega), hl]
      simp [toldK]
theorem apt_told {Ns : List NC} (h : Apt Ns) (M : Nat) {k : Nat} (hk : k < manyQ Ns) :
    ∃ a : Nat, a < Ns.length ∧ (toldK Ns M k).ok = true ∧ (toldK Ns M k).w = a ∧ (toldK Ns M k).f.i % 8 = a ∧ rightC (toldK Ns M k).f = true := by
  have ih := apt_run h M k (by omega)
  have hw := apt_win h M hk
  have hl := slotsTo_len Ns (List.replicate M []) k
  unfold toldK
  rw [told_some _ hw]
  rcases winN_cases (slotsTo Ns (List.replicate M []) k) with ⟨h1, _⟩ | ⟨a, ha, h1, h2, h3, h4⟩
  · omega
  · exact ⟨a, by omega, apt_ok ih.apt ha h1 h3 h2, h1, by show (winF _).i % 8 = _; rw [h3]; exact ih.apt.id a ha _ (List.mem_of_getElem? (nextF_mem h2).2), winF_right ih.apt.ok hw⟩
theorem apt_less {Ns : List NC} (h : Apt Ns) (M : Nat) {k : Nat} (hk : k + 1 < manyQ Ns) : lessC (toldK Ns M (k + 1)).f (toldK Ns M k).f = false := by
  have ih := apt_run h M k (by omega)
  have hw := apt_win h M (show k < manyQ Ns by omega)
  have ih2 := apt_run h M (k + 1) (by omega)
  have hw2 := apt_win h M hk
  unfold toldK
  rw [told_some _ hw, told_some _ hw2]
  show lessC (winF (slotsTo Ns (List.replicate M []) (k + 1))) (winF (slotsTo Ns (List.replicate M []) k)) = false
  rcases winN_cases (slotsTo Ns (List.replicate M []) k) with ⟨h1, _⟩ | ⟨a, ha, h1, h2, h3, h4⟩
  · omega
  rcases winN_cases (slotsTo Ns (List.replicate M []) (k + 1)) with ⟨g1, _⟩ | ⟨b, hb, g1, g2, g3, g4⟩
  · omega
  rw [g3]
  have hm := List.mem_of_getElem? (nextF_mem g2).2
  have hb2 := hb
  rw [slotsTo, getD_rep] at hm hb2 ⊢
  rw [slotN_len] at hb2
  rw [(apt_at ih.apt ha h1 h3 h2 hb2).2] at hm
  refine win_min ih.apt hw hb2 ?_
  split at hm
  · rename_i e; subst e; exact List.mem_of_mem_eraseIdx hm
  · exact hm
theorem apt_last {Ns : List NC} (h : Apt Ns) (M : Nat) : (toldK Ns M (manyQ Ns)).w = -1 ∧
    ∀ i, i < Ns.length → (nd (slotsTo Ns (List.replicate M []) (manyQ Ns + 1)) i).q = [] ∧ (nd (slotsTo Ns (List.replicate M []) (manyQ Ns + 1)) i).k = newV := by
  have ih := apt_run h M (manyQ Ns) (Nat.le_refl _)
  have h0 : manyQ (slotsTo Ns (List.replicate M []) (manyQ Ns)) = 0 := by have := ih.many; omega
  have hw := (many_win ih.apt).2 h0
  have hl := slotsTo_len Ns (List.replicate M []) (manyQ Ns)
  refine ⟨?_, fun i hi => ?_⟩
  · unfold toldK; rw [told_none _ hw]
  · rw [slotsTo, getD_rep, slotN_at _ (by omega), if_pos hw]
    unfold quietN
    refine ⟨many_zero h0 (by omega), ?_⟩
    rw [ih.apt.k i (by omega)]
    exact step_new6
end Go.Proofs.YtcifjccojmfpaaaGreat

namespace Go.Proofs.YtcifjccojmfpaaaGreat
open Go.RowKit
set_option linter.unusedVariables false
set_option linter.unusedSimpArgs false
theorem refNew_lit2 (w : World) : Calls Tryz.prog 29 #[] w fun e w' => e = .returned (.agg #[.int .i64 0, .int .i64 0, .int .i64 1, .int .i64 0]) ∧ Below w.heap.size w w' := refNew_any w
theorem w64_u8 (n : Nat) (h : n < 256) : wrap64 (n : Int) = (n : Int) := by unfold wrap64; omega
theorem his_zero {w : World} {P : Nat → Prop} : HIs w P zeroHV [] := ⟨rfl, by decide, .inl rfl, fun h => absurd h (by decide)⟩
theorem his_rep {w : World} {P : Nat → Prop} (n : Nat) : AllIs (HIs w P) (List.replicate n zeroHV) (List.replicate n []) := by
  refine ⟨by simp, fun k v c h1 h2 => ?_⟩
  rw [List.getElem?_replicate] at h1 h2
  split at h1
  · rename_i hk
    rw [if_pos hk] at h2
    obtain rfl := Option.some.inj h1
    obtain rfl := Option.some.inj h2
    exact his_zero
  · cases h1
theorem hsl_make {W : World} {P : Nat → Prop} (n : Nat) : HSl (W.alloc (.cells (gcells HV.cs (List.replicate n zeroHV)).toArray 41)) P (some ⟨W.heap.size, 0, none⟩) n n (List.replicate n []) :=
  ⟨by simp, Nat.le_refl _, ⟨List.replicate n zeroHV, GRow.lit (cs := HV.cs) W _ rfl rfl, his_rep n⟩⟩
theorem Tryz.makeH (n : Nat) (hn : n ≤ 1000) (w : World) : (Instr.makeSlice 23 (.int .i64 n) (.int .i64 n)).run Tryz.prog w = .ok (.slice (some ⟨w.heap.size, 0, none⟩) n n) (w.alloc (.cells (gcells HV.cs (List.replicate n zeroHV)).toArray 41)) :=
  run_make_g shH zeroHV Tryz.underlying23 (bytes := 24) ⟨.agg #[.slice none 0 0], by kernel_rfl, by kernel_rfl⟩ (by decide) n hn w
theorem fsl_lit10 {W : World} {P : Nat → Prop} {g : FV} {F : FC} (h : FIs W P g F) (hP : P W.heap.size) : FSl (W.alloc (.cells #[.bool g.x, .int .i64 g.i, .bool g.r, .int .i64 g.n, .slice g.a g.m g.c] 34)) P (some ⟨W.heap.size, 0, none⟩) 1 1 [F] :=
  ⟨rfl, Nat.le_refl _, by decide, ⟨[g], FRow.lit1 W g rfl, FsIs.one (h.to (below_alloc1 _ _))⟩, fun _ ad e => by obtain rfl := Option.some.inj e; exact hP⟩
theorem nsl_lit10 {W : World} {P : Nat → Prop} {m : NV} {N : NC} (h : NIs W P m N) (hP : P W.heap.size) : NSl (W.alloc (.cells #[.slice m.qa m.qm m.qc, .slice m.la m.lm m.lc, .int .i64 m.k.t, .int .i64 m.k.r, .int .i64 m.k.s, .int .i64 m.k.q, .slice m.ga m.gm m.gc] 49)) P (some ⟨W.heap.size, 0, none⟩) 1 1 [N] :=
  ⟨rfl, Nat.le_refl _, by decide, ⟨[m], GRow.lit (cs := NV.cs) W [m] rfl rfl, AllIs.one (h.to (below_alloc1 _ _))⟩, fun _ ad e => by obtain rfl := Option.some.inj e; exact hP⟩
theorem nis_lit10 {W : World} {P : Nat → Prop} {A : Option Addr} {n c : Nat} {Fs : List FC} (h : FSl W P A n c Fs) : NIs W P (⟨A, n, c, none, 0, 0, newV, none, 0, 0⟩ : NV) ⟨Fs, [], newV, []⟩ := ⟨h, LSl.none_, rfl, FSl.none_⟩
theorem aloneN_zero (F : FC) : aloneN F 0 = [⟨[F], [], newV, []⟩] := by
  unfold aloneN
  rw [show aloneV 0 = newV by decide]
theorem alone_slotsN (F : FC) (n : Nat) : slotsN [⟨[F], [], newV, []⟩] (List.replicate n []) = aloneN F n := by
  rw [← aloneN_zero]; unfold slotsN; rw [List.length_replicate]; exact alone_slots F n n
theorem alone_toldsN (F : FC) (n : Nat) : toldsN [⟨[F], [], newV, []⟩] (List.replicate n []) = List.replicate n ⟨0, F, false, lenZ F + 23⟩ := by
  rw [← aloneN_zero]; unfold toldsN; rw [List.length_replicate]; exact alone_tolds F n n
theorem alone_okN {F : FC} (h : rightC F = true) : OkNs [⟨[F], [], newV, []⟩] := by rw [← aloneN_zero]; exact alone_ok0 h
theorem getD_rep2 {T z : TC} {n i : Nat} (h : i < n) : (List.replicate n T).getD i z = T := by simp [List.getD, List.getElem?_replicate, h]
theorem alone_k (u : Nat) {k : Nat} (hu : min (k : Int) 16 = (u : Int)) : aloneV k = ⟨8 * (u : Int), 0, if 16 ≤ k then 2 else 1, 0⟩ := by
  have h1 : min k 16 = u := by omega
  apply cv_ext.2
  refine ⟨?_, rfl, aloneV_s k, rfl⟩
  show ((8 * min k 16 : Nat) : Int) = 8 * (u : Int)
  rw [h1]; omega
theorem w64_8 (u : Nat) (h : u ≤ 16) : wrap64 (8 * (u : Int)) = 8 * (u : Int) := by unfold wrap64; omega
theorem wi_8 (u : Nat) (h : u ≤ 16) : IntKind.i64.wrap (8 * (u : Int)) = 8 * (u : Int) := by rw [IntKind.wrap_i64]; omega
section
variable {V : Type} {cs : V → List Value} {sz : Nat} {t : TypeId}
theorem gcells_set1 (S : Shape cs sz) : ∀ (vs : List V) (k : Nat) (v v' : V) (j : Nat) (u : Value), vs[k]? = some v → cs v' = (cs v).set j u → j < sz → gcells cs (vs.set k v') = (gcells cs vs).set (k * sz + j) u
  | [], k, v, v', j, u, h, _, _ => by simp at h
  | x :: vs, 0, v, v', j, u, h, e, hj => by
    simp only [List.getElem?_cons_zero, Option.some.injEq] at h; subst h
    simp only [List.set_cons_zero, gcells, List.flatMap_cons, e, Nat.zero_mul, Nat.zero_add]
    rw [List.set_append_left _ _ (by rw [S.len]; exact hj)]
  | x :: vs, k + 1, v, v', j, u, h, e, hj => by
    have ih := gcells_set1 S vs k v v' j u (by simpa using h) e hj
    simp only [gcells] at ih
    simp only [List.set_cons_succ, gcells, List.flatMap_cons, ih]
    rw [List.set_append_right _ _ (by rw [S.len, Nat.succ_mul]; omega), S.len, show (k + 1) * sz + j - sz = k * sz + j by rw [Nat.succ_mul]; omega]
theorem gown_set1 (S : Shape cs sz) {w : World} {base g n cap : Nat} {vs : List V} (h : GOwn cs sz t w base (some ⟨g, 0, none⟩) n cap vs) {k : Nat} {v v' : V} {j : Nat} {u : Value} (hk : vs[k]? = some v) (e : cs v' = (cs v).set j u) (hj : j < sz) :
    GOwn cs sz t (w.setCell ⟨g, k * sz + j, none⟩ u) base (some ⟨g, 0, none⟩) n cap (vs.set k v') := by
  obtain ⟨h1, h2⟩ := h
  refine ⟨by rw [gcells_set1 S vs k v v' j u hk e hj, List.length_set]; exact h1, ?_⟩
  rcases h2 with ⟨e1, _⟩ | ⟨g', cap', cur, e1, hb, hg, hc, hm, hs, ht⟩
  · cases e1
  · cases e1
    refine .inr ⟨g, cap, cur.setIfInBounds (k * sz + j) u, rfl, hb, ?_, hc, hm, by simpa using hs, ?_⟩
    · rw [heap_setCell_same w g (k * sz + j) _ _ _ hg]
    · rw [Array.toList_setIfInBounds, gcells_set1 S vs k v v' j u hk e hj, ← ht, List.take_set]
theorem gown_cell (S : Shape cs sz) {w : World} {base g n cap : Nat} {vs : List V} (h : GOwn cs sz t w base (some ⟨g, 0, none⟩) n cap vs) {k : Nat} {v : V} (hk : vs[k]? = some v) {j : Nat} {u : Value} (hu : (cs v)[j]? = some u) :
    w.cell? ⟨g, k * sz + j, none⟩ = some u ∧ w.frozen? ⟨g, k * sz + j, none⟩ = false := by
  have hc := h.cells (g := g) rfl (k * sz + j) u (gcells_at S vs k v hk j u hu)
  have e : (⟨g, 0, none⟩ : Addr).add (k * sz + j) = ⟨g, k * sz + j, none⟩ := by unfold Addr.add; split <;> simp_all
  rw [e] at hc
  refine ⟨hc, ?_⟩
  rcases h.2 with ⟨e1, _⟩ | ⟨g', cap', cur, e1, _, hg, _⟩
  · cases e1
  · cases e1
    simp [World.frozen?, hg]
theorem gown_some (S : Shape cs sz) {w : World} {base n c : Nat} {A : Option Addr} {vs : List V} (h : GOwn cs sz t w base A n c vs) (hn : 0 < n) : ∃ g, A = some ⟨g, 0, none⟩ ∧ base ≤ g ∧ g < w.heap.size := by
  rcases h.2 with ⟨e1, e2⟩ | ⟨g, cap, cur, e1, hb, hg, _⟩
  · omega
  · have hA : A = some ⟨g, 0, none⟩ := by injection e1
    exact ⟨g, hA, hb, (Array.getElem?_eq_some_iff.1 hg).1⟩
end
section
variable {V C : Type} {R : V → C → Prop}
theorem AllIs.set {vs : List V} {Cs : List C} (h : AllIs R vs Cs) (k : Nat) {v : V} {c : C} (hv : R v c) : AllIs R (vs.set k v) (Cs.set k c) := by
  refine ⟨by simp [h.1], fun i x y h1 h2 => ?_⟩
  rw [List.getElem?_set] at h1 h2
  split at h1
  · rename_i e
    subst e
    rw [if_pos rfl] at h2
    split at h1
    · rw [if_pos (by rw [← h.1]; assumption)] at h2
      obtain rfl := Option.some.inj h1
      obtain rfl := Option.some.inj h2
      exact hv
    · cases h1
  · rename_i e
    rw [if_neg e] at h2
    exact h.2 i x y h1 h2
theorem AllIs.rep {v : V} {c : C} (h : R v c) (n : Nat) : AllIs R (List.replicate n v) (List.replicate n c) := by
  refine ⟨by simp, fun k x y h1 h2 => ?_⟩
  rw [List.getElem?_replicate] at h1 h2
  split at h1
  · rename_i e
    rw [if_pos e] at h2
    obtain rfl := Option.some.inj h1
    obtain rfl := Option.some.inj h2
    exact h
  · cases h1
end
theorem nis_fresh {W : World} {P : Nat → Prop} : NIs W P freshNV freshN := ⟨FSl.none_, LSl.none_, rfl, FSl.none_⟩
theorem rep_snoc {V : Type} (n : Nat) (v : V) : List.replicate n v ++ [v] = List.replicate (n + 1) v := by rw [List.replicate_succ']
theorem brok_zero (n a : Nat) (F : FC) (ha : a < n) : (List.replicate n freshN).set a ⟨[F], [], newV, []⟩ = brokN n a F 0 := by
  apply nd_ext
  · rw [List.length_set, List.length_replicate, brok_len]
  · intro i hi
    rw [List.length_set, List.length_replicate] at hi
    rw [brok_at a F 0 hi]
    unfold brokAt
    simp only [nd, List.getD, List.getElem?_set, List.length_replicate, List.getElem?_replicate]
    by_cases e : i = a
    · subst e
      rw [if_pos rfl, if_pos rfl, if_pos hi, show brokV 0 = newV by decide]; rfl
    · rw [if_neg e, if_neg (fun h => e h.symm), if_pos hi, show mkC 0 ((0 : Nat) : Int) = newV by decide]; rfl
theorem brok_slotsN {n a : Nat} (F : FC) (ha : a < n) : slotsN (brokN n a F 0) (List.replicate 31 [(a : Int)]) = brokN n a F 31 := by
  unfold slotsN; rw [List.length_replicate]; exact brok_slots F ha (by decide) 31 (Nat.le_refl _)
theorem brok_ok31 {n a : Nat} {F : FC} (hF : rightC F = true) (ha : a < n) {j : Nat} (hj : j ≤ 32) : OkNs (brokN n a F j) := by
  rw [← brok_slots F ha (Nat.le_refl 32) j hj]
  exact slotsTo_ok (brok_ok hF ha) _ _
theorem brok_at31 {n a : Nat} (F : FC) (ha : a < n) : nd (brokN n a F 31) a = ⟨[F], [], ⟨248, 0, 2, 0⟩, []⟩ := by
  rw [brok_at a F 31 ha]; unfold brokAt; rw [if_pos rfl, show brokV 31 = ⟨248, 0, 2, 0⟩ by decide]
theorem brok_at32 {n a i : Nat} (F : FC) (hi : i < n) : nd (brokN n a F 32) i = if i = a then ⟨[F], [], ⟨256, 0, 3, 0⟩, []⟩ else ⟨[], [], ⟨0, 32, 1, 0⟩, []⟩ := by
  rw [brok_at a F 32 hi]; unfold brokAt; rw [show brokV 32 = ⟨256, 0, 3, 0⟩ by decide, show mkC 0 ((32 : Nat) : Int) = ⟨0, 32, 1, 0⟩ by decide]
theorem hsl_own10 {w : World} {base : Nat} {P : Nat → Prop} {A : Option Addr} {n c : Nat} {hs : List HV} {Hs : List (List Int)} (h : GOwn HV.cs 1 41 w base A n c hs) (h' : AllIs (HIs w P) hs Hs) : HSl w P A n c Hs :=
  ⟨by rw [← h'.1]; exact GOwn.len shH h, GOwn.cap h, ⟨hs, GRow.own shH h, h'⟩⟩
theorem his_lit10 {W W' : World} {P : Nat → Prop} {X : Nat} (a : Int) (h : W'.heap[X]? = some (.cells #[.int .i64 a] 3)) (hP : P X) : HIs W' P ⟨some ⟨X, 0, none⟩, 1, 1⟩ [a] := by
  refine ⟨rfl, Nat.le_refl _, .inr ⟨⟨X, 0, none⟩, rfl, (Array.getElem?_eq_some_iff.1 h).1, fun k x hx => ?_⟩, fun _ ad e => by obtain rfl := Option.some.inj e; exact hP⟩
  cases k with
  | zero =>
    simp only [List.getElem?_cons_zero, Option.some.injEq] at hx; subst hx
    rw [add_zero]; exact cells1' h
  | succ k => simp at hx
end Go.Proofs.YtcifjccojmfpaaaGreat

