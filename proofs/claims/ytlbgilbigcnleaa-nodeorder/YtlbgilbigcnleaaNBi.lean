/-
  Iter · Put · Row · Join · Spread · At · Math · Back: what this seat needs of them.
-/
import Derived.Test.YtlbgilbigcnleaaBase
import Derived.RangeFuncBox
import Derived.RangeFuncNested
import Derived.RangeFuncLeaves
import Derived.Shelf.Abstract
import Derived.WalkKit
import Derived.OwnWalkIn
import Derived.TacticsInMore
import Derived.LoopNIn
import Derived.LoopIn
import Derived.Maps.AppendAt
import Derived.Lib.Hide
import Derived.Laws.BitsAllLaws
import Derived.Laws.BitsLemmas
import Derived.WalkSpells
import Derived.WalkLawsBesides
import Derived.Deep.QuietTactic
import Derived.BigQuiet
import Derived.Laws.BytesArg
import Derived.OwnWalk
import Derived.Deep.Draws
namespace Go.Proofs.Ytlbgilbigcnleaa
open Go.RowKit
set_option linter.unusedVariables false
set_option linter.unusedSimpArgs false

open Go.RowKit Go.Shelf
attribute [local go_sem] Oper.semAt_some

theorem bitRow_prefix (n many k : Nat) (h : k ≤ many) : bitRow n many k <+: bitRow n many many := by
  obtain ⟨d, rfl⟩ := Nat.exists_eq_add_of_le h
  refine ⟨(List.range d).map (fun i => bitAt n (k + d) (k + i)), ?_⟩
  simp [bitRow, List.range_add]

/-- The cells at the heads of two blocks are kept. -/
def Kept2 (Bm Bn : Nat) (W W' : World) : Prop := (∀ v, W.cell? ⟨Bm, 0, none⟩ = some v → W'.cell? ⟨Bm, 0, none⟩ = some v) ∧ (∀ v, W.cell? ⟨Bn, 0, none⟩ = some v → W'.cell? ⟨Bn, 0, none⟩ = some v)

theorem Kept2.trans {Bm Bn : Nat} {A B C : World} (h : Kept2 Bm Bn A B) (k : Kept2 Bm Bn B C) : Kept2 Bm Bn A C := ⟨fun v e => k.1 v (h.1 v e), fun v e => k.2 v (h.2 v e)⟩

theorem Kept2.putObj {Bm Bn : Nat} (W : World) (l : Nat) (o o' : Obj) (h : W.heap[l]? = some o) (ho : o.isCells = false) : Kept2 Bm Bn W (W.putObj l o') :=
  ⟨fun _ e => cell_kept e (grownBy_putObj' W l o') (fun r er => by cases er; exact ⟨_, h, ho⟩), fun _ e => cell_kept e (grownBy_putObj' W l o') (fun r er => by cases er; exact ⟨_, h, ho⟩)⟩

theorem Kept2.boxed {Bm Bn : Nat} {W W' : World} {t t' u u' : TypeId} {x y : Value} (h1 : Boxed W Bm t x) (h2 : Boxed W Bn u y) (h3 : Boxed W' Bm t' x) (h4 : Boxed W' Bn u' y) : Kept2 Bm Bn W W' :=
  ⟨fun v e => by rw [h1.cell] at e; rw [h3.cell]; exact e, fun v e => by rw [h2.cell] at e; rw [h4.cell]; exact e⟩

set_option maxRecDepth 100000 in
set_option maxHeartbeats 1000000 in
theorem shifts1_in (F : Fence) (n : Nat) (h6 : F.fn 97) (hro : F.round = none) (hn : 1 ≤ n) (l Bm Bn : Nat) (num many : Nat) (hm : many ≤ 63) (hnum : num < 4611686018427387904) (J Jx : List Int → World → Prop)
    (hY : ∀ pre x W, J pre W → pre.length < many → YieldAt F (n - 1) Try.prog l #[.int .i64 x] W fun e W' =>
      (e = .returned (.bool true) ∧ J (pre ++ [x]) W' ∧ Kept2 Bm Bn W W') ∨ (e = .returned (.bool false) ∧ Jx (pre ++ [x]) W'))
    (W : World) (hcm : W.cell? ⟨Bm, 0, none⟩ = some (.int .i64 many)) (hcn : W.cell? ⟨Bn, 0, none⟩ = some (.int .i64 num)) (h0 : J [] W) :
    CallsIn F n Try.prog 97 #[.func (.yield l) #[] #[], .pointer (some ⟨Bm, 0, none⟩), .pointer (some ⟨Bn, 0, none⟩)] W fun e W' => (∃ v, e = .returned v) ∧
      ((∃ ys, ys = bitRow num many many ∧ J ys W') ∨ (∃ pre, pre <+: bitRow num many many ∧ Jx pre W')) := by
  refine callsIn_of_wp Try.func97 rfl h6 ?_ hro
  simp only [Try.ntmps97, List.size_toArray, List.length_cons, List.length_nil, Nat.reduceAdd, Nat.reduceSub, Array.replicate_succ, Array.replicate_zero, List.push_toArray, List.append_toArray, List.nil_append, List.cons_append]
  gi_wp2
  gi_loopw [4] (fun p wr => ∃ k : Nat, k ≤ many ∧ p = .int .i64 ((many : Int) - 1 - k) ∧ wr.cell? ⟨Bm, 0, none⟩ = some (.int .i64 many) ∧ wr.cell? ⟨Bn, 0, none⟩ = some (.int .i64 num) ∧ J (bitRow num many k) wr)
    (fun p _ => (intOf p + 1).toNat)
  case atStart => exact ⟨0, Nat.zero_le _, by simp, hcm, hcn, h0⟩
  case round =>
    obtain ⟨k, hk, rfl, hm1, hn1, hJ⟩ := hrel
    by_cases hlt : k < many
    · have hb := bits_one num (many - 1 - k) hnum
      have hr : bitRow num many (k + 1) = bitRow num many k ++ [bitAt num many k] := by simp [bitRow, List.range_succ]
      have Hr := Lib.hid hr
      clear hr
      have hx : bits .and .i64 ((num : Int) / 2 ^ (many - 1 - k)) 1 = bitAt num many k := hb
      clear hb
      obtain ⟨fn, tmps, assign, body, hy, hR⟩ := hY (bitRow num many k) (bitAt num many k) wr hJ (by simp [bitRow]; exact hlt)
      gi_wp2
      refine hR.mono ?_
      rintro e W3 (⟨rfl, hJ3, hk3⟩ | ⟨rfl, hJx3⟩)
      · have hm3 : W3.cell? ⟨Bm, 0, none⟩ = some (.int .i64 many) := hk3.1 _ hm1
        have hn3 : W3.cell? ⟨Bn, 0, none⟩ = some (.int .i64 num) := hk3.2 _ hn1
        gi_wp2
        go_roundw
        case rel => exact ⟨k + 1, by omega, by go_num, hm3, hn3, by rw [Hr.out]; exact hJ3⟩
        case measure => simp [intOf]; omega
      · gi_wp2
        refine bodyPost_ret (results_none rfl _ _ _) rfl ?_
        exact ⟨⟨_, rfl⟩, .inr ⟨_, by rw [← Hr.out]; exact bitRow_prefix num many (k + 1) (by omega), hJx3⟩⟩
    · obtain rfl : k = many := by omega
      gi_wp2
      go_end0
      exact ⟨⟨_, rfl⟩, .inl ⟨_, rfl, hJ⟩⟩

set_option maxHeartbeats 1000000 in
theorem shifts_in (F : Fence) (n : Nat) (h5 : F.fn 89) (hro : F.round = none) (num many : Int) (w : World) :
    CallsIn F n Try.prog 89 #[.int .i64 num, .int .i64 many] w fun e w' => e = .returned (.func (.func 97) #[] #[.pointer (some ⟨w.heap.size + 1, 0, none⟩), .pointer (some ⟨w.heap.size, 0, none⟩)]) ∧ w' = (w.alloc (.cells #[.int .i64 num] 3)).alloc (.cells #[.int .i64 many] 3) := by
  refine callsIn_of_wp Try.func89 rfl h5 ?_ hro
  simp only [Try.ntmps89, List.size_toArray, List.length_cons, List.length_nil, Nat.reduceAdd, Nat.reduceSub, Array.replicate_succ, Array.replicate_zero, List.push_toArray, List.append_toArray, List.nil_append, List.cons_append]
  gi_wp2
  go_ret
  exact ⟨rfl, rfl⟩

theorem shifts_stops (F : Fence) (n : Nat) (h6 : F.fn 97) (hro : F.round = none) (hn : 1 ≤ n) (Bm Bn : Nat) (num many : Nat) (hm : many ≤ 63) (hnum : num < 4611686018427387904) (w : World)
    (hbm : Boxed w Bm 3 (.int .i64 many)) (hbn : Boxed w Bn 3 (.int .i64 num)) :
    SeqStopsK F n Try.prog 97 #[.pointer (some ⟨Bm, 0, none⟩), .pointer (some ⟨Bn, 0, none⟩)] (fun x : Int => #[Value.int .i64 x]) (Kept2 Bm Bn) (fun ys => ys = bitRow num many many) (fun pre => pre <+: bitRow num many many) many w := fun l J Jx W hW _ _ hY h0 =>
  shifts1_in F n h6 hro hn l Bm Bn num many hm hnum J Jx hY W ((hW.cell (p := ⟨Bm, 0, none⟩) hbm.lt).trans hbm.cell) ((hW.cell (p := ⟨Bn, 0, none⟩) hbn.lt).trans hbn.cell) h0

/-- Behind 'out = append(out, x)' with room: what the loop's body owes, other boxes too. -/
theorem coll_step {W w1 : World} {n₀ g Bo k m cap : Nat} {t e : TypeId} {v' : Value} {xs ys : List Value} {tmp : Obj}
    (hv : Boxed W Bo t (.slice (some ⟨g, 0, none⟩) k cap)) (hte : t ≠ e) (hrow : W.ownsRow n₀ e 1 (.slice (some ⟨g, 0, none⟩) k cap) k xs) (hn₀ : n₀ ≤ W.heap.size) (hB : n₀ ≤ Bo)
    (hown' : w1.ownsRow n₀ e 1 v' m ys) (hgrow : (W.alloc tmp).grownBy w1 (some g)) :
    Boxed w1 Bo t (.slice (some ⟨g, 0, none⟩) k cap) ∧ Boxed (w1.setCell ⟨Bo, 0, none⟩ v') Bo t v' ∧ (w1.setCell ⟨Bo, 0, none⟩ v').ownsRow n₀ e 1 v' m ys ∧ KeepsOthers W (w1.setCell ⟨Bo, 0, none⟩ v') ∧ Below n₀ W (w1.setCell ⟨Bo, 0, none⟩ v') ∧
      ∀ B u tu, Boxed W B tu u → B ≠ g → B ≠ Bo → Boxed (w1.setCell ⟨Bo, 0, none⟩ v') B tu u := by
  obtain ⟨a1, a2, a3, a4, a5⟩ := hv.appended hte hrow hn₀ hB hown' hgrow
  refine ⟨a1, a2, a3, a4, a5, fun B u tu hb h1 h2 => ?_⟩
  exact ((hb.alloc tmp).kept hgrow (fun e => h1 (by cases e; rfl))).other h2 v'

open Go.RowKit Go.Shelf
attribute [local go_sem] Oper.semAt_some

theorem ownsRow_own {W W' : World} {row : Option Nat} {base : Nat} {e : TypeId} {size : Nat} {v : Value} {k : Nat} {xs : List Value} {B : Nat} (h : W.ownsRow base e size v k xs) (hg : W.grownBy W' row)
    (hr : ∀ r, row = some r → B ≤ r ∧ ∃ o : Obj, W.heap[r]? = some o ∧ o.isCells = false) : W'.ownsRow base e size v k xs := by
  refine h.kept hg ?_
  rcases h.2 with ⟨rfl, _⟩ | ⟨g, cap, cur, rfl, _, hgb, _⟩
  · exact .inl rfl
  · refine .inr fun e' => ?_
    obtain ⟨_, o, ho, hc⟩ := hr g (by simpa [Value.ownBlock] using e'.symm)
    rw [hgb] at ho; cases ho; cases hc

set_option maxRecDepth 100000 in
set_option maxHeartbeats 2000000 in
theorem put_yes_in (F : Fence) (n : Nat) (h3 : F.fn 85) (h4 : F.fn 89) (h5 : F.fn 97) (hro : F.round = none) (hn : 3 ≤ n) (num many : Nat) (hm : many ≤ 32) (hnum : num < 2 ^ many) (w : World) :
    CallsIn F n Try.prog 85 #[.int .i64 num, .int .i64 many] w fun e W' => e = .returned (.tuple #[.slice (some ⟨w.heap.size, 0, none⟩) many many, .bool true]) ∧ W'.ownsRow w.heap.size 3 1 (.slice (some ⟨w.heap.size, 0, none⟩) many many) many ((bitRow num many many).map (Value.int .i64)) ∧ Below w.heap.size w W' := by
  have h1 : 1 ≤ n := by omega
  obtain ⟨i0, hi, hz0, hz1, hz2⟩ := info_parts Try.infoInt
  refine callsIn_of_wp_marks Try.func85 rfl h3 ?_ hro
  simp only [Try.ntmps85, List.size_toArray, List.length_cons, List.length_nil, Nat.reduceAdd, Nat.reduceSub, Array.replicate_succ, Array.replicate_zero, List.push_toArray, List.append_toArray, List.nil_append, List.cons_append]
  have d1 : decide ((many : Int) < 0) = false := by simp
  have d2 : decide (32 < (many : Int)) = false := by simp; omega
  have d3 : decide ((num : Int) < 0) = false := by simp
  have d4 : decide (wrap64 (2 ^ many) ≤ (num : Int)) = false := by
    rw [wrap_pow many hm]; simp; exact_mod_cast hnum
  have hn62 : num < 4611686018427387904 := by
    have := Nat.pow_le_pow_right (n := 2) (by omega) hm
    omega
  have Hnum := Lib.hid hnum
  clear hnum
  gi_wp2_with (first
    | (gi_at_make; refine wpListIn_make_own _ rfl _ _ 50 rfl w.heap.size 3 i0 (.int .i64 0) 1 Try.underlying50 hi hz0 hz1 _ _ _ many rfl rfl rfl (by rw [hz2]; omega) (by unfold maxLen; omega) (Nat.le_refl _) ?_; intro w0 hown0 hgrow0)
    | (gi_at_call 89; refine (shifts_in F (n - 1) h4 hro _ _ _).mono ?_; rintro e w' ⟨rfl, rfl⟩))
  have hz := hgrow0.size
  have hg0 := (hown0.lt w.heap.size rfl).2
  have hB0 : Below w.heap.size w (((w0.alloc (.cells #[.slice (some ⟨w.heap.size, 0, none⟩) 0 many] 50)).alloc (.cells #[.int .i64 num] 3)).alloc (.cells #[.int .i64 many] 3)) :=
    ((((Below.refl _ _).grown hgrow0 (Nat.le_refl _) (fun k h => by cases h)).alloc hz _).alloc (by simp; omega) _).alloc (by simp; omega) _
  have bO := Boxed.new w0 50 (.slice (some ⟨w.heap.size, 0, none⟩) 0 many)
  have bN := Boxed.new (w0.alloc (.cells #[.slice (some ⟨w.heap.size, 0, none⟩) 0 many] 50)) 3 (.int .i64 num)
  have bM := Boxed.new ((w0.alloc (.cells #[.slice (some ⟨w.heap.size, 0, none⟩) 0 many] 50)).alloc (.cells #[.int .i64 num] 3)) 3 (.int .i64 many)
  simp only [World.size_alloc] at bN bM
  refine wpIn_rangeFunc_ownG hro h1 (gf := 97) (lb := #[.pointer (some ⟨w0.heap.size + 1 + 1, 0, none⟩), .pointer (some ⟨w0.heap.size + 1, 0, none⟩)]) rfl h5 (enters_of Try.func97 (by kernel_rfl) rfl)
    (shifts_stops F (n - 1) h5 hro (by omega) (w0.heap.size + 1 + 1) (w0.heap.size + 1) num many (by omega) hn62 _ bM (bN.alloc _)) Kept2.trans (fun W l o o' _ h ho _ => Kept2.putObj W l o o' h ho) (Below.refl _ _) (fun _ => rfl)
    (fun pre W => (((Boxed W w0.heap.size 50 (.slice (some ⟨w.heap.size, 0, none⟩) pre.length many) ∧ Boxed W (w0.heap.size + 1) 3 (.int .i64 num)) ∧ Boxed W (w0.heap.size + 1 + 1) 3 (.int .i64 many)) ∧
      W.ownsRow w.heap.size 3 1 (.slice (some ⟨w.heap.size, 0, none⟩) pre.length many) pre.length (pre.map (Value.int .i64))) ∧ Below w.heap.size w W)
    (fun _ _ _ => False)
    (OwnFrom.and (OwnFrom.and (OwnFrom.and (OwnFrom.and (Own.from (boxed_own _ _ _) _) (Own.from (boxed_own _ _ _) _)) (Own.from (boxed_own _ _ _) _)) (fun s A B row hs hg hr => ownsRow_own hs hg hr)) (ownFrom_below (Nat.le_refl _) (by simp; omega)))
    (fun _ _ _ _ _ hs _ _ => hs)
    ⟨⟨⟨⟨(bO.alloc _).alloc _, bN.alloc _⟩, bM⟩, ((hown0.alloc _).alloc _).alloc _⟩, hB0⟩
    (fun x => { tmps := #[.int .i64 num, .int .i64 many, undef, undef, .slice none 0 0, .bool false, .pointer (some ⟨w0.heap.size, 0, none⟩), .int .i64 x, .int .i64 many, .bool false, .bool false, .int .i64 many, .bool false, .bool false, .bool false, .int .i64 num, .bool false, .bool false, .bool false, .int .i64 num, .int .i64 many, .int .i64 (wrap64 (2 ^ many)), .bool false, .bool false, .int .i64 many, .slice (some ⟨w.heap.size, 0, none⟩) 0 many, .int .i64 num, .int .i64 many, .func (.func 97) #[] #[.pointer (some ⟨w0.heap.size + 1 + 1, 0, none⟩), .pointer (some ⟨w0.heap.size + 1, 0, none⟩)], .int .i64 x, undef, undef, undef, undef, undef], defers := [] }) ?assign ?body ?done ?stop
  case assign =>
    intro l x W K hK
    gi_wp2
    exact hK
  case body =>
    rintro l pre x W ⟨⟨⟨⟨hv, hvn⟩, hvm⟩, hrow⟩, hB⟩ hlt
    have hc := hv.cell
    gi_wp2_with (gi_at_builtin; refine wpListIn_append_fits _ rfl _ _ 50 rfl w.heap.size 3 i0 1 Try.underlying50 hi hz1 w.heap.size pre.length many _ rfl (hrow.alloc _) ⟨W.heap.size, 0, none⟩ 1 1 [.int .i64 x] rfl rfl (cell_one_new _ _ _) (by simp [Value.oneCell']) (by omega) ?_; intro w1 hown' hgrow; obtain ⟨hv1, hv2, hr2, hk2, hb2, ho2⟩ := coll_step hv (by decide) hrow hB.size hz hown' hgrow; have hc1 := hv1.cell; have hf1 := hv1.frozen)
    have hvn2 := ho2 _ _ _ hvn (by omega) (by omega)
    have hvm2 := ho2 _ _ _ hvm (by omega) (by omega)
    exact ⟨hk2.from _, Kept2.boxed hvm hvn hvm2 hvn2, ⟨⟨⟨by simpa using hv2, hvn2⟩, hvm2⟩, by simpa using hr2⟩, hB.trans hb2⟩
  case done =>
    rintro D ys W hD rfl ⟨⟨⟨⟨hv, hvn⟩, hvm⟩, hrow⟩, hB⟩ hK
    have hc := hv.cell
    have hl : (bitRow num many many).length = many := by simp [bitRow]
    gi_wp2
    refine ⟨by simp, .inl ⟨_, _, rfl, run_takeDeferred hK, ?_⟩⟩
    refine ⟨_, results_tmp2 rfl _ _ _, rfl, ?_, hB.trans (belowK_b (w := w) (Nat.le_refl _) W D _ _ (by simp at hD; omega) hK rfl rfl)⟩
    have h := ownsRow_putObj hrow (.deferred none) hK rfl
    rw [hl] at h
    exact h
  case stop =>
    rintro D c pre W _ _ h _
    exact h.elim

/-- What Put is asked and can answer. -/
def PutOk (num many : Int) : Prop := 0 ≤ many ∧ many ≤ 32 ∧ 0 ≤ num ∧ num < 2 ^ many.toNat

theorem put_yes (num many : Nat) (hm : many ≤ 32) (hnum : num < 2 ^ many) (w : World) :
    Calls Try.prog 85 #[.int .i64 num, .int .i64 many] w fun e W' => e = .returned (.tuple #[.slice (some ⟨w.heap.size, 0, none⟩) many many, .bool true]) ∧ W'.ownsRow w.heap.size 3 1 (.slice (some ⟨w.heap.size, 0, none⟩) many many) many ((bitRow num many many).map (Value.int .i64)) ∧ Below w.heap.size w W' :=
  callsIn_wide.1 (put_yes_in Fence.wide 3 trivial trivial trivial rfl (Nat.le_refl _) num many hm hnum w)

set_option maxHeartbeats 1000000 in
theorem put_no (num many : Int) (h : ¬ PutOk num many) (w : World) :
    Calls Try.prog 85 #[.int .i64 num, .int .i64 many] w fun e w' => e = .returned (.tuple #[.slice none 0 0, .bool false]) ∧ w = w' := by
  by_cases h1 : many < 0
  · have d1 : decide (many < 0) = true := by simp; omega
    clear h
    go_enter Try.func85, Try.ntmps85
    go_wp2
    go_ret2
    exact ⟨rfl, rfl⟩
  · obtain ⟨m, rfl⟩ := Int.eq_ofNat_of_zero_le (Int.not_lt.1 h1)
    have d1 : decide ((m : Int) < 0) = false := by simp
    by_cases h2 : 32 < m
    · have d2 : decide (32 < (m : Int)) = true := by simp; omega
      clear h
      go_enter Try.func85, Try.ntmps85
      go_wp2
      go_ret2
      exact ⟨rfl, rfl⟩
    · have d2 : decide (32 < (m : Int)) = false := by simp; omega
      by_cases h3 : num < 0
      · have d3 : decide (num < 0) = true := by simp; omega
        clear h
        go_enter Try.func85, Try.ntmps85
        go_wp2
        go_ret2
        exact ⟨rfl, rfl⟩
      · have d3 : decide (num < 0) = false := by simp; omega
        have d4 : decide (wrap64 (2 ^ m) ≤ num) = true := by
          rw [wrap_pow m (by omega)]
          have e : ((2 : Int) ^ m) = ((2 ^ m : Nat) : Int) := by simp
          unfold PutOk at h
          rw [Int.toNat_natCast, e] at h
          simp only [decide_eq_true_eq]
          omega
        clear h
        go_enter Try.func85, Try.ntmps85
        go_wp2
        go_ret2
        exact ⟨rfl, rfl⟩

theorem ofInt64 (a : Nat) (ha : a < 9223372036854775808) : (BitVec.ofInt 64 (a : Int)).toNat = a := by
  rw [BitVec.ofInt_natCast, BitVec.toNat_ofNat]; exact Nat.mod_eq_of_lt (by omega)

theorem or_bit (n : Nat) (x : Int) (hn : n < 4294967296) (hx : x = 0 ∨ x = 1) : bits .or .i64 ((n : Int) * 2) x = ((2 * n + x.toNat : Nat) : Int) := by
  obtain ⟨b, rfl, hb⟩ : ∃ b : Nat, x = (b : Int) ∧ b < 2 := by
    rcases hx with rfl | rfl
    · exact ⟨0, rfl, by omega⟩
    · exact ⟨1, rfl, by omega⟩
  have e : ((n : Int) * 2) = ((2 * n : Nat) : Int) := by omega
  rw [e]
  show IntKind.i64.wrap ((BitVec.ofInt 64 ((2 * n : Nat) : Int) ||| BitVec.ofInt 64 (b : Int)).toNat : Int) = _
  rw [BitVec.toNat_or, ofInt64 _ (by omega), ofInt64 _ (by omega), IntKind.wrap_i64]
  have h2 : 2 * n ||| b = 2 * n + b := by
    have := Nat.two_pow_add_eq_or_of_lt (i := 1) (b := b) (by simpa using hb) n
    simpa using this.symm
  rw [h2, Int.toNat_natCast]
  omega

/-- Get of a row: its number, if it is right and no longer than 32. -/
def getOk (l : List Int) : Bool := decide (l.length ≤ 32) && rightB l

theorem run_conv (w : World) (l : List Int) (A : Option Addr) (c B : Nat) (h : Row .u8 w B A l) : (convert 28 9 (.slice A l.length c)).run Try.prog w = .ok (.string (strOfNums l)) w := by
  rw [run_convert_bytes_string w 28 9 5 _ _ _ Try.underlying28 Try.underlying5 Try.underlying9]
  cases A with
  | none =>
    rcases h with rfl | ⟨ad, e, _⟩
    · simp [Conv.bytesToString, strOfNums]; rfl
    · cases e
  | some ad =>
    have hl : (loadCells ad l.length).run Try.prog w = .ok (l.map (Value.int .u8)).toArray w := by
      have := run_loadCells_list (P := Try.prog) w ad (l.map (Value.int .u8)) (fun j v hj => by
        rcases h with rfl | ⟨ad', e, _, hc⟩
        · simp at hj
        · cases e
          simp only [List.getElem?_map, Option.map_eq_some_iff] at hj
          obtain ⟨x, hx, rfl⟩ := hj
          exact hc j x hx)
      simpa using this
    rw [run_bytesToString w _ _ c l hl, foldl_push_bytes]
    simp [strOfNums, ByteArray.empty, ByteArray.emptyWithCapacity]
    rfl

theorem strOfNums_inj : ∀ {a b : List Int}, byteB a → byteB b → strOfNums a = strOfNums b → a = b := by
  intro a b ha hb h
  have h2 : (a.map fun n => UInt8.ofNat n.toNat) = (b.map fun n => UInt8.ofNat n.toNat) := by
    rw [← strOfNums_data, ← strOfNums_data, h]
  clear h
  induction a generalizing b with
  | nil => cases b with
    | nil => rfl
    | cons y b => simp at h2
  | cons x a ih => cases b with
    | nil => simp at h2
    | cons y b =>
      simp only [List.map_cons, List.cons.injEq] at h2
      have hx := ha x (by simp)
      have hy := hb y (by simp)
      have e : x = y := by
        have := congrArg UInt8.toNat h2.1
        simp only [UInt8.toNat_ofNat'] at this
        omega
      rw [e, ih (fun z hz => ha z (by simp [hz])) (fun z hz => hb z (by simp [hz])) h2.2]

set_option maxHeartbeats 400000 in
theorem sameBytes_any (a b : List Int) (A A' : Option Addr) (c c' B B' : Nat) (w : World) (h : Row .u8 w B A a) (h' : Row .u8 w B' A' b) (ha : byteB a) (hb : byteB b) :
    Calls Try.prog 53 #[.slice A a.length c, .slice A' b.length c'] w fun e w' => e = .returned (.bool (sameB a b)) ∧ w = w' := by
  have h1 := run_conv w a A c B h
  have h2 := run_conv w b A' c' B' h'
  have HA := Lib.hid ha
  have HB := Lib.hid hb
  clear ha hb
  go_enter Try.func53, Try.ntmps53
  go_wp2
  go_ret
  refine ⟨ret_bool ?_, rfl⟩
  rw [ByteArray.toList_eq, ByteArray.toList_eq, strOfNums_data, strOfNums_data, Bool.eq_iff_iff]
  simp only [beq_iff_eq, sameB, decide_eq_true_eq]
  constructor
  · intro e
    refine strOfNums_inj HA.out HB.out ?_
    simp only [strOfNums, e]
  · rintro rfl
    rfl

def joinOk (l : List Int) : Bool := decide (l.length % 8 = 0) && rightB l

def joinTo (l : List Int) (k : Nat) : List Int := (List.range k).map fun i => ((numOf ((l.drop (8 * i)).take 8) : Nat) : Int)

def joinL (l : List Int) : List Int := joinTo l (l.length / 8)

theorem joinTo_len (l : List Int) (k : Nat) : (joinTo l k).length = k := by simp [joinTo]

theorem joinL_len (l : List Int) : (joinL l).length = l.length / 8 := joinTo_len _ _

theorem joinL_byte {l : List Int} (h : rightB l = true) : byteB (joinL l) := by
  intro x hx
  simp only [joinL, joinTo, List.mem_map, List.mem_range] at hx
  obtain ⟨i, hi, rfl⟩ := hx
  have h1 := numOf_lt _ (rightB_take (rightB_drop h (8 * i)) 8)
  have h2 : ((l.drop (8 * i)).take 8).length ≤ 8 := by simp; omega
  have h3 := Nat.pow_le_pow_right (n := 2) (by omega) h2
  omega

open Go.RowKit Go.Shelf
attribute [local go_sem] Oper.semAt_some

/-- The marks that loops over an iterator left in a frame. -/
def marks (Ds : List Nat) : List Deferred := Ds.map fun D => { target := .collected D, args := #[] }

theorem leaves_marks {F : Fence} {n : Nat} {P : Program} {fn : Func} {tmps : Array Value} {R : Ending → World → Prop} (Q : World → Prop) (base : Nat)
    (hQ : ∀ W D, base ≤ D → W.heap[D]? = some (.deferred (some [])) → Q W → Q (W.putObj D (.deferred none))) (hend : ∀ W, Q W → LeavesInM F n P fn tmps R [] .returning W) :
    ∀ (Ds : List Nat) (W : World), Ds.Nodup → (∀ D ∈ Ds, base ≤ D ∧ W.heap[D]? = some (.deferred (some []))) → Q W → LeavesInM F n P fn tmps R (marks Ds) .returning W := by
  intro Ds
  induction Ds with
  | nil => intro W _ _ hq; exact hend W hq
  | cons D Ds ih =>
    intro W hnd hD hq
    have hK := (hD D (by simp)).2
    refine ⟨by simp, .inl ⟨D, _, rfl, run_takeDeferred hK, ?_⟩⟩
    rw [List.nodup_cons] at hnd
    refine ih _ hnd.2 (fun D' h' => ⟨(hD D' (by simp [h'])).1, ?_⟩) (hQ W D (hD D (by simp)).1 hK hq)
    have hK' := (hD D' (by simp [h'])).2
    exact ((grownBy_putObj' W D (.deferred none)).block D' (Array.getElem?_eq_some_iff.1 hK').1 (fun e => by cases e; exact hnd.1 h')).trans hK'

/-- Deferred blocks that lie ahead of a loop lie on. -/
theorem defs_own {β : Type} (B : Nat) (Ds : List Nat) (hB : ∀ D ∈ Ds, D < B) : OwnFrom B (fun (_ : β) W => ∀ D ∈ Ds, W.heap[D]? = some (.deferred (some []))) :=
  fun _ X Y row hs hg hr D hD => by
    have h0 := hs D hD
    refine (hg.block D (Array.getElem?_eq_some_iff.1 h0).1 (fun e => ?_)).trans h0
    have h1 := (hr D e.symm).1
    have h2 := hB D hD
    omega

theorem row_own {β : Type} (B base : Nat) (e : TypeId) (size : Nat) (v : β → Value) (k : β → Nat) (f : β → List Value) : OwnFrom B (fun s W => W.ownsRow base e size (v s) (k s) (f s)) :=
  fun _ _ _ _ hs hg hr => ownsRow_own hs hg hr

theorem put_yes_at (n m : Int) (num many : Nat) (hn : n = num) (hm' : m = many) (hm : many ≤ 32) (hnum : num < 2 ^ many) (w : World) :
    Calls Try.prog 85 #[.int .i64 n, .int .i64 m] w fun e W' => ∃ A, e = .returned (.tuple #[.slice A many many, .bool true]) ∧ Row .i64 W' W'.heap.size A (bitRow num many many) ∧ Below w.heap.size w W' := by
  subst hn hm'
  exact (put_yes num many hm hnum w).mono fun e W' ⟨h1, h2, h3⟩ => ⟨_, h1, Row.own h2, h3⟩

theorem sameBytes_at (a b : List Int) (n m : Nat) (hn : a.length = n) (hm : b.length = m) (A A' : Option Addr) (c c' B B' : Nat) (w : World) (h : Row .u8 w B A a) (h' : Row .u8 w B' A' b) (ha : byteB a) (hb : byteB b) :
    Calls Try.prog 53 #[.slice A n c, .slice A' m c'] w fun e w' => e = .returned (.bool (sameB a b)) ∧ w = w' := by
  subst hn hm; exact sameBytes_any a b A A' c c' B B' w h h' ha hb

theorem getOk_bitRow (n many : Nat) (h : many ≤ 32) : getOk (bitRow n many many) = true := by
  simp [getOk, bitRow_len, bitRow_right, h]

theorem putOk_nat {num many : Nat} : PutOk num many ↔ many ≤ 32 ∧ num < 2 ^ many := by
  unfold PutOk
  rw [Int.toNat_natCast]
  have e : ((2 : Int) ^ many) = ((2 ^ many : Nat) : Int) := by simp
  rw [e]
  omega

theorem joinOk_spread (l : List Int) : joinOk (spreadL l) = true := by
  unfold joinOk
  rw [spreadL_right, spreadL_len]
  simp

theorem joinTo_cons (c l : List Int) (h : c.length = 8) (k : Nat) : joinTo (c ++ l) (k + 1) = ((numOf c : Nat) : Int) :: joinTo l k := by
  unfold joinTo
  rw [List.range_succ_eq_map, List.map_cons, List.map_map]
  congr 1
  · simp [← h]
  · apply List.map_congr_left
    intro i _
    simp only [Function.comp]
    rw [show 8 * (i + 1) = c.length + 8 * i by omega, List.drop_append, List.drop_eq_nil_of_le (by omega)]
    simp

theorem joinL_spread : ∀ {b : List Int}, byteB b → joinL (spreadL b) = b
  | [], _ => rfl
  | x :: b, h => by
    have ih := joinL_spread (b := b) (fun z hz => h z (by simp [hz]))
    have hx := h x (by simp)
    have e : spreadL (x :: b) = byteBits x ++ spreadL b := by simp [spreadL]
    unfold joinL at ih ⊢
    rw [spreadL_len] at ih ⊢
    rw [show 8 * b.length / 8 = b.length by omega] at ih
    rw [show 8 * (x :: b).length / 8 = b.length + 1 by simp, e, joinTo_cons _ _ (byteBits_len x), ih]
    congr 1
    unfold byteBits
    rw [numOf_back (by omega)]
    omega

theorem spread_joinL : ∀ (k : Nat) (l : List Int), l.length = 8 * k → rightB l = true → spreadL (joinL l) = l
  | 0, l, h, _ => by obtain rfl := List.eq_nil_of_length_eq_zero (by omega : l.length = 0); rfl
  | k + 1, l, h, hr => by
    obtain ⟨c, r, hc, rfl⟩ : ∃ c r, c.length = 8 ∧ l = c ++ r := ⟨l.take 8, l.drop 8, by simp; omega, (List.take_append_drop 8 l).symm⟩
    rw [rightB_append, Bool.and_eq_true] at hr
    have hl : r.length = 8 * k := by simp at h; omega
    have ih := spread_joinL k r hl hr.2
    unfold joinL at ih ⊢
    rw [hl, show 8 * k / 8 = k by omega] at ih
    rw [h, show 8 * (k + 1) / 8 = k + 1 by omega, joinTo_cons _ _ hc]
    have e : spreadL (((numOf c : Nat) : Int) :: joinTo r k) = byteBits (numOf c : Nat) ++ spreadL (joinTo r k) := by simp [spreadL]
    rw [e, ih]
    congr 1
    unfold byteBits
    rw [Int.toNat_natCast]
    exact bitRow_back 8 c hc hr.1

end Go.Proofs.Ytlbgilbigcnleaa
