/-
  bits.Put: the bits of a number, or none.
-/
import Derived.Test.YtmapkjjglhpamaaIter
namespace Go.Proofs.Ytmapkjjglhpamaa
open Go.RowKit Go.Shelf

attribute [local go_sem] Oper.semAt_some

theorem ownsRow_own {W W' : World} {row : Option Nat} {base : Nat} {e : TypeId} {size : Nat} {v : Value} {k : Nat} {xs : List Value} {B : Nat} (h : W.ownsRow base e size v k xs) (hg : W.grownBy W' row)
    (hr : ∀ r, row = some r → B ≤ r ∧ ∃ o : Obj, W.heap[r]? = some o ∧ o.isCells = false) : W'.ownsRow base e size v k xs := by
  refine h.kept hg ?_
  rcases h.2 with ⟨rfl, _⟩ | ⟨g, cap, cur, rfl, _, hgb, _⟩
  · exact .inl rfl
  · refine .inr fun e' => ?_
    obtain ⟨_, o, ho, hc⟩ := hr g (by simpa [Value.ownBlock] using e'.symm)
    rw [hgb] at ho; cases ho; cases hc

set_option maxRecDepth 100000 in
set_option maxHeartbeats 2000000 in
theorem put_yes_in (F : Fence) (n : Nat) (h3 : F.fn 36) (h4 : F.fn 61) (h5 : F.fn 76) (hro : F.round = none) (hn : 3 ≤ n) (num many : Nat) (hm : many ≤ 32) (hnum : num < 2 ^ many) (w : World) :
    CallsIn F n Try.prog 36 #[.int .i64 num, .int .i64 many] w fun e W' => e = .returned (.tuple #[.slice (some ⟨w.heap.size, 0, none⟩) many many, .bool true]) ∧ W'.ownsRow w.heap.size 3 1 (.slice (some ⟨w.heap.size, 0, none⟩) many many) many ((bitRow num many many).map (Value.int .i64)) ∧ Below w.heap.size w W' := by
  have h1 : 1 ≤ n := by omega
  obtain ⟨i0, hi, hz0, hz1, hz2⟩ := info_parts Try.infoInt
  refine callsIn_of_wp_marks Try.func36 rfl h3 ?_ hro
  simp only [Try.ntmps36, List.size_toArray, List.length_cons, List.length_nil, Nat.reduceAdd, Nat.reduceSub, Array.replicate_succ, Array.replicate_zero, List.push_toArray, List.append_toArray, List.nil_append, List.cons_append]
  have d1 : decide ((many : Int) < 0) = false := by simp
  have d2 : decide (32 < (many : Int)) = false := by simp; omega
  have d3 : decide ((num : Int) < 0) = false := by simp
  have d4 : decide (wrap64 (2 ^ many) ≤ (num : Int)) = false := by
    rw [wrap_pow many hm]; simp; exact_mod_cast hnum
  have hn62 : num < 4611686018427387904 := by
    have := Nat.pow_le_pow_right (n := 2) (by omega) hm
    omega
  have Hnum := Lib.hid hnum
  clear hnum
  gi_wp2_with (first
    | (gi_at_make; refine wpListIn_make_own _ rfl _ _ 25 rfl w.heap.size 3 i0 (.int .i64 0) 1 Try.underlying25 hi hz0 hz1 _ _ _ many rfl rfl rfl (by rw [hz2]; omega) (by unfold maxLen; omega) (Nat.le_refl _) ?_; intro w0 hown0 hgrow0)
    | (gi_at_call 61; refine (shifts_in F (n - 1) h4 hro _ _ _).mono ?_; rintro e w' ⟨rfl, rfl⟩))
  have hz := hgrow0.size
  have hg0 := (hown0.lt w.heap.size rfl).2
  have hB0 : Below w.heap.size w (((w0.alloc (.cells #[.slice (some ⟨w.heap.size, 0, none⟩) 0 many] 25)).alloc (.cells #[.int .i64 num] 3)).alloc (.cells #[.int .i64 many] 3)) :=
    ((((Below.refl _ _).grown hgrow0 (Nat.le_refl _) (fun k h => by cases h)).alloc hz _).alloc (by simp; omega) _).alloc (by simp; omega) _
  have bO := Boxed.new w0 25 (.slice (some ⟨w.heap.size, 0, none⟩) 0 many)
  have bN := Boxed.new (w0.alloc (.cells #[.slice (some ⟨w.heap.size, 0, none⟩) 0 many] 25)) 3 (.int .i64 num)
  have bM := Boxed.new ((w0.alloc (.cells #[.slice (some ⟨w.heap.size, 0, none⟩) 0 many] 25)).alloc (.cells #[.int .i64 num] 3)) 3 (.int .i64 many)
  simp only [World.size_alloc] at bN bM
  refine wpIn_rangeFunc_ownG hro h1 (gf := 76) (lb := #[.pointer (some ⟨w0.heap.size + 1 + 1, 0, none⟩), .pointer (some ⟨w0.heap.size + 1, 0, none⟩)]) rfl h5 (enters_of Try.func76 (by kernel_rfl) rfl)
    (shifts_stops F (n - 1) h5 hro (by omega) (w0.heap.size + 1 + 1) (w0.heap.size + 1) num many (by omega) hn62 _ bM (bN.alloc _)) Kept2.trans (fun W l o o' _ h ho _ => Kept2.putObj W l o o' h ho) (Below.refl _ _) (fun _ => rfl)
    (fun pre W => (((Boxed W w0.heap.size 25 (.slice (some ⟨w.heap.size, 0, none⟩) pre.length many) ∧ Boxed W (w0.heap.size + 1) 3 (.int .i64 num)) ∧ Boxed W (w0.heap.size + 1 + 1) 3 (.int .i64 many)) ∧
      W.ownsRow w.heap.size 3 1 (.slice (some ⟨w.heap.size, 0, none⟩) pre.length many) pre.length (pre.map (Value.int .i64))) ∧ Below w.heap.size w W)
    (fun _ _ _ => False)
    (OwnFrom.and (OwnFrom.and (OwnFrom.and (OwnFrom.and (Own.from (boxed_own _ _ _) _) (Own.from (boxed_own _ _ _) _)) (Own.from (boxed_own _ _ _) _)) (fun s A B row hs hg hr => ownsRow_own hs hg hr)) (ownFrom_below (Nat.le_refl _) (by simp; omega)))
    (fun _ _ _ _ _ hs _ _ => hs)
    ⟨⟨⟨⟨(bO.alloc _).alloc _, bN.alloc _⟩, bM⟩, ((hown0.alloc _).alloc _).alloc _⟩, hB0⟩
    (fun x => { tmps := #[.int .i64 num, .int .i64 many, undef, undef, .slice none 0 0, .bool false, .pointer (some ⟨w0.heap.size, 0, none⟩), .int .i64 x, .int .i64 many, .bool false, .bool false, .int .i64 many, .bool false, .bool false, .bool false, .int .i64 num, .bool false, .bool false, .bool false, .int .i64 num, .int .i64 many, .int .i64 (wrap64 (2 ^ many)), .bool false, .bool false, .int .i64 many, .slice (some ⟨w.heap.size, 0, none⟩) 0 many, .int .i64 num, .int .i64 many, .func (.func 76) #[] #[.pointer (some ⟨w0.heap.size + 1 + 1, 0, none⟩), .pointer (some ⟨w0.heap.size + 1, 0, none⟩)], .int .i64 x, undef, undef, undef, undef, undef], defers := [] }) ?assign ?body ?done ?stop
  case assign =>
    intro l x W K hK
    gi_wp2
    exact hK
  case body =>
    rintro l pre x W ⟨⟨⟨⟨hv, hvn⟩, hvm⟩, hrow⟩, hB⟩ hlt
    have hc := hv.cell
    gi_wp2_with (gi_at_builtin; refine wpListIn_append_fits _ rfl _ _ 25 rfl w.heap.size 3 i0 1 Try.underlying25 hi hz1 w.heap.size pre.length many _ rfl (hrow.alloc _) ⟨W.heap.size, 0, none⟩ 1 1 [.int .i64 x] rfl rfl (cell_one_new _ _ _) (by simp [Value.oneCell']) (by omega) ?_; intro w1 hown' hgrow; obtain ⟨hv1, hv2, hr2, hk2, hb2, ho2⟩ := coll_step hv (by decide) hrow hB.size hz hown' hgrow; have hc1 := hv1.cell; have hf1 := hv1.frozen)
    have hvn2 := ho2 _ _ _ hvn (by omega) (by omega)
    have hvm2 := ho2 _ _ _ hvm (by omega) (by omega)
    exact ⟨hk2.from _, Kept2.boxed hvm hvn hvm2 hvn2, ⟨⟨⟨by simpa using hv2, hvn2⟩, hvm2⟩, by simpa using hr2⟩, hB.trans hb2⟩
  case done =>
    rintro D ys W hD rfl ⟨⟨⟨⟨hv, hvn⟩, hvm⟩, hrow⟩, hB⟩ hK
    have hc := hv.cell
    have hl : (bitRow num many many).length = many := by simp [bitRow]
    gi_wp2
    refine ⟨by simp, .inl ⟨_, _, rfl, run_takeDeferred hK, ?_⟩⟩
    refine ⟨_, results_tmp2 rfl _ _ _, rfl, ?_, hB.trans (belowK_b (w := w) (Nat.le_refl _) W D _ _ (by simp at hD; omega) hK rfl rfl)⟩
    have h := ownsRow_putObj hrow (.deferred none) hK rfl
    rw [hl] at h
    exact h
  case stop =>
    rintro D c pre W _ _ h _
    exact h.elim

/-- What Put is asked and can answer. -/
def PutOk (num many : Int) : Prop := 0 ≤ many ∧ many ≤ 32 ∧ 0 ≤ num ∧ num < 2 ^ many.toNat

theorem put_yes (num many : Nat) (hm : many ≤ 32) (hnum : num < 2 ^ many) (w : World) :
    Calls Try.prog 36 #[.int .i64 num, .int .i64 many] w fun e W' => e = .returned (.tuple #[.slice (some ⟨w.heap.size, 0, none⟩) many many, .bool true]) ∧ W'.ownsRow w.heap.size 3 1 (.slice (some ⟨w.heap.size, 0, none⟩) many many) many ((bitRow num many many).map (Value.int .i64)) ∧ Below w.heap.size w W' :=
  callsIn_wide.1 (put_yes_in Fence.wide 3 trivial trivial trivial rfl (Nat.le_refl _) num many hm hnum w)

set_option maxHeartbeats 1000000 in
theorem put_no (num many : Int) (h : ¬ PutOk num many) (w : World) :
    Calls Try.prog 36 #[.int .i64 num, .int .i64 many] w fun e w' => e = .returned (.tuple #[.slice none 0 0, .bool false]) ∧ w = w' := by
  by_cases h1 : many < 0
  · have d1 : decide (many < 0) = true := by simp; omega
    clear h
    go_enter Try.func36, Try.ntmps36
    go_wp2
    go_ret2
    exact ⟨rfl, rfl⟩
  · obtain ⟨m, rfl⟩ := Int.eq_ofNat_of_zero_le (Int.not_lt.1 h1)
    have d1 : decide ((m : Int) < 0) = false := by simp
    by_cases h2 : 32 < m
    · have d2 : decide (32 < (m : Int)) = true := by simp; omega
      clear h
      go_enter Try.func36, Try.ntmps36
      go_wp2
      go_ret2
      exact ⟨rfl, rfl⟩
    · have d2 : decide (32 < (m : Int)) = false := by simp; omega
      by_cases h3 : num < 0
      · have d3 : decide (num < 0) = true := by simp; omega
        clear h
        go_enter Try.func36, Try.ntmps36
        go_wp2
        go_ret2
        exact ⟨rfl, rfl⟩
      · have d3 : decide (num < 0) = false := by simp; omega
        have d4 : decide (wrap64 (2 ^ m) ≤ num) = true := by
          rw [wrap_pow m (by omega)]
          have e : ((2 : Int) ^ m) = ((2 ^ m : Nat) : Int) := by simp
          unfold PutOk at h
          rw [Int.toNat_natCast, e] at h
          simp only [decide_eq_true_eq]
          omega
        clear h
        go_enter Try.func36, Try.ntmps36
        go_wp2
        go_ret2
        exact ⟨rfl, rfl⟩

end Go.Proofs.Ytmapkjjglhpamaa
