/-
  bits.Spread: eight bits for each byte.
-/
import Derived.Test.YtmapkjjglhpamaaPut
import Derived.Test.YtmapkjjglhpamaaRow
namespace Go.Proofs.Ytmapkjjglhpamaa
open Go.RowKit Go.Shelf

attribute [local go_sem] Oper.semAt_some

/-- The marks that loops over an iterator left in a frame. -/
def marks (Ds : List Nat) : List Deferred := Ds.map fun D => { target := .collected D, args := #[] }

theorem leaves_marks {F : Fence} {n : Nat} {P : Program} {fn : Func} {tmps : Array Value} {R : Ending → World → Prop} (Q : World → Prop) (base : Nat)
    (hQ : ∀ W D, base ≤ D → W.heap[D]? = some (.deferred (some [])) → Q W → Q (W.putObj D (.deferred none))) (hend : ∀ W, Q W → LeavesInM F n P fn tmps R [] .returning W) :
    ∀ (Ds : List Nat) (W : World), Ds.Nodup → (∀ D ∈ Ds, base ≤ D ∧ W.heap[D]? = some (.deferred (some []))) → Q W → LeavesInM F n P fn tmps R (marks Ds) .returning W := by
  intro Ds
  induction Ds with
  | nil => intro W _ _ hq; exact hend W hq
  | cons D Ds ih =>
    intro W hnd hD hq
    have hK := (hD D (by simp)).2
    refine ⟨by simp, .inl ⟨D, _, rfl, run_takeDeferred hK, ?_⟩⟩
    rw [List.nodup_cons] at hnd
    refine ih _ hnd.2 (fun D' h' => ⟨(hD D' (by simp [h'])).1, ?_⟩) (hQ W D (hD D (by simp)).1 hK hq)
    have hK' := (hD D' (by simp [h'])).2
    exact ((grownBy_putObj' W D (.deferred none)).block D' (Array.getElem?_eq_some_iff.1 hK').1 (fun e => by cases e; exact hnd.1 h')).trans hK'

/-- Deferred blocks that lie ahead of a loop lie on. -/
theorem defs_own {β : Type} (B : Nat) (Ds : List Nat) (hB : ∀ D ∈ Ds, D < B) : OwnFrom B (fun (_ : β) W => ∀ D ∈ Ds, W.heap[D]? = some (.deferred (some []))) :=
  fun _ X Y row hs hg hr D hD => by
    have h0 := hs D hD
    refine (hg.block D (Array.getElem?_eq_some_iff.1 h0).1 (fun e => ?_)).trans h0
    have h1 := (hr D e.symm).1
    have h2 := hB D hD
    omega
theorem row_own {β : Type} (B base : Nat) (e : TypeId) (size : Nat) (v : β → Value) (k : β → Nat) (f : β → List Value) : OwnFrom B (fun s W => W.ownsRow base e size (v s) (k s) (f s)) :=
  fun _ _ _ _ hs hg hr => ownsRow_own hs hg hr

set_option maxRecDepth 100000 in
set_option maxHeartbeats 2000000 in
theorem spread_in (F : Fence) (n : Nat) (h3 : F.fn 54) (h4 : F.fn 61) (h5 : F.fn 76) (hro : F.round = none) (hn : 3 ≤ n) (l : List Int) (A : Option Addr) (c : Nat) (w : World) (h : Row .u8 w w.heap.size A l) (hb : ∀ x ∈ l, 0 ≤ x ∧ x ≤ 255) (hm : l.length * 64 ≤ 140737488355328) :
    CallsIn F n Try.prog 54 #[.slice A l.length c] w fun e W' => e = .returned (.slice (some ⟨w.heap.size, 0, none⟩) (8 * l.length) (8 * l.length)) ∧ W'.ownsRow w.heap.size 3 1 (.slice (some ⟨w.heap.size, 0, none⟩) (8 * l.length) (8 * l.length)) (8 * l.length) ((spreadL l).map (Value.int .i64)) ∧ Below w.heap.size w W' := by
  have h1 : 1 ≤ n := by omega
  obtain ⟨i0, hi, hz0, hz1, hz2⟩ := info_parts Try.infoInt
  have Hb := Lib.hid hb
  clear hb
  refine callsIn_of_wp_marks Try.func54 rfl h3 ?_ hro
  simp only [Try.ntmps54, List.size_toArray, List.length_cons, List.length_nil, Nat.reduceAdd, Nat.reduceSub, Array.replicate_succ, Array.replicate_zero, List.push_toArray, List.append_toArray, List.nil_append, List.cons_append]
  gi_wp2_with (first
    | (gi_at_make; refine wpListIn_make_own _ rfl _ _ 25 rfl w.heap.size 3 i0 (.int .i64 0) 1 Try.underlying25 hi hz0 hz1 _ _ _ (8 * l.length) rfl rfl (by simp; omega) (by rw [hz2]; omega) (by unfold maxLen; omega) (Nat.le_refl _) ?_; intro w0 hown0 hgrow0))
  have hz := hgrow0.size
  have hg0 := (hown0.lt w.heap.size rfl).2
  have hB0 : Below w.heap.size w (w0.alloc (.cells #[.slice (some ⟨w.heap.size, 0, none⟩) 0 (8 * l.length)] 25)) :=
    ((Below.refl _ _).grown hgrow0 (Nat.le_refl _) (fun k h => by cases h)).alloc hz _
  have bO := Boxed.new w0 25 (.slice (some ⟨w.heap.size, 0, none⟩) 0 (8 * l.length))
  refine wpIn_loop (fun a W => ∃ (k : Nat) (Ds : List Nat) (u5 u6 u14 u15 u16 u17 u18 u19 u20 u21 u22 u23 u24 u25 : Value), k ≤ l.length ∧
      a = { tmps := #[.slice A l.length c, undef, .slice none 0 0, .pointer (some ⟨w0.heap.size, 0, none⟩), undef, u5, u6, .slice A l.length c, .int .i64 l.length, .int .i64 (l.length * 8), .slice (some ⟨w.heap.size, 0, none⟩) 0 (8 * l.length), .slice A l.length c, .int .i64 l.length, .int .i64 k, u14, u15, u16, u17, u18, u19, u20, u21, u22, u23, u24, u25, undef], defers := marks Ds } ∧
      Boxed W w0.heap.size 25 (.slice (some ⟨w.heap.size, 0, none⟩) (8 * k) (8 * l.length)) ∧ W.ownsRow w.heap.size 3 1 (.slice (some ⟨w.heap.size, 0, none⟩) (8 * k) (8 * l.length)) (8 * k) ((spreadL (l.take k)).map (Value.int .i64)) ∧
      Below w.heap.size w W ∧ Ds.Nodup ∧ (∀ D ∈ Ds, w.heap.size ≤ D) ∧ ∀ D ∈ Ds, W.heap[D]? = some (.deferred (some [])))
    (fun a _ => l.length - (intOf (a.tmps.getD 13 undef)).toNat) ?start ?round
  case start => exact ⟨0, [], _, _, _, _, _, _, _, _, _, _, _, _, _, _, Nat.zero_le _, rfl, bO, hown0.alloc _, hB0, by simp, by simp, by simp⟩
  case round =>
    rintro a wr ⟨k, Ds, u5, u6, u14, u15, u16, u17, u18, u19, u20, u21, u22, u23, u24, u25, hk, rfl, hv, hrow, hB, hnd, hDb, hDs⟩
    have Hnd := Lib.hid hnd
    have HDb := Lib.hid hDb
    have HDs := Lib.hid hDs
    clear hnd hDb hDs
    by_cases hlt : k < l.length
    · obtain ⟨ad, x, rfl, hx, hc⟩ := (h.below hB).get_ hlt
      have hxb := Hb.out x (List.mem_of_getElem? hx)
      obtain ⟨N, rfl⟩ := Int.eq_ofNat_of_zero_le hxb.1
      have hN : N ≤ 255 := by omega
      have hsn := spreadL_snoc hx
      have Hsn := Lib.hid hsn
      clear hsn hx hxb
      gi_wp2_with (gi_at_call 61; refine (shifts_in F (n - 1) h4 hro _ _ _).mono ?_; rintro e w' ⟨rfl, rfl⟩)
      have hzr := hB.size
      have bN : Boxed ((wr.alloc (.cells #[.int .i64 N] 3)).alloc (.cells #[.int .i64 8] 3)) wr.heap.size 3 (.int .i64 N) := (Boxed.new wr 3 (.int .i64 N)).alloc _
      have bM : Boxed ((wr.alloc (.cells #[.int .i64 N] 3)).alloc (.cells #[.int .i64 8] 3)) (wr.heap.size + 1) 3 (.int .i64 ((8 : Nat) : Int)) := by
        have := Boxed.new (wr.alloc (.cells #[.int .i64 N] 3)) 3 (.int .i64 8)
        rw [World.size_alloc] at this
        exact this
      have hB1 : Below w.heap.size w ((wr.alloc (.cells #[.int .i64 N] 3)).alloc (.cells #[.int .i64 8] 3)) := (hB.alloc hzr _).alloc (by simp; omega) _
      have hvlt := hv.lt
      have hDlt : ∀ D ∈ Ds, D < wr.heap.size := fun D hD => (Array.getElem?_eq_some_iff.1 (HDs.out D hD)).1
      have HDlt := Lib.hid hDlt
      clear hDlt
      have hDs1 : ∀ D ∈ Ds, ((wr.alloc (.cells #[.int .i64 N] 3)).alloc (.cells #[.int .i64 8] 3)).heap[D]? = some (.deferred (some [])) := fun D hD =>
        (Below.heap_alloc _ _ D (by have := HDlt.out D hD; simp; omega)).trans ((Below.heap_alloc _ _ D (HDlt.out D hD)).trans (HDs.out D hD))
      refine wpIn_rangeFunc_ownG hro h1 (gf := 76) (lb := #[.pointer (some ⟨wr.heap.size + 1, 0, none⟩), .pointer (some ⟨wr.heap.size, 0, none⟩)]) rfl h5 (enters_of Try.func76 (by kernel_rfl) rfl)
        (shifts_stops F (n - 1) h5 hro (by omega) (wr.heap.size + 1) wr.heap.size N 8 (by omega) (by omega) _ bM bN) Kept2.trans (fun W l o o' _ h ho _ => Kept2.putObj W l o o' h ho) (Below.refl _ _) (fun _ => rfl)
        (fun pre W => (((((Boxed W w0.heap.size 25 (.slice (some ⟨w.heap.size, 0, none⟩) (8 * k + pre.length) (8 * l.length)) ∧ Boxed W wr.heap.size 3 (.int .i64 N)) ∧ Boxed W (wr.heap.size + 1) 3 (.int .i64 ((8 : Nat) : Int))) ∧
          W.ownsRow w.heap.size 3 1 (.slice (some ⟨w.heap.size, 0, none⟩) (8 * k + pre.length) (8 * l.length)) (8 * k + pre.length) ((spreadL (l.take k) ++ pre).map (Value.int .i64))) ∧ Below w.heap.size w W) ∧ (∀ D ∈ Ds, W.heap[D]? = some (.deferred (some [])))))
        (fun _ _ _ => False)
        (OwnFrom.and (OwnFrom.and (OwnFrom.and (OwnFrom.and (OwnFrom.and (Own.from (boxed_own _ _ _) _) (Own.from (boxed_own _ _ _) _)) (Own.from (boxed_own _ _ _) _)) (row_own _ _ _ _ _ _ _)) (ownFrom_below (Nat.le_refl _) (by simp; omega))) (defs_own _ Ds (fun D hD => by have := HDlt.out D hD; simp; omega)))
        (fun _ _ _ _ _ hs _ _ => hs)
        ⟨⟨⟨⟨⟨(hv.alloc _).alloc _, bN⟩, bM⟩, by simpa using (hrow.alloc _).alloc _⟩, hB1⟩, hDs1⟩
        (fun x => { tmps := #[.slice (some ad) l.length c, undef, .slice none 0 0, .pointer (some ⟨w0.heap.size, 0, none⟩), undef, .int .u8 N, .int .i64 x, .slice (some ad) l.length c, .int .i64 l.length, .int .i64 (l.length * 8), .slice (some ⟨w.heap.size, 0, none⟩) 0 (8 * l.length), .slice (some ad) l.length c, .int .i64 l.length, .int .i64 k, .bool true, .pointer (some (ad.add k)), .int .u8 N, .int .u8 N, .int .i64 N, .func (.func 76) #[] #[.pointer (some ⟨wr.heap.size + 1, 0, none⟩), .pointer (some ⟨wr.heap.size, 0, none⟩)], .int .i64 x, u21, u22, u23, u24, u25, undef], defers := [] }) ?assign ?body ?done ?stop
      case assign =>
        intro l x W K hK
        gi_wp2
        exact hK
      case body =>
        rintro lp pre x W ⟨⟨⟨⟨⟨hv, hvn⟩, hvm⟩, hrow⟩, hB⟩, hDs⟩ hlt8
        have hc := hv.cell
        have HDs2 := Lib.hid hDs
        clear hDs
        gi_wp2_with (gi_at_builtin; refine wpListIn_append_fits _ rfl _ _ 25 rfl w.heap.size 3 i0 1 Try.underlying25 hi hz1 w.heap.size (8 * k + pre.length) (8 * l.length) _ rfl (hrow.alloc _) ⟨W.heap.size, 0, none⟩ 1 1 [.int .i64 x] rfl rfl (cell_one_new _ _ _) (by simp [Value.oneCell']) (by omega) ?_; intro w1 hown' hgrow; obtain ⟨hv1, hv2, hr2, hk2, hb2, ho2⟩ := coll_step hv (by decide) hrow hB.size hz hown' hgrow; have hc1 := hv1.cell; have hf1 := hv1.frozen)
        have hvn2 := ho2 _ _ _ hvn (by omega) (by omega)
        have hvm2 := ho2 _ _ _ hvm (by omega) (by omega)
        refine ⟨hk2.from _, Kept2.boxed hvm hvn hvm2 hvn2, ⟨⟨⟨⟨by simpa [Nat.add_assoc] using hv2, hvn2⟩, hvm2⟩, by simpa [Nat.add_assoc] using hr2⟩, hB.trans hb2⟩, fun D hD => hk2.same D _ (HDs2.out D hD) rfl⟩
      case done =>
        rintro D ys W hD rfl ⟨⟨⟨⟨⟨hv, hvn⟩, hvm⟩, hrow⟩, hB⟩, hDs⟩ hK
        have HDs2 := Lib.hid hDs
        clear hDs
        gi_wp2
        have hl8 : (bitRow N 8 8).length = 8 := by simp [bitRow]
        rw [hl8] at hv hrow
        refine ⟨⟨k + 1, D :: Ds, _, _, _, _, _, _, _, _, _, _, _, _, _, _, by omega, rfl, hv, ?_, hB, ?_, ?_, ?_⟩, by simp [intOf]; omega⟩
        · have e : spreadL (l.take (k + 1)) = spreadL (l.take k) ++ bitRow N 8 8 := by rw [Hsn.out]; rfl
          rw [e]
          exact hrow
        · rw [List.nodup_cons]
          refine ⟨fun hin => ?_, Hnd.out⟩
          have := HDlt.out D hin
          simp at hD
          omega
        · intro D' h'
          rcases List.mem_cons.1 h' with rfl | h'
          · simp at hD; omega
          · exact HDb.out D' h'
        · intro D' h'
          rcases List.mem_cons.1 h' with rfl | h'
          · exact hK
          · exact HDs2.out D' h'
      case stop =>
        rintro D c pre W _ _ h _
        exact h.elim
    · obtain rfl : k = l.length := by omega
      have hc := hv.cell
      gi_wp2
      refine leaves_marks (fun W => W.ownsRow w.heap.size 3 1 (.slice (some ⟨w.heap.size, 0, none⟩) (8 * l.length) (8 * l.length)) (8 * l.length) ((spreadL l).map (Value.int .i64)) ∧ Below w.heap.size w W) w.heap.size
        (fun W D hD hK hq => ⟨ownsRow_putObj hq.1 _ hK rfl, hq.2.trans (belowK_b (w := w) (Nat.le_refl _) W D _ _ hD hK rfl rfl)⟩) (fun W hq => ⟨_, results_tmp rfl _ _ _, rfl, hq.1, hq.2⟩) Ds wr Hnd.out (fun D hD => ⟨HDb.out D hD, HDs.out D hD⟩) ⟨?_, hB⟩
      rw [List.take_length] at hrow
      exact hrow

theorem spread_any (l : List Int) (A : Option Addr) (c : Nat) (w : World) (h : Row .u8 w w.heap.size A l) (hb : ∀ x ∈ l, 0 ≤ x ∧ x ≤ 255) (hm : l.length * 64 ≤ 140737488355328) :
    Calls Try.prog 54 #[.slice A l.length c] w fun e W' => e = .returned (.slice (some ⟨w.heap.size, 0, none⟩) (8 * l.length) (8 * l.length)) ∧ W'.ownsRow w.heap.size 3 1 (.slice (some ⟨w.heap.size, 0, none⟩) (8 * l.length) (8 * l.length)) (8 * l.length) ((spreadL l).map (Value.int .i64)) ∧ Below w.heap.size w W' :=
  callsIn_wide.1 (spread_in Fence.wide 3 trivial trivial trivial rfl (Nat.le_refl _) l A c w h hb hm)

end Go.Proofs.Ytmapkjjglhpamaa
