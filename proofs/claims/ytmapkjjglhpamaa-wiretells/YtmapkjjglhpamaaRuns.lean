/-
  stuff.Runs: the longest run, by an iterator over the lengths of the runs.
-/
import Derived.Test.YtmapkjjglhpamaaStuff
import Derived.Test.YtmapkjjglhpamaaSeq
namespace Go.Proofs.Ytmapkjjglhpamaa
open Go.RowKit Go.Shelf

attribute [local go_sem] Oper.semAt_some

/-- The cells of every block but one are kept. -/
def KeptBut (Bo : Nat) (W W' : World) : Prop := ∀ k o, k ≠ Bo → W.heap[k]? = some o → o.isCells = true → W'.heap[k]? = some o
theorem KeptBut.trans {Bo : Nat} {A B C : World} (h : KeptBut Bo A B) (k : KeptBut Bo B C) : KeptBut Bo A C := fun i o hi e hc => k i o hi (h i o hi e hc) hc
theorem KeptBut.put {Bo : Nat} (W : World) (l : Nat) (o o' : Obj) (h : W.heap[l]? = some o) (ho : o.isCells = false) : KeptBut Bo W (W.putObj l o') := by
  intro k p _ e hc
  have : k ≠ l := by
    rintro rfl
    rw [h] at e
    cases e
    rw [ho] at hc
    cases hc
  exact (World.putObj_heap_other (by omega)).trans e
theorem KeptBut.set (Bo : Nat) (W : World) (v : Value) : KeptBut Bo W (W.setCell ⟨Bo, 0, none⟩ v) := fun k _ hk e _ => (Below.heap_setCell _ _ _ _ (by simpa using hk)).trans e
theorem KeptBut.boxed {Bo : Nat} {W W' : World} (h : KeptBut Bo W W') {B : Nat} {t : TypeId} {v : Value} (hb : Boxed W B t v) (hne : B ≠ Bo) : Boxed W' B t v := h B _ hne hb rfl
theorem KeptBut.cell {Bo : Nat} {W W' : World} (h : KeptBut Bo W W') {p : Addr} {v : Value} (hne : p.block ≠ Bo) (e : W.cell? p = some v) : W'.cell? p = some v := by
  unfold World.cell? at e ⊢
  cases hk : W.heap[p.block]? with
  | none => rw [hk] at e; cases e
  | some o =>
    cases o with
    | cells cs t fr => rw [h _ _ hne hk rfl]; rw [hk] at e; exact e
    | _ => rw [hk] at e; cases e
theorem KeptBut.row {Bo : Nat} {W W' : World} (h : KeptBut Bo W W') {κ : IntKind} {A : Option Addr} {l : List Int} (hr : Row κ W Bo A l) : Row κ W' Bo A l := by
  rcases hr with rfl | ⟨ad, e, hb, hc⟩
  · exact .inl rfl
  · exact .inr ⟨ad, e, hb, fun k x hx => h.cell (by rw [addr_block]; omega) (hc k x hx)⟩

theorem Row.at_ {κ : IntKind} {w : World} {B : Nat} {ad : Addr} {l : List Int} (h : Row κ w B (some ad) l) {j : Nat} {x : Int} (hx : l[j]? = some x) : w.cell? (ad.add j) = some (.int κ x) := by
  rcases h with rfl | ⟨ad', e, _, hc⟩
  · simp at hx
  · cases e; exact hc j x hx

/-- What comes out of the iterator. -/
def Comes (l : List Int) (pre : List Nat) (s : Int × Nat) (k : Nat) : Prop := pre ++ endsF s (l.drop k) = endsF (0, 0) l
theorem Comes.last {l : List Int} {pre : List Nat} {s : Int × Nat} {k : Nat} {x : Int} (h : Comes l pre s k) (hx : l[k]? = some x) (hk : l[k + 1]? = none) : Comes l (pre ++ [(tick s x).2]) (tick s x) (k + 1) := by
  unfold Comes at h ⊢
  have e : l.drop (k + 1) = [] := by simpa using hk
  rw [drop_at hx, e] at h
  rw [← h, e]
  simp [endsF]
theorem Comes.ends {l : List Int} {pre : List Nat} {s : Int × Nat} {k : Nat} {x y : Int} (h : Comes l pre s k) (hx : l[k]? = some x) (hy : l[k + 1]? = some y) (hne : y ≠ x) : Comes l (pre ++ [(tick s x).2]) (tick s x) (k + 1) := by
  unfold Comes at h ⊢
  rw [drop_at hx, drop_at hy] at h
  rw [← h, drop_at hy]
  simp [endsF, hne]
theorem Comes.goes {l : List Int} {pre : List Nat} {s : Int × Nat} {k : Nat} {x : Int} (h : Comes l pre s k) (hx : l[k]? = some x) (hy : l[k + 1]? = some x) : Comes l pre (tick s x) (k + 1) := by
  unfold Comes at h ⊢
  rw [drop_at hx, drop_at hy] at h
  rw [← h, drop_at hy]
  simp [endsF]

theorem follow1_in_at {F : Fence} {n : Nat} (hf : F.fn 79) (hro : F.round = none) {W : World} {B : Nat} {s : Int × Nat} (x : Int) (m : Nat) (hm : tick s x = (x, m)) (h : Run2 W B s) (hs : s.2 < 4611686018427387904) :
    CallsIn F n Try.prog 79 #[.int .i64 x, .pointer (some ⟨B, 0, none⟩), .pointer (some ⟨B + 1, 0, none⟩)] W fun e w' => e = .returned (.int .i64 m) ∧ Run2 w' B (x, m) ∧ Only B W w' := by
  have := follow1_in F n hf hro W B s x h hs
  rw [hm] at this
  exact this

set_option maxRecDepth 100000 in
set_option maxHeartbeats 2000000 in
theorem runs1_in (F : Fence) (n : Nat) (h1 : F.fn 88) (h2 : F.fn 65) (h3 : F.fn 79) (hro : F.round = none) (hn : 2 ≤ n) (yl Bo Bl : Nat) (l : List Int) (A : Option Addr) (c : Nat) (hm : l.length ≤ 100000) (J : List Nat → World → Prop) (W : World) (hJ : Bides W.heap.size J)
    (hY : ∀ pre x A, J pre A → pre.length < l.length → YieldAt F (n - 1) Try.prog yl #[.int .i64 (x : Nat)] A fun e W' => e = .returned (.bool true) ∧ J (pre ++ [x]) W' ∧ KeptBut Bo A W')
    (hr : Row .i64 W Bo A l) (hb : Boxed W Bl 25 (.slice A l.length c)) (hBo : Bo < Bl) (h0 : J [] W) :
    CallsIn F n Try.prog 88 #[.func (.yield yl) #[] #[], .pointer (some ⟨Bl, 0, none⟩)] W fun e W' => (∃ v, e = .returned v) ∧ ∃ ys, ys = endsF (0, 0) l ∧ J ys W' := by
  refine callsIn_of_wp Try.func88 rfl h1 ?_ hro
  simp only [Try.ntmps88, List.size_toArray, List.length_cons, List.length_nil, Nat.reduceAdd, Nat.reduceSub, Array.replicate_succ, Array.replicate_zero, List.push_toArray, List.append_toArray, List.nil_append, List.cons_append]
  have hBl := hb.lt
  have hn1 : 1 ≤ n := by omega
  gi_wp2_with (gi_at_call 65; refine (follow_in F (n - 1) h2 hro _).mono ?_; rintro e w1 ⟨rfl, hrun, hB1, hz⟩; have hb1 : Boxed w1 Bl 25 (.slice A l.length c) := (hB1.block _ hBl).trans hb; have hc1 := hb1.cell)
  gi_loopw [11] (fun i wr => ∃ (k q : Nat) (v : Int) (pre : List Nat), k ≤ l.length ∧ i = .int .i64 k ∧ q ≤ k ∧ pre.length ≤ k ∧ Run2 wr W.heap.size (v, q) ∧ Boxed wr Bl 25 (.slice A l.length c) ∧ Row .i64 wr Bo A l ∧ W.heap.size < wr.heap.size ∧ J pre wr ∧ Comes l pre (v, q) k)
    (fun i _ => l.length - (intOf i).toNat)
  case atStart => exact ⟨0, 0, 0, [], Nat.zero_le _, rfl, Nat.le_refl _, Nat.le_refl _, hrun, hb1, hr.move (fun p hp => (hB1.mono (by omega)).cell hp), by omega, hJ _ _ _ h0 hB1, rfl⟩
  case round =>
    clear hr hrun hB1 hz hb1 hc1 h0 hb
    obtain ⟨k, q, v, pre, hk, rfl, hqk, hpk, hrun, hb, hr, hsz, hj, hC⟩ := hrel
    have hcb := hb.cell
    by_cases hlt : k < l.length
    · obtain ⟨ad, x, rfl, hx, hc⟩ := hr.get_ hlt
      obtain ⟨q', hq⟩ : ∃ q', tick (v, q) x = (x, q') := ⟨_, rfl⟩
      have hq1 := tick_le (v, q) x
      rw [hq] at hq1
      simp only at hq1
      have Hq := Lib.hid hq
      have hq62 : (v, q).2 < 4611686018427387904 := by simp only; omega
      have fin : ∀ (w3 : World), Only W.heap.size wr w3 → Boxed w3 Bl 25 (.slice (some ad) l.length c) ∧ Row .i64 w3 Bo (some ad) l ∧ W.heap.size < w3.heap.size ∧ J pre w3 := fun w3 hO =>
        ⟨hO.boxed hb (by omega) (by omega), hr.move (fun p hp => hO.below.cell (by omega)), by rw [hO.size]; exact hsz, hJ _ _ _ hj hO.below⟩
      have Fin := Lib.hid fin
      clear fin
      by_cases hl : k + 1 < l.length
      · obtain ⟨y, hy⟩ : ∃ y, l[k + 1]? = some y := ⟨_, List.getElem?_eq_getElem hl⟩
        have d1 : ((k : Int) == (l.length : Int) - 1) = false := by simp; omega
        have Hy := Lib.hid hy
        by_cases hxy : y = x
        · subst hxy
          have hK := hC.goes hx hy
          rw [hq] at hK
          have HK := Lib.hid hK
          clear hK hC hx hq hy
          gi_wp2_with (gi_at_call 79; refine (follow1_in_at h3 hro y q' Hq.out hrun hq62).mono ?_; rintro e w3 ⟨rfl, hrun3, hO3⟩; obtain ⟨hb3, hr3, hsz3, hj3⟩ := Fin.out w3 hO3; have hcb3 := hb3.cell; have hcy := hr3.at_ Hy.out; simp [Addr.add] at hcy)
          refine ⟨(fun f e => nomatch e), ?_⟩
          gi_wp2
          go_roundw
          case rel => exact ⟨k + 1, q', y, pre, by omega, by go_num, by omega, by omega, hrun3, hb3, hr3, hsz3, hj3, HK.out⟩
          case measure => simp [intOf]; omega
        · have hK := hC.ends hx hy hxy
          rw [hq] at hK
          have HK := Lib.hid hK
          have d2 : (y != x) = true := by simp [hxy]
          clear hK hC hx hq hy
          gi_wp2_with (gi_at_call 79; refine (follow1_in_at h3 hro x q' Hq.out hrun hq62).mono ?_; rintro e w3 ⟨rfl, hrun3, hO3⟩; obtain ⟨hb3, hr3, hsz3, hj3⟩ := Fin.out w3 hO3; have hcb3 := hb3.cell; have hcy := hr3.at_ Hy.out; simp [Addr.add] at hcy; obtain ⟨fn, tmps, assign, body, hy, hRR⟩ := hY pre q' w3 hj3 (by omega))
          refine hRR.mono ?_
          rintro e w4 ⟨rfl, hj4, hk4⟩
          gi_wp2
          go_roundw
          case rel => exact ⟨k + 1, q', x, pre ++ [q'], by omega, by go_num, by omega, by simp; omega, ⟨hk4.boxed hrun3.1 (by omega), hk4.boxed hrun3.2 (by omega)⟩, hk4.boxed hb3 (by omega), hk4.row hr3, hk4.boxed hrun3.1 (by omega) |>.lt, hj4, HK.out⟩
          case measure => simp [intOf]; omega
      · obtain hkl : l.length = k + 1 := by omega
        have hK := hC.last hx (by simp; omega)
        rw [hq] at hK
        have HK := Lib.hid hK
        have d1 : ((k : Int) == (l.length : Int) - 1) = true := by simp; omega
        have Hkl := Lib.hid hkl
        clear hK hC hx hq hkl hl
        gi_wp2_with (gi_at_call 79; refine (follow1_in_at h3 hro x q' Hq.out hrun hq62).mono ?_; rintro e w3 ⟨rfl, hrun3, hO3⟩; obtain ⟨hb3, hr3, hsz3, hj3⟩ := Fin.out w3 hO3; have hcb3 := hb3.cell; obtain ⟨fn, tmps, assign, body, hy, hRR⟩ := hY pre q' w3 hj3 (by omega))
        refine hRR.mono ?_
        rintro e w4 ⟨rfl, hj4, hk4⟩
        gi_wp2
        go_roundw
        case rel => exact ⟨k + 1, q', x, pre ++ [q'], by omega, by go_num, by omega, by simp; omega, ⟨hk4.boxed hrun3.1 (by omega), hk4.boxed hrun3.2 (by omega)⟩, hk4.boxed hb3 (by omega), hk4.row hr3, hk4.boxed hrun3.1 (by omega) |>.lt, hj4, HK.out⟩
        case measure => simp [intOf]; omega
    · obtain rfl : k = l.length := by omega
      have hF : pre = endsF (0, 0) l := by
        unfold Comes at hC
        simpa [endsF] using hC
      gi_wp2
      go_end0
      exact ⟨⟨_, rfl⟩, _, hF, hj⟩

theorem runs_seq (F : Fence) (n : Nat) (h1 : F.fn 88) (h2 : F.fn 65) (h3 : F.fn 79) (hro : F.round = none) (hn : 2 ≤ n) (Bo Bl : Nat) (l : List Int) (A : Option Addr) (c : Nat) (hm : l.length ≤ 100000) (w : World)
    (hr : Row .i64 w Bo A l) (hb : Boxed w Bl 25 (.slice A l.length c)) (hBo : Bo < Bl) :
    SeqOn F n Try.prog 88 #[.pointer (some ⟨Bl, 0, none⟩)] (fun x : Nat => #[Value.int .i64 x]) (KeptBut Bo) (fun ys => ys = endsF (0, 0) l) l.length w := fun yl J W hW hJ hY h0 =>
  runs1_in F n h1 h2 h3 hro hn yl Bo Bl l A c hm J W hJ hY (hr.move (fun p hp => hW.cell (by have := hb.lt; omega))) ((hW.block _ hb.lt).trans hb) hBo h0

set_option maxHeartbeats 1000000 in
theorem runs_in (F : Fence) (n : Nat) (hf : F.fn 87) (hro : F.round = none) (A : Option Addr) (m c : Nat) (w : World) :
    CallsIn F n Try.prog 87 #[.slice A m c] w fun e w' => e = .returned (.func (.func 88) #[] #[.pointer (some ⟨w.heap.size, 0, none⟩)]) ∧ w' = w.alloc (.cells #[.slice A m c] 25) := by
  refine callsIn_of_wp Try.func87 rfl hf ?_ hro
  simp only [Try.ntmps87, List.size_toArray, List.length_cons, List.length_nil, Nat.reduceAdd, Nat.reduceSub, Array.replicate_succ, Array.replicate_zero, List.push_toArray, List.append_toArray, List.nil_append, List.cons_append]
  gi_wp2
  go_ret
  exact ⟨rfl, rfl⟩

set_option maxRecDepth 100000 in
set_option maxHeartbeats 2000000 in
theorem runsAll_in (F : Fence) (n : Nat) (h4 : F.fn 80) (h5 : F.fn 87) (h1 : F.fn 88) (h2 : F.fn 65) (h3 : F.fn 79) (hro : F.round = none) (hn : 4 ≤ n) (l : List Int) (A : Option Addr) (c : Nat) (hm : l.length ≤ 100000) (w : World) (hr : Row .i64 w w.heap.size A l) :
    CallsIn F n Try.prog 80 #[.slice A l.length c] w fun e w' => e = .returned (.int .i64 (runsL l)) ∧ Below w.heap.size w w' := by
  have hn1 : 1 ≤ n := by omega
  refine callsIn_of_wp_marks Try.func80 rfl h4 ?_ hro
  simp only [Try.ntmps80, List.size_toArray, List.length_cons, List.length_nil, Nat.reduceAdd, Nat.reduceSub, Array.replicate_succ, Array.replicate_zero, List.push_toArray, List.append_toArray, List.nil_append, List.cons_append]
  gi_wp2_with (gi_at_call 87; refine (runs_in F (n - 1) h5 hro _ _ _ _).mono ?_; rintro e w' ⟨rfl, rfl⟩)
  have bO := Boxed.new w 3 (.int .i64 0)
  have bL := Boxed.new (w.alloc (.cells #[.int .i64 0] 3)) 25 (.slice A l.length c)
  simp only [World.size_alloc] at bL
  have hB0 : Below w.heap.size w ((w.alloc (.cells #[.int .i64 0] 3)).alloc (.cells #[.slice A l.length c] 25)) := ((Below.refl _ _).alloc (Nat.le_refl _) _).alloc (by simp) _
  refine wpIn_rangeFunc_on hro hn1 (gf := 88) (lb := #[.pointer (some ⟨w.heap.size + 1, 0, none⟩)]) rfl h1 (enters_of Try.func88 (by kernel_rfl) rfl)
    (runs_seq F (n - 1) h1 h2 h3 hro (by omega) w.heap.size (w.heap.size + 1) l A c hm _ (hr.below hB0) bL (by omega)) (fun h k => h.trans k) (fun W l o o' h ho => KeptBut.put W l o o' h ho) (fun _ => rfl)
    (fun pre W => Boxed W w.heap.size 3 (.int .i64 ((pre.foldl max 0 : Nat) : Int)) ∧ Below w.heap.size w W)
    (fun s X Y hs hb => ⟨(hb.block _ (by simp; omega)).trans hs.1, hs.2.trans (hb.mono (by simp; omega))⟩)
    ⟨bO.alloc _, hB0⟩
    (fun x => { tmps := #[.slice A l.length c, undef, .int .i64 0, .pointer (some ⟨w.heap.size, 0, none⟩), .int .i64 (x : Nat), .slice A l.length c, .func (.func 88) #[] #[.pointer (some ⟨w.heap.size + 1, 0, none⟩)], .int .i64 (x : Nat), undef, undef, undef, undef], defers := [] }) ?assign ?body ?done
  case assign =>
    intro yl x W K hK
    gi_wp2
    exact hK
  case body =>
    rintro yl pre x W ⟨hv, hB⟩ hlt
    have hc := hv.cell
    have hf := hv.frozen
    have e : (pre ++ [x]).foldl max 0 = max (pre.foldl max 0) x := by simp
    obtain ⟨m, hm'⟩ : ∃ m, pre.foldl max 0 = m := ⟨_, rfl⟩
    rw [hm'] at hc hv e
    have E := Lib.hid e
    clear e hm'
    by_cases hx : m < x
    · have d1 : decide ((m : Int) < x) = true := by simp; omega
      gi_wp2
      refine ⟨(KeepsOthers.setCell _ _ _).from _, KeptBut.set _ _ _, ?_, hB.setCell (p := ⟨w.heap.size, 0, none⟩) (Nat.le_refl _) _⟩
      rw [E.out, Nat.max_eq_right (by omega)]
      exact hv.set _
    · have d1 : decide ((m : Int) < x) = false := by simp; omega
      gi_wp2
      refine ⟨(KeepsOthers.setCell _ _ _).from _, KeptBut.set _ _ _, ?_, hB.setCell (p := ⟨w.heap.size, 0, none⟩) (Nat.le_refl _) _⟩
      rw [E.out, Nat.max_eq_left (by omega)]
      exact hv.set _
  case done =>
    rintro D ys W hD rfl ⟨hv, hB⟩ hK
    have e0 : (endsF (0, 0) l).foldl max 0 = runsL l := by rw [ends_runs]; simp [runsL]
    rw [e0] at hv
    clear e0
    have hc := hv.cell
    gi_wp2
    refine ⟨by simp, .inl ⟨_, _, rfl, run_takeDeferred hK, ?_⟩⟩
    exact ⟨_, results_tmp rfl _ _ _, rfl, hB.trans (below_put W _ (by simp at hD; omega))⟩

theorem runs_any (l : List Int) (A : Option Addr) (c : Nat) (hm : l.length ≤ 100000) (w : World) (hr : Row .i64 w w.heap.size A l) :
    Calls Try.prog 80 #[.slice A l.length c] w fun e w' => e = .returned (.int .i64 (runsL l)) ∧ Below w.heap.size w w' :=
  callsIn_wide.1 (runsAll_in Fence.wide 4 trivial trivial trivial trivial trivial rfl (Nat.le_refl _) l A c hm w hr)

end Go.Proofs.Ytmapkjjglhpamaa
