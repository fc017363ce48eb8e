/-
  The document's own answers of layer 3: five, Stuff, Strip, Runs.
-/
import Derived.Test.YtlbefdonpnignaaLaw3
namespace Go.Proofs.Ytlbefdonpnignaa
open Go.RowKit

set_option maxRecDepth 100000 in
set_option maxHeartbeats 1000000 in
theorem five_any (l : List Int) (A : Option Addr) (c B : Nat) (w : World) (h : Row .i64 w B A l) (hm : l.length ≤ 100000) :
    Calls Try.prog 22 #[.slice A l.length c] w fun e w' => e = .returned (.bool (fiveB l)) ∧ ∃ q, w' = w.drewN q := by
  by_cases h5 : l.length < 5
  · have d : decide ((l.length : Int) < 5) = true := by simp; omega
    have Hf := Lib.hid (fiveB_short h5)
    clear h5
    go_enter Try.func22, Try.ntmps22
    go_wp2
    go_ret
    exact ⟨ret_bool Hf.out.symm, 0, rfl⟩
  · obtain ⟨m, hl⟩ : ∃ m, l.length = m + 5 := ⟨l.length - 5, by omega⟩
    have Hl := Lib.hid hl
    obtain ⟨v, hv⟩ : ∃ v, (runOf l).1 = v := ⟨_, rfl⟩
    have hlast : l[m + 4]? = some v := by
      have := runOf_last (l := l) (by omega)
      rw [hv, hl] at this
      exact this
    obtain ⟨ad, rfl⟩ : ∃ ad, A = some ad := by
      obtain ⟨ad, _, e, _⟩ := h.get_ (k := 0) (by omega)
      exact ⟨ad, e⟩
    have cv := Row.at_ h hlast
    simp [Addr.add] at cv
    have Hv := Lib.hid hv
    rw [hl] at hm ⊢
    have d : decide ((m : Int) + 5 < 5) = false := by simp; omega
    clear h5 hl hlast hv
    go_enter Try.func22, Try.ntmps22
    go_wp2
    go_loopw [4] (fun i wr => ∃ k q : Nat, m ≤ k ∧ k ≤ m + 5 ∧ i = .int .i64 k ∧ (∀ j, m ≤ j → j < k → l[j]? = some v) ∧ wr = w.drewN q) (fun i _ => m + 5 - (intOf i).toNat)
    case atStart => exact ⟨m, 0, Nat.le_refl _, by omega, by go_num, fun j h1 h2 => absurd h2 (by omega), rfl⟩
    case round =>
      obtain ⟨k, q, hmk, hk, rfl, hr, rfl⟩ := hrel
      have Hr := Lib.hid hr
      clear hr
      by_cases hlt : k < m + 5
      · obtain ⟨x, hx⟩ : ∃ x, l[k]? = some x := ⟨_, List.getElem?_eq_getElem (by rw [Hl.out]; exact hlt)⟩
        have cx := Row.at_ h hx
        have Hx := Lib.hid hx
        have dk : decide ((k : Int) < (m : Int) + 5) = true := by simp; omega
        clear hx
        by_cases hxv : x = v
        · subst hxv
          have dv : (x != x) = false := by simp
          go_wp2
          go_quiet (fail)
          go_wp2
          refine ⟨⟨k + 1, _, by omega, by omega, by go_num, fun j h1 h2 => ?_, rfl⟩, by simp [intOf]; omega⟩
          by_cases hjk : j < k
          · exact Hr.out j h1 hjk
          · obtain rfl : j = k := by omega
            exact Hx.out
        · have dv : (x != v) = true := by simp [hxv]
          have Hf := Lib.hid (fiveB_no (l := l) (by rw [Hl.out]; omega) (j := k) (by rw [Hl.out]; omega) (by rw [Hl.out]; exact hlt) Hx.out (by rw [Hv.out]; exact hxv))
          clear hxv
          go_wp2
          go_quiet (fail)
          go_wp2
          go_ret
          exact ⟨ret_bool Hf.out.symm, q + nq, by rw [World.drewN_drewN]⟩
      · obtain rfl : k = m + 5 := by omega
        have Hf := Lib.hid (fiveB_yes (l := l) (by rw [Hl.out]; omega) (fun j h1 h2 => by rw [Hv.out]; exact Hr.out j (by rw [Hl.out] at h1; omega) (by rw [Hl.out] at h2; exact h2)))
        go_wp2
        go_ret
        exact ⟨ret_bool Hf.out.symm, q, rfl⟩

theorem five_at {w : World} {A : Option Addr} {l : List Int} {n B : Nat} (c : Nat) (hn : l.length = n) (h : Row .i64 w B A l) (hm : n ≤ 100000) {r : Bool} (hr : fiveB l = r) :
    Calls Try.prog 22 #[.slice A n c] w fun e w' => e = .returned (.bool r) ∧ ∃ q, w' = w.drewN q := by
  subst hn hr; exact five_any l A c B w h hm

set_option maxRecDepth 100000 in
set_option maxHeartbeats 2000000 in
theorem refStuff_any (l : List Int) (A : Option Addr) (c : Nat) (w : World) (h : Row .i64 w w.heap.size A l) (hr : rightB l = true) (hm : l.length ≤ 10000) :
    Calls Try.prog 17 #[.slice A l.length c] w fun e w' => ∃ A' c' m, e = .returned (.slice A' m c') ∧ (stuffL l).length = m ∧
      w'.ownsRow w.heap.size 3 1 (.slice A' m c') m ((stuffL l).map (Value.int .i64)) ∧ Below w.heap.size w w' := by
  obtain ⟨i0, hi, hz0, hz1, hz2⟩ := info_parts Try.infoInt
  have HR := Lib.hid hr
  clear hr
  go_enter Try.func17, Try.ntmps17
  go_wp2_with fail
  go_loopw [3, 4] (fun o i wr => ∃ (k m : Nat) (A' : Option Addr) (c' : Nat), k ≤ l.length ∧ i = .int .i64 k ∧ (stuffL (l.take k)).length = m ∧ o = .slice A' m c' ∧
      wr.ownsRow w.heap.size 3 1 (.slice A' m c') m ((stuffL (l.take k)).map (Value.int .i64)) ∧ Below w.heap.size w wr)
    (fun _ i _ => l.length - (intOf i).toNat)
  case atStart => exact ⟨0, 0, _, 0, Nat.zero_le _, rfl, rfl, rfl, own_lit w .i64 [] 0 rfl 3 rfl (by decide), (Below.refl _ _).alloc (Nat.le_refl _) _⟩
  case round =>
    obtain ⟨k, m, A', c', hk, rfl, hml, rfl, hown, hB⟩ := hrel
    have hsz := hB.size
    by_cases hlt : k < l.length
    · obtain ⟨ad, x, rfl, hx, hc⟩ := (h.below hB).get_ hlt
      have hb := rightB_at HR.out hx
      have hx0 : 0 ≤ x := by omega
      have hx1 : x ≤ 1 := by omega
      have hfit : m ≤ k + k / 4 := by rw [← hml]; exact stuffL_take_len l k hk
      have hs4 := stuffS_le (l.take k) (0, 0) (by simp)
      have e1 := stuffF_snoc hx (0, 0)
      have hrun : runOf (stuffL (l.take k) ++ [x]) = tick (stuffS (0, 0) (l.take k)) x := by rw [runOf_snoc, runOf_stuff]
      obtain ⟨s, hs⟩ : ∃ s, stuffS (0, 0) (l.take k) = s := ⟨_, rfl⟩
      rw [hs] at e1 hs4 hrun
      clear hs
      obtain ⟨q, hq⟩ : ∃ q, tick s x = (x, q) := ⟨_, rfl⟩
      have hq5 : q ≤ 5 := by have := tick_le s x; rw [hq] at this; simp only at this; omega
      obtain ⟨u, hu⟩ : ∃ u, stuffL (l.take k) = u := ⟨_, rfl⟩
      rw [hu] at hrun hown hml
      have hul : (u ++ [x]).length = m + 1 := by rw [List.length_append, hml]; rfl
      have Hul := Lib.hid hul
      have Hx := Lib.hid hx
      by_cases h5 : q = 5
      · subst h5
        have e1' : stuffL (l.take (k + 1)) = u ++ [x] ++ [1 - x] := by
          rw [← hu]
          show stuffF _ _ = stuffF _ _ ++ _ ++ _
          rw [e1]; simp [stuffF, hq]
        have l2 : (stuffL (l.take (k + 1))).length = m + 1 + 1 := by rw [e1', List.length_append, hul]; rfl
        have HF := Lib.hid (show fiveB (u ++ [x]) = true by unfold fiveB; rw [hrun, hq]; rfl)
        have E1 := Lib.hid e1'
        have L2 := Lib.hid l2
        clear hx hb e1 e1' hq l2 hrun hu hml hul
        go_wp2_with (at_builtin; refine wpList_append_row _ .i64 rfl _ _ 22 rfl w.heap.size 3 i0 (.int .i64 0) 8 Try.underlying22 hi hz0 hz1 hz2 rfl _ m u rfl (hown.alloc _) (some ⟨wr.heap.size, 0, none⟩) 1 1 _ [x] rfl rfl (Row.lit wr .i64 [x] 3 rfl) (by unfold maxLen; omega) (by omega) (by simp; omega) ?_; intro A2 c2 w2 hown2 hc2 hB2)
        have hBB : Below w.heap.size w w2 := (hB.alloc hsz _).trans hB2
        refine (five_at _ Hul.out (Row.own hown2) (by omega) HF.out).mono ?_
        rintro e w3 ⟨rfl, dq, rfl⟩
        have hc3 : (w2.drewN dq).cell? (ad.add k) = some (.int .i64 x) := (h.below (below_drewN' hBB dq)).at_ Hx.out
        have hown3 : (w2.drewN dq).ownsRow w.heap.size 3 1 (.slice A2 (m + 1) c2) (m + 1) ((u ++ [x]).map (Value.int .i64)) := hown2
        go_wp2_with (at_builtin; refine wpList_append_row _ .i64 rfl _ _ 22 rfl w.heap.size 3 i0 (.int .i64 0) 8 Try.underlying22 hi hz0 hz1 hz2 rfl _ (m + 1) (u ++ [x]) rfl (hown3.alloc _) (some ⟨w2.heap.size, 0, none⟩) 1 1 _ [1 - x] rfl rfl (Row.lit (w2.drewN dq) .i64 [1 - x] 3 rfl) (by unfold maxLen; omega) (by omega) (by have := hBB.size; simp; omega) ?_; intro A4 c4 w4 hown4 hc4 hB4)
        have hBB4 : Below w.heap.size w w4 := ((below_drewN' hBB dq).alloc (by have := hBB.size; simpa using this) _).trans hB4
        exact ⟨⟨k + 1, m + 1 + 1, A4, c4, by omega, by go_num, L2.out, rfl, by rw [E1.out]; exact hown4, hBB4⟩, by simp [intOf]; omega⟩
      · have e1' : stuffL (l.take (k + 1)) = u ++ [x] := by
          rw [← hu]
          show stuffF _ _ = stuffF _ _ ++ _
          rw [e1]; simp [stuffF, hq, h5]
        have HF := Lib.hid (show fiveB (u ++ [x]) = false by unfold fiveB; rw [hrun, hq]; simp; omega)
        have E1 := Lib.hid e1'
        clear hx hb e1 e1' hq hrun hu hml hul
        go_wp2_with (at_builtin; refine wpList_append_row _ .i64 rfl _ _ 22 rfl w.heap.size 3 i0 (.int .i64 0) 8 Try.underlying22 hi hz0 hz1 hz2 rfl _ m u rfl (hown.alloc _) (some ⟨wr.heap.size, 0, none⟩) 1 1 _ [x] rfl rfl (Row.lit wr .i64 [x] 3 rfl) (by unfold maxLen; omega) (by omega) (by simp; omega) ?_; intro A2 c2 w2 hown2 hc2 hB2)
        have hBB : Below w.heap.size w w2 := (hB.alloc hsz _).trans hB2
        refine (five_at _ Hul.out (Row.own hown2) (by omega) HF.out).mono ?_
        rintro e w3 ⟨rfl, dq, rfl⟩
        go_wp2_with fail
        exact ⟨⟨k + 1, m + 1, A2, c2, by omega, by go_num, by rw [E1.out]; exact Hul.out, rfl, by rw [E1.out]; exact hown2, below_drewN' hBB dq⟩, by simp [intOf]; omega⟩
    · obtain rfl : k = l.length := by omega
      rw [List.take_length] at hml hown
      go_wp2
      go_ret
      exact ⟨A', c', m, rfl, hml, hown, hB⟩

/-- Two slices that own no block together. -/
def TwoRows (v v2 : Value) : Prop := ∀ g, v.ownBlock = some g → v2.ownBlock ≠ some g
theorem TwoRows.symm {v v2 : Value} (h : TwoRows v v2) : TwoRows v2 v := fun g e e' => h g e' e
theorem own_low {w : World} {base base' : Nat} {e : TypeId} {size : Nat} {v : Value} {n : Nat} {xs : List Value} (h : w.ownsRow base e size v n xs) (hb : base' ≤ base) : w.ownsRow base' e size v n xs := by
  refine ⟨h.1, ?_⟩
  rcases h.2 with h0 | ⟨g, cap, cur, hv, hg, hrest⟩
  · exact .inl h0
  · exact .inr ⟨g, cap, cur, hv, by omega, hrest⟩
theorem own_kept {w w' : World} {base : Nat} {e : TypeId} {size : Nat} {v v2 : Value} {n : Nat} {xs : List Value} (h : w.ownsRow base e size v2 n xs) (hg : w.grownBy w' v.ownBlock) (ht : TwoRows v v2) : w'.ownsRow base e size v2 n xs := by
  refine h.kept hg ?_
  rcases h.2 with ⟨rfl, _⟩ | ⟨g, cap, cur, rfl, _⟩
  · exact .inl rfl
  · refine .inr fun e' => ?_
    exact ht g (by rw [← e']; rfl) rfl

theorem wpList_append_two {P : Program} (w : World) {ops : Array Oper} {rest : List Oper} {o : Oper} {a : Act} {Q : Exit → Act → World → Prop} (κ : IntKind) (hw : Region.wanted o (yielded ops a.tmps) = true) (s x : Operand) (t : TypeId)
    (ho : o.op = .call { callee := .builtin .append, args := #[s, x], argTypes := #[t, t] })
    (base : Nat) (e : TypeId) (i : TypeInfo) (z : Value) (bytes : Nat) (ht : P.underlying t = some (.slice e)) (hi : P.info? e = some i) (hz : i.zero = some z)
    (hsize : i.size = 1) (hby : i.bytes = bytes) (hzs : z.cells.size = 1)
    (v : Value) (n : Nat) (l : List Int) (hs : a.eval s = v) (hown : w.ownsRow base e 1 v n (l.map (Value.int κ)))
    (ad : Addr) (m c B : Nat) (l' : List Int) (hx : a.eval x = .slice (some ad) m c) (hm : l'.length = m) (hr : Row κ w B (some ad) l')
    (h63 : n + m ≤ maxLen) (hbytes : (n + m) * bytes ≤ 140737488355328) (hbase : base ≤ w.heap.size)
    (v2 : Value) (n2 : Nat) (xs2 : List Value) (hown2 : w.ownsRow base e 1 v2 n2 xs2) (hT : TwoRows v v2)
    (h : ∀ A' c' w', w'.ownsRow base e 1 (.slice A' (n + m) c') (n + m) ((l ++ l').map (Value.int κ)) → Below base w w' → w'.ownsRow base e 1 v2 n2 xs2 → TwoRows (.slice A' (n + m) c') v2 → wpList P ops Q rest (a.put o.dst (.slice A' (n + m) c')) w') : wpList P ops Q (o :: rest) a w := by
  have hcells : ∀ j u, (l'.map (Value.int κ))[j]? = some u → w.cell? (ad.add j) = some u := by
    intro j u hu
    rw [List.getElem?_map, Option.map_eq_some_iff] at hu
    obtain ⟨x, hx, rfl⟩ := hu
    exact hr.at_ hx
  obtain ⟨v', w', hrun, h2, h3, _, h5⟩ := run_append_own_at (P := P) w base t o.type e i z 1 bytes ht hi hz hsize hby hzs (by omega) v n _ hown ad m c _ (by simp [hm]) hcells (ints_one κ l') h63 hbytes hbase
  rw [← List.map_append] at h2
  have hB : Below base w w' := (Below.refl _ _).grown h3 hbase (fun k e => (hown.lt k e).1)
  have k2 : w'.ownsRow base e 1 v2 n2 xs2 := own_kept hown2 h3 hT
  have kT : TwoRows v' v2 := by
    intro g e1 e2
    rcases h5 with h5 | h5
    · rw [h5] at e1; exact hT g e1 e2
    · rw [h5] at e1
      cases e1
      have := (hown2.lt _ e2).2
      omega
  obtain ⟨A', c', rfl⟩ : ∃ A' c', v' = .slice A' (n + m) c' := by
    rcases h2.2 with ⟨rfl, h0⟩ | ⟨g, cap, cur, rfl, _⟩
    · exact ⟨none, 0, by rw [h0]⟩
    · exact ⟨_, _, rfl⟩
  unfold wpList
  rw [if_pos hw]
  left
  unfold Oper.wp execOp
  simp only [ho, resolve, invoke, builtin, Sem.run_bind, Sem.run_pure, Result.andThen_ok, List.map_toArray, List.map_cons, List.map_nil, hs, hx, hrun]
  exact h A' c' w' h2 hB k2 kT

theorem runOf_one (x : Int) : runOf [x] = (x, 1) := by
  by_cases e : x = 0
  · subst e; rfl
  · simp [runOf, tick, e]
theorem strip_reset {sv x : Int} {sm : Nat} (h : x ≠ sv) : tick (sv, sm) x = runOf [x] := by
  rw [tick_other (s := (sv, sm)) h]
  by_cases e : x = 0
  · subst e; rfl
  · simp [runOf, tick, e]

set_option maxRecDepth 100000 in
set_option maxHeartbeats 2000000 in
theorem refStrip_any (l : List Int) (A : Option Addr) (c : Nat) (w : World) (h : Row .i64 w w.heap.size A l) (hm : l.length ≤ 10000) :
    Calls Try.prog 14 #[.slice A l.length c] w fun e w' => ∃ A' c' m, e = .returned (.tuple #[.slice A' m c', .int .i64 (placeI (stripL l).2)]) ∧ (stripL l).1.length = m ∧
      w'.ownsRow w.heap.size 3 1 (.slice A' m c') m ((stripL l).1.map (Value.int .i64)) ∧ Below w.heap.size w w' := by
  obtain ⟨i0, hi, hz0, hz1, hz2⟩ := info_parts Try.infoInt
  obtain ⟨R, hR⟩ : ∃ R, stripL l = R := ⟨_, rfl⟩
  have HR := Lib.hid hR
  rw [hR]
  clear hR
  go_enter Try.func14, Try.ntmps14
  go_wp2_with fail
  have ho0 : ((w.alloc (.cells #[] 3)).alloc (.cells #[] 3)).ownsRow w.heap.size 3 1 (.slice (some ⟨w.heap.size, 0, none⟩) 0 0) 0 (([] : List Int).map (Value.int .i64)) := (own_lit w .i64 [] 0 rfl 3 rfl (by decide)).alloc _
  have ho1 : ((w.alloc (.cells #[] 3)).alloc (.cells #[] 3)).ownsRow w.heap.size 3 1 (.slice (some ⟨w.heap.size + 1, 0, none⟩) 0 0) 0 (([] : List Int).map (Value.int .i64)) := by
    have := own_lit (w.alloc (.cells #[] 3)) .i64 [] 0 rfl 3 (cs := #[]) rfl (by decide)
    simp only [World.size_alloc] at this
    exact own_low this (by omega)
  have hB0 : Below w.heap.size w ((w.alloc (.cells #[] 3)).alloc (.cells #[] 3)) := ((Below.refl _ _).alloc (Nat.le_refl _) _).alloc (by simp) _
  have hT0 : TwoRows (.slice (some ⟨w.heap.size, 0, none⟩) 0 0) (.slice (some ⟨w.heap.size + 1, 0, none⟩) 0 0) := by
    intro g e1 e2
    simp [Value.ownBlock] at e1 e2
    omega
  go_loopw [4, 5, 6] (fun o ro i wr => ∃ (k m r sm : Nat) (sv : Int) (os rs : List Int) (A1 A2 : Option Addr) (c1 c2 : Nat), k ≤ l.length ∧ i = .int .i64 k ∧ o = .slice A1 m c1 ∧ ro = .slice A2 r c2 ∧ os.length = m ∧ rs.length = r ∧ m ≤ k ∧ r ≤ k ∧ sm ≤ 5 ∧ runOf rs = (sv, sm) ∧
      wr.ownsRow w.heap.size 3 1 (.slice A1 m c1) m (os.map (Value.int .i64)) ∧ wr.ownsRow w.heap.size 3 1 (.slice A2 r c2) r (rs.map (Value.int .i64)) ∧ TwoRows (.slice A1 m c1) (.slice A2 r c2) ∧ Below w.heap.size w wr ∧ Left l os (sv, sm) k)
    (fun _ _ i _ => l.length - (intOf i).toNat)
  case atStart => exact ⟨0, 0, 0, 0, 0, [], [], _, _, 0, 0, Nat.zero_le _, rfl, rfl, rfl, rfl, rfl, Nat.le_refl _, Nat.le_refl _, by omega, rfl, ho0, ho1, hT0, hB0, Left.start l⟩
  case round =>
    clear ho0 ho1 hB0 hT0
    obtain ⟨k, m, r, sm, sv, os, rs, A1, A2, c1, c2, hk, rfl, rfl, rfl, hml, hrl, hmk, hrk, hs5, hrun, hown1, hown2, hT, hB, hL⟩ := hrel
    have hsz := hB.size
    have Hml := Lib.hid hml
    have Hrl := Lib.hid hrl
    have Hrun := Lib.hid hrun
    have rr := Row.own hown2
    by_cases hlt : k < l.length
    · obtain ⟨ad, x, rfl, hx, hc⟩ := (h.below hB).get_ hlt
      have Hx := Lib.hid hx
      by_cases h5 : sm = 5
      · subst h5
        have HF := Lib.hid (show fiveB rs = true by unfold fiveB; rw [hrun]; rfl)
        have hr5 : 5 ≤ r := by have := runOf_le rs; rw [hrun] at this; simp only at this; omega
        have hlast : rs[r - 1]? = some sv := by have := runOf_last (l := rs) (by omega); rw [hrun, hrl] at this; exact this
        obtain ⟨r1, rfl⟩ : ∃ r1, r = r1 + 1 := ⟨r - 1, by omega⟩
        rw [Nat.add_sub_cancel] at hlast
        obtain ⟨ad2, rfl⟩ : ∃ ad2, A2 = some ad2 := by
          obtain ⟨ad2, _, e, _⟩ := rr.get_ (k := 0) (by omega)
          exact ⟨ad2, e⟩
        have c2' := rr.at_ hlast
        by_cases hxv : x = sv
        · subst hxv
          have hF := hL.fault hx (by rw [tick_same]; simp)
          rw [HR.out] at hF
          subst hF
          have dv : (x == x) = true := by simp
          clear hL hx hlast hrun hrl HR hml
          go_wp2_with fail
          refine (five_at _ Hrl.out rr (by omega) HF.out).mono ?_
          rintro e w3 ⟨rfl, dq, rfl⟩
          go_wp2_with fail
          go_quiet (fail)
          go_wp2_with fail
          go_ret2
          exact ⟨A1, c1, m, rfl, Hml.out, hown1, by first | exact below_drewN' hB _ | exact below_drewN' (below_drewN' hB _) _⟩
        · have hL2 := hL.skip hx (by rw [tick_other (s := (sv, 5)) hxv]; simp) (by simp)
          rw [strip_reset hxv] at hL2
          have HL := Lib.hid hL2
          have dv : (x == sv) = false := by simp [hxv]
          clear hL hx hlast hrun hrl hml hL2 hxv
          go_wp2_with fail
          refine (five_at _ Hrl.out rr (by omega) HF.out).mono ?_
          rintro e w3 ⟨rfl, dq, rfl⟩
          go_wp2_with fail
          go_quiet (fail)
          go_wp2_with fail
          have hnew : ((wr.drewN (dq + nq)).alloc (.cells #[.int .i64 x] 3)).ownsRow w.heap.size 3 1 (.slice (some ⟨wr.heap.size, 0, none⟩) 1 1) 1 ([x].map (Value.int .i64)) := own_low (own_lit (wr.drewN (dq + nq)) .i64 [x] 1 rfl 3 rfl (by decide)) hsz
          have hold : ((wr.drewN (dq + nq)).alloc (.cells #[.int .i64 x] 3)).ownsRow w.heap.size 3 1 (.slice A1 m c1) m (os.map (Value.int .i64)) := World.ownsRow.alloc (w := wr.drewN (dq + nq)) hown1 _
          have hTn : TwoRows (.slice A1 m c1) (.slice (some ⟨wr.heap.size, 0, none⟩) 1 1) := by
            intro g e1 e2
            have := (hown1.lt g e1).2
            simp [Value.ownBlock] at e2
            omega
          exact ⟨⟨k + 1, m, 1, 1, x, os, [x], A1, _, c1, 1, by omega, by go_num, rfl, rfl, Hml.out, rfl, by omega, by omega, by omega, runOf_one x, hold, hnew, hTn, (below_drewN' hB _).alloc hsz _, by rw [← runOf_one x]; exact HL.out⟩, by simp [intOf]; omega⟩
      · have HF := Lib.hid (show fiveB rs = false by unfold fiveB; rw [hrun]; simp; omega)
        have hq1 := tick_le (sv, sm) x
        have hK := hL.keep hx (by simp only at hq1; omega) (by simp only; omega)
        obtain ⟨q, hq⟩ : ∃ q, tick (sv, sm) x = (x, q) := ⟨_, rfl⟩
        rw [hq] at hK hq1
        simp only at hq1
        have HK := Lib.hid hK
        have Hrun2 := Lib.hid (show runOf (rs ++ [x]) = (x, q) by rw [runOf_snoc, hrun, hq])
        clear hL hx hrun hrl hml hK hq
        go_wp2_with fail
        refine (five_at _ Hrl.out rr (by omega) HF.out).mono ?_
        rintro e w3 ⟨rfl, dq, rfl⟩
        have hw1 : (wr.drewN dq).ownsRow w.heap.size 3 1 (.slice A1 m c1) m (os.map (Value.int .i64)) := hown1
        have hw2 : (wr.drewN dq).ownsRow w.heap.size 3 1 (.slice A2 r c2) r (rs.map (Value.int .i64)) := hown2
        have hBw : Below w.heap.size w (wr.drewN dq) := below_drewN' hB dq
        clear hown1 hown2 rr hc
        have hc : (wr.drewN dq).cell? (ad.add k) = some (.int .i64 x) := (h.below hBw).at_ Hx.out
        have hsz3 := hBw.size
        obtain ⟨w3, hw3⟩ : ∃ w3, wr.drewN dq = w3 := ⟨_, rfl⟩
        rw [hw3] at hw1 hw2 hBw hc hsz3 ⊢
        clear hw3 hB hsz
        go_wp2_with (first
          | (at_builtin; have hq_ := hown4; clear hq_; refine wpList_append_two _ .i64 rfl _ _ 22 rfl w.heap.size 3 i0 (.int .i64 0) 8 Try.underlying22 hi hz0 hz1 hz2 rfl _ m os rfl (hold4.alloc _) ⟨w4.heap.size, 0, none⟩ 1 1 _ [x] rfl rfl (Row.lit w4 .i64 [x] 3 rfl) (by unfold maxLen; omega) (by omega) (by simp; omega) _ _ _ (hown4.alloc _) hT4.symm ?_; intro A5 c5 w5 hown5 hB5 hold5 hT5)
          | (at_builtin; refine wpList_append_two _ .i64 rfl _ _ 22 rfl w.heap.size 3 i0 (.int .i64 0) 8 Try.underlying22 hi hz0 hz1 hz2 rfl _ r rs rfl (hw2.alloc _) ⟨w3.heap.size, 0, none⟩ 1 1 _ [x] rfl rfl (Row.lit w3 .i64 [x] 3 rfl) (by unfold maxLen; omega) (by omega) (by simp; omega) _ _ _ (hw1.alloc _) hT.symm ?_; intro A4 c4 w4 hown4 hB4 hold4 hT4; have hBB4 := (hBw.alloc hsz3 _).trans hB4; have hc4 := (h.below hBB4).at_ Hx.out; have hsz4 := hBB4.size))
        have hBB5 := (hBB4.alloc hsz4 _).trans hB5
        exact ⟨⟨k + 1, m + 1, r + 1, q, x, os ++ [x], rs ++ [x], A5, A4, c5, c4, by omega, by go_num, rfl, rfl, by rw [List.length_append, Hml.out]; rfl, by rw [List.length_append, Hrl.out]; rfl, by omega, by omega, by omega, Hrun2.out, hown5, hold5, hT5, hBB5, HK.out⟩, by simp [intOf]; omega⟩
    · obtain rfl : k = l.length := by omega
      have hF := hL.done
      rw [HR.out] at hF
      clear HR hL
      by_cases h5 : sm = 5
      · subst h5
        rw [if_pos rfl] at hF
        subst hF
        have HF := Lib.hid (show fiveB rs = true by unfold fiveB; rw [hrun]; rfl)
        clear hrun hrl hml
        go_wp2_with fail
        refine (five_at _ Hrl.out rr (by omega) HF.out).mono ?_
        rintro e w3 ⟨rfl, dq, rfl⟩
        go_wp2_with fail
        go_ret2
        exact ⟨A1, c1, m, rfl, Hml.out, hown1, below_drewN' hB _⟩
      · rw [if_neg (by simpa using h5)] at hF
        subst hF
        have HF := Lib.hid (show fiveB rs = false by unfold fiveB; rw [hrun]; simp; omega)
        clear hrun hrl hml
        go_wp2_with fail
        refine (five_at _ Hrl.out rr (by omega) HF.out).mono ?_
        rintro e w3 ⟨rfl, dq, rfl⟩
        go_wp2_with fail
        go_ret2
        exact ⟨A1, c1, m, rfl, Hml.out, hown1, below_drewN' hB _⟩

end Go.Proofs.Ytlbefdonpnignaa
