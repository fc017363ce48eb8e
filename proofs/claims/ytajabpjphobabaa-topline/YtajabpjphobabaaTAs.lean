/-
  ArbD · ArbE · ArbF: what this seat needs of them.
-/
import Derived.Test.YtajabpjphobabaaTBi
import Derived.Test.YtajabpjphobabaaTFr
import Derived.Test.YtajabpjphobabaaTSt
import Derived.Test.YtajabpjphobabaaTCr
import Derived.Test.YtajabpjphobabaaTWi
import Derived.Test.YtajabpjphobabaaTRk
import Derived.Test.YtajabpjphobabaaTAm
import Derived.Test.YtajabpjphobabaaTAr
import Derived.Lib.SliceRun
namespace Go.Proofs.Ytajabpjphobabaa
open Go.RowKit
set_option linter.unusedVariables false
set_option linter.unusedSimpArgs false

def bitsL (ss : List Src) (p : Nat) : List Int := ss.filterMap fun s => s.r[p]?

theorem bitsL_snoc {ss : List Src} {k p : Nat} {s : Src} (h : ss[k]? = some s) : bitsL (ss.take (k + 1)) p = bitsL (ss.take k) p ++ (s.r[p]?).toList := by
  unfold bitsL
  rw [List.take_add_one, h, List.filterMap_append]
  cases e : s.r[p]? <;> simp [e]

theorem bitsL_le (ss : List Src) (p k : Nat) : (bitsL (ss.take k) p).length ≤ k := by
  unfold bitsL
  exact Nat.le_trans (List.length_filterMap_le _ _) (by simp; omega)

theorem own_made (W : World) (n : Nat) (hn : n ≤ maxLen) : (W.alloc (.cells (madeCells #[Value.int .i64 0] n) 3)).ownsRow W.heap.size 3 1 (.slice (some ⟨W.heap.size, 0, none⟩) 0 n) 0 (([] : List Int).map (Value.int .i64)) := by
  refine ⟨rfl, .inr ⟨W.heap.size, n, _, rfl, Nat.le_refl _, World.alloc_heap_new _ _, Nat.zero_le _, hn, ?_, by simp⟩⟩
  simp [madeCells]

set_option maxRecDepth 100000 in
set_option maxHeartbeats 1000000 in
theorem bitsAt_any (ss : List Src) (n : Nat) (hn : ss.length = n) (G cap p : Nat) (cs : List Value) (w : World) (hS : SBlk w G cs) (hcs : ∀ (k : Nat) (s : Src), ss[k]? = some s → cs[k]? = some s.v) (hok : ∀ s ∈ ss, SrcOk w G s) (hm : n ≤ 100) (hcap : n ≤ cap) (hp : p ≤ 100) :
    Calls Try.prog 37 #[.slice (some ⟨G, 0, none⟩) n cap, .int .i64 p] w fun e w' => ∃ (A' : Option Addr) (c' m : Nat), e = .returned (.slice A' m c') ∧ (bitsL ss p).length = m ∧ m ≤ n ∧ Row .i64 w' w'.heap.size A' (bitsL ss p) ∧ Below w.heap.size w w' := by
  obtain ⟨i0, hi, hz0, hz1, hz2⟩ := info_parts Try.infoInt
  have hmk := run_make_room (P := Try.prog) 27 3 (.int .i64 0) 8 Try.underlying27 Try.infoInt rfl .i64 .i64 n (by omega) (by omega)
  have Hn := Lib.hid hn
  have HCS := Lib.hid hcs
  have HOK := Lib.hid hok
  clear hn hcs hok
  have hm9 : n ≤ maxLen := by unfold maxLen; omega
  go_enter Try.func37, Try.ntmps37
  go_wp2_with fail
  go_loopw [5, 15] (fun o i wr => ∃ (k m : Nat) (A' : Option Addr) (c' : Nat), k ≤ n ∧ m ≤ k ∧ i = .int .i64 k ∧ o = .slice A' m c' ∧ (bitsL (ss.take k) p).length = m ∧
      wr.ownsRow w.heap.size 3 1 (.slice A' m c') m ((bitsL (ss.take k) p).map (Value.int .i64)) ∧ Below w.heap.size w wr)
    (fun _ i _ => n - (intOf i).toNat)
  case atStart => exact ⟨0, 0, _, n, Nat.zero_le _, Nat.zero_le _, rfl, rfl, rfl, own_made w n hm9, (Below.refl _ _).alloc (Nat.le_refl _) _⟩
  case round =>
    obtain ⟨k, m, A', c', hk, hmk', rfl, rfl, hml, hown, hB⟩ := hrel
    have hsz := hB.size
    by_cases hlt : k < n
    · obtain ⟨s, hs⟩ : ∃ s, ss[k]? = some s := ⟨_, List.getElem?_eq_getElem (by rw [Hn.out]; exact hlt)⟩
      have hso := (HOK.out s (List.mem_of_getElem? hs)).to (below_grown hB _)
      have hcell := (hS.to hB).cell (HCS.out k s hs)
      have hsn := bitsL_snoc (p := p) hs
      have hsm := hso.small
      have hrow := hso.row
      have hsl := hso.len
      obtain ⟨sa, sn, sc, sr⟩ := s
      simp only [Src.v] at hcell hsm hrow hsl hsn
      by_cases hb : p < sn
      · obtain ⟨x, hx⟩ : ∃ x, sr[p]? = some x := ⟨_, List.getElem?_eq_getElem (by rw [hsl]; exact hb)⟩
        rw [hx] at hsn
        have Hs := Lib.hid (And.intro hsn (And.intro hml (And.intro hs (And.intro hsl hx))))
        clear hsn hml hs hsl hx hso
        go_wp2_with (first
          | (go_at_call 46; refine (bit_yes sr sn Hs.out.2.2.2.1 (some sa) sc _ p x Hs.out.2.2.2.2 _ hrow (by omega)).mono ?_; rintro e w' ⟨rfl, rfl⟩)
          | (at_builtin; refine wpList_append_row _ .i64 rfl _ _ 27 rfl w.heap.size 3 i0 (.int .i64 0) 8 Try.underlying27 hi hz0 hz1 hz2 rfl _ m (bitsL (ss.take k) p) rfl (hown.alloc _) (some ⟨wr.heap.size, 0, none⟩) 1 1 _ [x] rfl rfl (Row.lit wr .i64 [x] 3 rfl) (by unfold maxLen; omega) (by omega) (by simp; omega) ?_; intro A2 c2 w2 hown2 hc2 hB2))
        have hBB : Below w.heap.size w w2 := (hB.alloc hsz _).trans hB2
        exact ⟨⟨k + 1, m + 1, A2, c2, by omega, by omega, by go_num, rfl, by rw [Hs.out.1, List.length_append, Hs.out.2.1]; rfl, by rw [Hs.out.1]; exact hown2, hBB⟩, by simp [intOf]; omega⟩
      · have hx : sr[p]? = none := List.getElem?_eq_none (by rw [hsl]; omega)
        rw [hx] at hsn
        have Hs := Lib.hid (And.intro hsn (And.intro hml (And.intro hs (And.intro hsl hx))))
        clear hsn hml hs hsl hx hso
        go_wp2_with (go_at_call 46; refine (bit_no sn (some sa) sc p (by omega) _ (by omega)).mono ?_; rintro e w' ⟨rfl, rfl⟩)
        exact ⟨⟨k + 1, m, A', c', by omega, by omega, by go_num, rfl, by rw [Hs.out.1, List.length_append, Hs.out.2.1]; rfl, by rw [Hs.out.1]; simpa using hown, hB⟩, by simp [intOf]; omega⟩
    · obtain rfl : k = n := by omega
      have e : ss.take k = ss := List.take_of_length_le (Nat.le_of_eq Hn.out)
      rw [e] at hown hml
      have Hm := Lib.hid hml
      clear hml e
      go_wp2
      go_ret
      exact ⟨A', c', m, rfl, Hm.out, hmk', Row.own hown, hB⟩

theorem SBlk.setc {w : World} {G : Nat} {cs : List Value} (h : SBlk w G cs) (o : Nat) (v : Value) : SBlk (w.setCell ⟨G, o, none⟩ v) G (cs.set o v) := by
  show (w.setCell ⟨G, o, none⟩ v).heap[G]? = _
  rw [heap_setCell_same w G o _ _ _ h]
  simp

theorem SBlk.setcs {G : Nat} : ∀ (vs : List Value) (w : World) (cs : List Value) (o : Nat), SBlk w G cs → ∃ cs', SBlk (w.setCells G o vs) G cs' ∧ cs'.length = cs.length ∧ (∀ j, j < o → cs'[j]? = cs[j]?) ∧ w.grownBy (w.setCells G o vs) (some G)
  | [], w, cs, o, h => ⟨cs, h, rfl, fun _ _ => rfl, ⟨rfl, rfl, rfl, Nat.le_refl _, fun _ _ _ => rfl⟩⟩
  | v :: vs, w, cs, o, h => by
    obtain ⟨cs', h1, h2, h3, h4⟩ := SBlk.setcs vs (w.setCell ⟨G, o, none⟩ v) (cs.set o v) (o + 1) (h.setc o v)
    refine ⟨cs', h1, by rw [h2]; simp, fun j hj => ?_, (grown_setAt w G o v).trans h4⟩
    rw [h3 j (by omega), List.getElem?_set]
    simp; omega

theorem zero_src (w : World) : (zeroValue 64).run Try.prog w = .ok .nilFunc w := by
  obtain ⟨i0, hi, hz0, hz1, hz2⟩ := info_parts Try.infoSrc
  simp [zeroValue, typeInfo, hi, hz0]

theorem SBlk.frz {w : World} {G : Nat} {cs : List Value} (h : SBlk w G cs) (o : Nat) : w.frozen? ⟨G, o, none⟩ = false := by
  simp [World.frozen?, show w.heap[G]? = _ from h]

theorem clear_yes {w : World} {G : Nat} {cs : List Value} (h : SBlk w G cs) (ty : TypeId) (o n c : Nat) (hn : 0 < n) (hl : o + n ≤ cs.length) :
    (Builtin.clear_ #[61] ty #[.slice (some ⟨G, o, none⟩) n c]).run Try.prog w = .ok (.tuple #[]) (w.setCells G o (List.replicate n .nilFunc)) :=
  Lib.run_clear_slice w 61 64 ty .nilFunc Try.underlying61 zero_src rfl rfl G o n c hn
    (fun j hj => by rw [h.cell (k := o + j) (List.getElem?_eq_getElem (by omega))]; rfl) (fun j hj => h.frz _)

theorem clear_no (w : World) (ty : TypeId) (a : Option Addr) (c : Nat) : (Builtin.clear_ #[61] ty #[.slice a 0 c]).run Try.prog w = .ok (.tuple #[]) w := by
  cases a <;> simp [Builtin.clear_, run_underlying Try.underlying61]

def keepL (p : Nat) (x : Int) (ss : List Src) : List Src := ss.filter fun s => keepB p x s.r

theorem keepL_snoc {ss : List Src} {k p : Nat} {x : Int} {s : Src} (h : ss[k]? = some s) : keepL p x (ss.take (k + 1)) = keepL p x (ss.take k) ++ if keepB p x s.r then [s] else [] := by
  unfold keepL
  rw [List.take_add_one, h, List.filter_append]
  simp [List.filter_cons]

def Stay (ss : List Src) (n G cap p : Nat) (x : Int) (w : World) (e : Ending) (w' : World) : Prop :=
  ∃ (cs' : List Value) (m : Nat), e = .returned (.slice (some ⟨G, 0, none⟩) m cap) ∧ (keepL p x ss).length = m ∧ m ≤ n ∧ SBlk w' G cs' ∧ cs'.length = cap ∧ (∀ (k : Nat) (s : Src), (keepL p x ss)[k]? = some s → cs'[k]? = some s.v) ∧ w.grownBy w' (some G)

theorem set_get {cs : List Value} {j m : Nat} {v : Value} (h : j < m) : (cs.set m v)[j]? = cs[j]? := by
  rw [List.getElem?_set, if_neg (by omega)]

theorem set_get' {cs : List Value} {j m : Nat} {v : Value} (h : m < j) : (cs.set m v)[j]? = cs[j]? := by
  rw [List.getElem?_set, if_neg (by omega)]

structure StayAt (ss : List Src) (G cap p : Nat) (x : Int) (cs : List Value) (w wr : World) (k m : Nat) (cs' : List Value) : Prop where
  len : (keepL p x (ss.take k)).length = m
  blk : SBlk wr G cs'
  cap_ : cs'.length = cap
  kept : ∀ (j : Nat) (s : Src), (keepL p x (ss.take k))[j]? = some s → cs'[j]? = some s.v
  rest : ∀ j : Nat, k ≤ j → cs'[j]? = cs[j]?
  grown : w.grownBy wr (some G)

theorem StayAt.skip {ss : List Src} {G cap p : Nat} {x : Int} {cs : List Value} {w wr : World} {k m : Nat} {cs' : List Value} (h : StayAt ss G cap p x cs w wr k m cs') {s : Src} (hs : ss[k]? = some s) (hk : keepB p x s.r = false) : StayAt ss G cap p x cs w wr (k + 1) m cs' := by
  have e : keepL p x (ss.take (k + 1)) = keepL p x (ss.take k) := by rw [keepL_snoc hs, hk]; simp
  exact ⟨by rw [e]; exact h.len, h.blk, h.cap_, by rw [e]; exact h.kept, fun j hj => h.rest j (by omega), h.grown⟩

theorem StayAt.take_ {ss : List Src} {G cap p : Nat} {x : Int} {cs : List Value} {w wr w2 : World} {k m : Nat} {cs' : List Value} (h : StayAt ss G cap p x cs w wr k m cs') {s : Src} (hs : ss[k]? = some s) (hk : keepB p x s.r = true) (hmk : m ≤ k) (hkc : k < cap) (b : Below wr.heap.size wr w2) :
    StayAt ss G cap p x cs w (w2.setRow G (cs'.set m s.v).toArray) (k + 1) (m + 1) (cs'.set m s.v) := by
  have e : keepL p x (ss.take (k + 1)) = keepL p x (ss.take k) ++ [s] := by rw [keepL_snoc hs, hk]; simp
  refine ⟨by rw [e, List.length_append, h.len]; rfl, (h.blk.to b).set _, by rw [List.length_set]; exact h.cap_, fun j s' hj => ?_, fun j hj => ?_, (h.grown.trans (below_grown b _)).trans (grown_setRow _ _ _)⟩
  · rw [e] at hj
    rcases Nat.lt_or_ge j m with hjm | hjm
    · rw [List.getElem?_append_left (by rw [h.len]; exact hjm)] at hj
      rw [set_get hjm]
      exact h.kept j s' hj
    · rw [List.getElem?_append_right (by rw [h.len]; exact hjm), h.len] at hj
      obtain rfl : j = m := by
        have := (List.getElem?_eq_some_iff.1 hj).1
        simp at this
        omega
      simp at hj
      subst hj
      rw [List.getElem?_set, if_pos rfl, if_pos (by rw [h.cap_]; omega)]
  · rw [set_get' (by omega)]
    exact h.rest j (by omega)

set_option maxRecDepth 100000 in
set_option maxHeartbeats 2000000 in
theorem staying_any (ss : List Src) (n : Nat) (hn : ss.length = n) (G cap p : Nat) (x : Int) (cs : List Value) (w : World) (hS : SBlk w G cs) (hcl : cs.length = cap) (hcs : ∀ (k : Nat) (s : Src), ss[k]? = some s → cs[k]? = some s.v) (hok : ∀ s ∈ ss, SrcOk w G s) (hm : cap ≤ 100) (hcap : n ≤ cap) (hp : p ≤ 100) :
    Calls Try.prog 38 #[.slice (some ⟨G, 0, none⟩) n cap, .int .i64 p, .int .i64 x] w (Stay ss n G cap p x w) := by
  have Hn := Lib.hid hn
  have HCS := Lib.hid hcs
  have HOK := Lib.hid hok
  have HCL := Lib.hid hcl
  clear hn hcs hok hcl
  have hcap0 : (0 : Nat) ≤ cap := Nat.zero_le _
  go_enter Try.func38, Try.ntmps38
  go_wp2_with fail
  go_loopw [7, 16] (fun o i wr => ∃ (k m : Nat) (cs' : List Value), k ≤ n ∧ m ≤ k ∧ i = .int .i64 k ∧ o = .slice (some ⟨G, 0, none⟩) m cap ∧ StayAt ss G cap p x cs w wr k m cs')
    (fun _ i _ => n - (intOf i).toNat)
  case atStart => exact ⟨0, 0, cs, Nat.zero_le _, Nat.le_refl _, rfl, rfl, ⟨by simp [keepL], hS, HCL.out, by simp [keepL], fun _ _ => rfl, ⟨rfl, rfl, rfl, Nat.le_refl _, fun _ _ _ => rfl⟩⟩⟩
  case round =>
    obtain ⟨k, m, cs', hk, hmk, rfl, rfl, hst⟩ := hrel
    by_cases hlt : k < n
    · obtain ⟨s, hs⟩ : ∃ s, ss[k]? = some s := ⟨_, List.getElem?_eq_getElem (by rw [Hn.out]; exact hlt)⟩
      have hso := (HOK.out s (List.mem_of_getElem? hs)).to hst.grown
      have hcell := hst.blk.cell ((hst.rest k (Nat.le_refl _)).trans (HCS.out k s hs))
      have hsm := hso.small
      have hrow := hso.row
      have hsl := hso.len
      have hyes : keepB p x s.r = true → StayAt ss G cap p x cs w _ (k + 1) (m + 1) (cs'.set m s.v) := fun hkb => hst.take_ hs hkb hmk (by omega) (below_alloc1 wr (.cells #[s.v] 64))
      have hno : keepB p x s.r = false → StayAt ss G cap p x cs w wr (k + 1) m cs' := fun hkb => hst.skip hs hkb
      have hS2 : SBlk (wr.alloc (.cells #[s.v] 64)) G cs' := hst.blk.to (below_alloc1 _ _)
      have hc2 : (wr.alloc (.cells #[s.v] 64)).cell? ⟨wr.heap.size, 0, none⟩ = some s.v := by
        have := World.alloc_heap_new wr (.cells #[s.v] 64)
        simp only [World.cell?, this]
        rfl
      have hrun := fun ty => run_append_src _ ty G m cap cs' hS2 hst.cap_ (by omega) ⟨wr.heap.size, 0, none⟩ 1 _ hc2 rfl
      obtain ⟨sa, sn, sc, sr⟩ := s
      simp only [Src.v] at hcell hsm hrow hsl hrun hyes hno
      have HRun := Lib.hid hrun
      have HY := Lib.hid hyes
      have HN := Lib.hid hno
      clear hrun hyes hno hS2 hc2 hst
      by_cases hb : p < sn
      · obtain ⟨y, hy⟩ : ∃ y, sr[p]? = some y := ⟨_, List.getElem?_eq_getElem (by rw [hsl]; exact hb)⟩
        by_cases hyx : y = x
        · have hkb : keepB p x sr = true := by simp [keepB, hy, hyx]
          have hd : (y == x) = true := by simp [hyx]
          have Hs := Lib.hid (And.intro hsl (And.intro hy hkb))
          clear hsl hy hkb hs hso hyx
          go_wp2_with (first
            | (go_at_call 46; refine (bit_yes sr sn Hs.out.1 (some sa) sc _ p y Hs.out.2.1 _ hrow (by omega)).mono ?_; rintro e w' ⟨rfl, rfl⟩)
            | (at_builtin; refine Lib.wpList_append_run _ rfl _ _ _ _ rfl _ _ rfl rfl _ _ (HRun.out _) ?_))
          exact ⟨⟨k + 1, m + 1, _, by omega, by omega, by go_num, rfl, HY.out Hs.out.2.2⟩, by simp [intOf]; omega⟩
        · have hkb : keepB p x sr = false := by simp [keepB, hy, hyx]
          have hd : (y == x) = false := by simp [hyx]
          have Hs := Lib.hid (And.intro hsl (And.intro hy hkb))
          clear hsl hy hkb hs hso hyx
          go_wp2_with (first
            | (go_at_call 46; refine (bit_yes sr sn Hs.out.1 (some sa) sc _ p y Hs.out.2.1 _ hrow (by omega)).mono ?_; rintro e w' ⟨rfl, rfl⟩))
          exact ⟨⟨k + 1, m, _, by omega, by omega, by go_num, rfl, HN.out Hs.out.2.2⟩, by simp [intOf]; omega⟩
      · have hy : sr[p]? = none := List.getElem?_eq_none (by rw [hsl]; omega)
        have hkb : keepB p x sr = true := by simp [keepB, hy]
        have Hs := Lib.hid (And.intro hsl (And.intro hy hkb))
        clear hsl hy hkb hs hso
        go_wp2_with (first
          | (go_at_call 46; refine (bit_no sn (some sa) sc p (by omega) _ (by omega)).mono ?_; rintro e w' ⟨rfl, rfl⟩)
          | (at_builtin; refine Lib.wpList_append_run _ rfl _ _ _ _ rfl _ _ rfl rfl _ _ (HRun.out _) ?_))
        exact ⟨⟨k + 1, m + 1, _, by omega, by omega, by go_num, rfl, HY.out Hs.out.2.2⟩, by simp [intOf]; omega⟩
    · obtain rfl : k = n := by omega
      have e : ss.take k = ss := List.take_of_length_le (Nat.le_of_eq Hn.out)
      obtain ⟨h1, h2, h3, h4, h5, h6⟩ := hst
      rw [e] at h1 h4
      by_cases hmk2 : m = k
      · have hclr : ∀ (a : Option Addr) (c : Nat), (Builtin.clear_ #[61] 0 #[.slice a (k - m) c]).run Try.prog wr = .ok (.tuple #[]) wr := by
          intro a c
          rw [show k - m = 0 by omega]
          exact clear_no wr 0 a c
        have HST := Lib.hid (And.intro h1 (And.intro h2 (And.intro h3 (And.intro h4 h6))))
        clear h1 h2 h3 h4 h5 h6 e hmk2
        go_wp2_with fail
        all_goals
          go_ret
          exact ⟨cs', m, rfl, HST.out.1, hmk, HST.out.2.1, by first | exact HST.out.2.2.1 | (rw [HST.out.2.2.1]; omega), HST.out.2.2.2.1, HST.out.2.2.2.2⟩
      · have hcm : ¬ cap = m := by omega
        have hclr := clear_yes h2 0 m (k - m) (cap - m) (by omega) (by rw [h3]; omega)
        obtain ⟨cs2, g1, g2, g3, g4⟩ := SBlk.setcs (List.replicate (k - m) .nilFunc) wr cs' m h2
        obtain ⟨w2, hw2⟩ : ∃ w2, wr.setCells G m (List.replicate (k - m) .nilFunc) = w2 := ⟨_, rfl⟩
        rw [hw2] at g1 g4 hclr
        have HST := Lib.hid (And.intro h1 (And.intro (g2.trans h3) (And.intro h4 (And.intro g3 (h6.trans g4)))))
        clear h1 h2 h3 h4 h5 h6 e g2 g3 g4 hw2
        go_wp2_with fail
        go_ret
        refine ⟨cs2, m, rfl, HST.out.1, hmk, g1, HST.out.2.1, fun j s' hj => ?_, HST.out.2.2.2.2⟩
        rw [HST.out.2.2.2.1 j (by rw [← HST.out.1]; exact (List.getElem?_eq_some_iff.1 hj).1)]
        exact HST.out.2.2.1 j s' hj

theorem grown_below {w1 wr w' : World} {row : Option Nat} (h : w1.grownBy wr row) (b : Below w1.heap.size wr w') : w1.grownBy w' row :=
  ⟨b.os.trans h.os, b.tape.trans h.tape, b.output.trans h.output, Nat.le_trans h.size b.size, fun k hk hne => (b.block k hk).trans (h.block k hk hne)⟩

theorem own_grown {w w' : World} {base : Nat} {e : TypeId} {size : Nat} {v : Value} {n G : Nat} {xs : List Value} (h : w.ownsRow base e size v n xs) (g : w.grownBy w' (some G)) (hG : G < base) : w'.ownsRow base e size v n xs := by
  refine ⟨h.1, ?_⟩
  rcases h.2 with h0 | ⟨b, cap, cur, hv, hb, hg, hrest⟩
  · exact .inl h0
  · exact .inr ⟨b, cap, cur, hv, hb, (g.block b (Array.getElem?_eq_some_iff.1 hg).1 (by simp; omega)).trans hg, hrest⟩

theorem below_of_grown' {w w1 wr : World} {G : Nat} (b : Below w.heap.size w w1) (g : w1.grownBy wr (some G)) (hG : w.heap.size ≤ G) : Below w.heap.size w wr :=
  ⟨g.os.trans b.os, g.tape.trans b.tape, g.output.trans b.output, Nat.le_trans b.size g.size, fun k hk => (g.block k (by have := b.size; omega) (by simp; omega)).trans (b.block k hk)⟩

def cur (ss : List Src) (W : List Int) (p : Nat) : List Src := ss.filter fun s => stays W p s.r

theorem bitsL_cur (ss : List Src) (W : List Int) (p : Nat) : bitsL (cur ss W p) p = (((ss.map (·.r)).filter (stays W p)).filterMap (·[p]?)) := by
  unfold bitsL cur
  rw [List.filter_map, List.filterMap_map]
  rfl

theorem keep_cur {ss : List Src} {W : List Int} {p : Nat} {x : Int} (h : LeastE W (ss.map (·.r))) (hx : W[p]? = some x) : keepL p x (cur ss W p) = cur ss W (p + 1) := by
  unfold keepL cur
  rw [List.filter_filter]
  apply List.filter_congr
  intro s hs
  exact stays_succ hx h.rw_ (h.all s.r (List.mem_map.2 ⟨s, hs, rfl⟩))

theorem cur_zero (ss : List Src) (W : List Int) : cur ss W 0 = ss := by
  unfold cur
  rw [List.filter_eq_self]
  intro s _
  simp [stays]

structure LineAt (ss : List Src) (G n : Nat) (W : List Int) (w1 wr : World) (p m : Nat) (A' : Option Addr) (c' : Nat) (cs : List Value) : Prop where
  len : (cur ss W p).length = m
  blk : SBlk wr G cs
  cap_ : cs.length = n
  kept : ∀ (k : Nat) (s : Src), (cur ss W p)[k]? = some s → cs[k]? = some s.v
  own : wr.ownsRow w1.heap.size 3 1 (.slice A' p c') p ((W.take p).map (Value.int .i64))
  grown : w1.grownBy wr (some G)

set_option maxRecDepth 100000 in
set_option maxHeartbeats 2000000 in
theorem line_any (fs : List FV) (n : Nat) (hn : fs.length = n) (A : Option Addr) (c : Nat) (w : World) (h : FRow w w.heap.size A fs) (hok : ∀ f ∈ fs, FOk f) (hm : n ≤ 100) (W : List Int) (hW : LeastE W (ranks fs)) (q : Nat) (hq : W.length = q) (hq32 : q ≤ 32) :
    Calls Try.prog 19 #[.slice A n c] w fun e w' => ∃ A' c', e = .returned (.slice A' q c') ∧ q ≤ c' ∧ Row .i64 w' w'.heap.size A' W ∧ Below w.heap.size w w' := by
  obtain ⟨i0, hi, hz0, hz1, hz2⟩ := info_parts Try.infoInt
  have HW := Lib.hid (And.intro hW hq)
  clear hW hq
  go_enter Try.func19, Try.ntmps19
  go_wp2_with fail
  refine (sourcesOf_any fs n hn A c w h hok hm).mono ?_
  rintro e w1 ⟨G, ss, rfl, hG, hS, hss, hso, -, hB1⟩
  have hGlt := hS.lt
  have HSS := Lib.hid (show LeastE W (ss.map (·.r)) by rw [hss]; exact HW.out.1)
  have hlen : ss.length = n := by
    have := congrArg List.length hss
    simpa [ranks, hn] using this
  have HF := Lib.hid (And.intro hlen (And.intro hso hS))
  clear hss hso hlen hS hok hn h
  go_wp2_with fail
  go_loopw [3, 4, 5] (fun ln cm po wr => ∃ (p m : Nat) (A' : Option Addr) (c' : Nat) (cs : List Value), p ≤ q ∧ m ≤ n ∧ p ≤ c' ∧ po = .int .i64 p ∧ ln = .slice A' p c' ∧ cm = .slice (some ⟨G, 0, none⟩) m n ∧ LineAt ss G n W w1 wr p m A' c' cs)
    (fun _ _ po _ => q - (intOf po).toNat)
  case atStart =>
    refine ⟨0, n, none, 0, ss.map Src.v, Nat.zero_le _, Nat.le_refl _, Nat.le_refl _, rfl, rfl, rfl, ⟨?_, HF.out.2.2, by rw [List.length_map]; exact HF.out.1, ?_, World.ownsRow_nil _ _ _ _, ⟨rfl, rfl, rfl, Nat.le_refl _, fun _ _ _ => rfl⟩⟩⟩
    · rw [cur_zero]; exact HF.out.1
    · rw [cur_zero]
      intro k s hs
      rw [List.getElem?_map, hs]
      rfl
  case round =>
    obtain ⟨p, m, A', c', cs, hp, hmn, hpc, rfl, rfl, rfl, hl⟩ := hrel
    have hok2 : ∀ s ∈ cur ss W p, SrcOk wr G s := fun s hs => (HF.out.2.1 s (List.mem_filter.1 hs).1).to hl.grown
    have hbits := bitsL_cur ss W p
    by_cases hlt : p < q
    · obtain ⟨x, hx⟩ : ∃ x, W[p]? = some x := ⟨_, List.getElem?_eq_getElem (by rw [HW.out.2]; exact hlt)⟩
      obtain ⟨mb, hmb⟩ : ∃ mb, (bitsL (cur ss W p) p).length = mb := ⟨_, rfl⟩
      have hmb0 : 0 < mb := by
        rw [← hmb, hbits]
        exact List.length_pos_iff.2 (stays_len HSS.out (by rw [HW.out.2]; exact hlt))
      have hand : andL (bitsL (cur ss W p) p) = x := by rw [hbits]; exact and_stays HSS.out hx
      have hkeep := keep_cur HSS.out hx
      have htk := take_snoc hx
      have HX := Lib.hid (And.intro hx (And.intro hmb (And.intro hand (And.intro hkeep htk))))
      have HL := Lib.hid hl
      have HO := Lib.hid hok2
      clear hx hmb hand hkeep htk hl hok2 hbits
      have hd : ((mb : Int) == 0) = false := by simp; omega
      go_wp2_with fail
      refine (bitsAt_any (cur ss W p) m HL.out.len G n p cs wr HL.out.blk HL.out.kept HO.out (by omega) hmn (by omega)).mono ?_
      rintro e w2 ⟨A2, c2, mb', rfl, hmb2, hmbn, hr2, hB2⟩
      obtain rfl : mb = mb' := by rw [← HX.out.2.1, hmb2]
      clear hmb2
      go_wp2_with fail
      refine (and_any (bitsL (cur ss W p) p) mb HX.out.2.1 A2 c2 _ w2 hr2 (by unfold maxLen; omega) x HX.out.2.2.1).mono ?_
      rintro e w' ⟨rfl, rfl⟩
      have hown2 := own_to HL.out.own hB2
      have hs2 : w1.heap.size ≤ w2.heap.size := Nat.le_trans HL.out.grown.size hB2.size
      go_wp2_with (at_builtin; refine wpList_append_row _ .i64 rfl _ _ 27 rfl w1.heap.size 3 i0 (.int .i64 0) 8 Try.underlying27 hi hz0 hz1 hz2 rfl _ p (W.take p) rfl (hown2.alloc _) (some ⟨w2.heap.size, 0, none⟩) 1 1 _ [x] rfl rfl (Row.lit w2 .i64 [x] 3 rfl) (by unfold maxLen; omega) (by omega) (by simp; omega) ?_; intro A3 c3 w3 hown3 hc3 hB3)
      have hB23 : Below w1.heap.size wr w3 := ((hB2.mono HL.out.grown.size).alloc hs2 _).trans hB3
      have hS3 : SBlk w3 G cs := (hB23.block G hGlt).trans HL.out.blk
      have hg3 := grown_below HL.out.grown hB23
      have hok3 : ∀ s ∈ cur ss W p, SrcOk w3 G s := fun s hs => (HF.out.2.1 s (List.mem_filter.1 hs).1).to hg3
      have HO3 := Lib.hid hok3
      clear hok3
      refine (staying_any (cur ss W p) m HL.out.len G n p x cs w3 hS3 HL.out.cap_ HL.out.kept HO3.out hm hmn (by omega)).mono ?_
      rintro e w4 ⟨cs4, m4, rfl, hm4, hmm4, hS4, hc4, hk4, hg4⟩
      rw [HX.out.2.2.2.1] at hm4 hk4
      have hown4 := own_grown hown3 hg4 hGlt
      rw [← HX.out.2.2.2.2] at hown4
      have HE := Lib.hid (LineAt.mk hm4 hS4 hc4 hk4 hown4 (hg3.trans hg4))
      clear hm4 hS4 hc4 hk4 hown4 hg4 hown3 hown2 hS3 hg3 hB23 hB2 hB3
      go_wp2_with fail
      exact ⟨⟨p + 1, m4, A3, c3, cs4, by omega, by omega, hc3, by go_num, rfl, rfl, HE.out⟩, by simp [intOf]; omega⟩
    · obtain rfl : p = q := by omega
      have hnone : bitsL (cur ss W p) p = [] := by
        rw [hbits]
        have := stays_none HSS.out
        rw [HW.out.2] at this
        exact this
      have HX := Lib.hid hnone
      have HL := Lib.hid hl
      have HO := Lib.hid hok2
      clear hnone hl hok2 hbits
      go_wp2_with fail
      refine (bitsAt_any (cur ss W p) m HL.out.len G n p cs wr HL.out.blk HL.out.kept HO.out (by omega) hmn (by omega)).mono ?_
      rintro e w2 ⟨A2, c2, mb', rfl, hmb2, hmbn, hr2, hB2⟩
      obtain rfl : 0 = mb' := by rw [← hmb2, HX.out]; rfl
      have hown2 := own_to HL.out.own hB2
      have hg2 := grown_below HL.out.grown (hB2.mono HL.out.grown.size)
      have hB := below_of_grown' hB1 hg2 hG
      have HE := Lib.hid (And.intro hown2 hB)
      clear hmb2 hown2 hg2 hB
      go_wp2_with fail
      go_ret
      have e : W.take p = W := List.take_of_length_le (Nat.le_of_eq HW.out.2)
      have hr := HE.out.1
      rw [e] at hr
      exact ⟨A', c', rfl, hpc, Row.own hr, HE.out.2⟩

end Go.Proofs.Ytajabpjphobabaa
