/-
  arb.staying.
-/
import Derived.Test.YtfmlnfblfhmapaaArbD
namespace Go.Proofs.Ytfmlnfblfhmapaa
open Go.RowKit
set_option linter.unusedVariables false

theorem SBlk.setc {w : World} {G : Nat} {cs : List Value} (h : SBlk w G cs) (o : Nat) (v : Value) : SBlk (w.setCell ⟨G, o, none⟩ v) G (cs.set o v) := by
  show (w.setCell ⟨G, o, none⟩ v).heap[G]? = _
  rw [heap_setCell_same w G o _ _ _ h]
  simp
theorem SBlk.setcs {G : Nat} : ∀ (vs : List Value) (w : World) (cs : List Value) (o : Nat), SBlk w G cs → ∃ cs', SBlk (w.setCells G o vs) G cs' ∧ cs'.length = cs.length ∧ (∀ j, j < o → cs'[j]? = cs[j]?) ∧ w.grownBy (w.setCells G o vs) (some G)
  | [], w, cs, o, h => ⟨cs, h, rfl, fun _ _ => rfl, ⟨rfl, rfl, rfl, Nat.le_refl _, fun _ _ _ => rfl⟩⟩
  | v :: vs, w, cs, o, h => by
    obtain ⟨cs', h1, h2, h3, h4⟩ := SBlk.setcs vs (w.setCell ⟨G, o, none⟩ v) (cs.set o v) (o + 1) (h.setc o v)
    refine ⟨cs', h1, by rw [h2]; simp, fun j hj => ?_, (grown_setAt w G o v).trans h4⟩
    rw [h3 j (by omega), List.getElem?_set]
    simp; omega
theorem zero_src (w : World) : (zeroValue 48).run Try.prog w = .ok .nilFunc w := by
  obtain ⟨i0, hi, hz0, hz1, hz2⟩ := info_parts Try.infoSrc
  simp [zeroValue, typeInfo, hi, hz0]
theorem SBlk.frz {w : World} {G : Nat} {cs : List Value} (h : SBlk w G cs) (o : Nat) : w.frozen? ⟨G, o, none⟩ = false := by
  simp [World.frozen?, show w.heap[G]? = _ from h]
theorem clear_yes {w : World} {G : Nat} {cs : List Value} (h : SBlk w G cs) (ty : TypeId) (o n c : Nat) (hn : 0 < n) (hl : o + n ≤ cs.length) :
    (Builtin.clear_ #[45] ty #[.slice (some ⟨G, o, none⟩) n c]).run Try.prog w = .ok (.tuple #[]) (w.setCells G o (List.replicate n .nilFunc)) :=
  Lib.run_clear_slice w 45 48 ty .nilFunc Try.underlying45 zero_src rfl rfl G o n c hn
    (fun j hj => by rw [h.cell (k := o + j) (List.getElem?_eq_getElem (by omega))]; rfl) (fun j hj => h.frz _)
theorem clear_no (w : World) (ty : TypeId) (a : Option Addr) (c : Nat) : (Builtin.clear_ #[45] ty #[.slice a 0 c]).run Try.prog w = .ok (.tuple #[]) w := by
  cases a <;> simp [Builtin.clear_, run_underlying Try.underlying45]

def keepL (p : Nat) (x : Int) (ss : List Src) : List Src := ss.filter fun s => keepB p x s.r
theorem keepL_snoc {ss : List Src} {k p : Nat} {x : Int} {s : Src} (h : ss[k]? = some s) : keepL p x (ss.take (k + 1)) = keepL p x (ss.take k) ++ if keepB p x s.r then [s] else [] := by
  unfold keepL
  rw [List.take_add_one, h, List.filter_append]
  simp [List.filter_cons]


def Stay (ss : List Src) (n G cap p : Nat) (x : Int) (w : World) (e : Ending) (w' : World) : Prop :=
  ∃ (cs' : List Value) (m : Nat), e = .returned (.slice (some ⟨G, 0, none⟩) m cap) ∧ (keepL p x ss).length = m ∧ m ≤ n ∧ SBlk w' G cs' ∧ cs'.length = cap ∧ (∀ (k : Nat) (s : Src), (keepL p x ss)[k]? = some s → cs'[k]? = some s.v) ∧ w.grownBy w' (some G)

theorem set_get {cs : List Value} {j m : Nat} {v : Value} (h : j < m) : (cs.set m v)[j]? = cs[j]? := by
  rw [List.getElem?_set, if_neg (by omega)]
theorem set_get' {cs : List Value} {j m : Nat} {v : Value} (h : m < j) : (cs.set m v)[j]? = cs[j]? := by
  rw [List.getElem?_set, if_neg (by omega)]

structure StayAt (ss : List Src) (G cap p : Nat) (x : Int) (cs : List Value) (w wr : World) (k m : Nat) (cs' : List Value) : Prop where
  len : (keepL p x (ss.take k)).length = m
  blk : SBlk wr G cs'
  cap_ : cs'.length = cap
  kept : ∀ (j : Nat) (s : Src), (keepL p x (ss.take k))[j]? = some s → cs'[j]? = some s.v
  rest : ∀ j : Nat, k ≤ j → cs'[j]? = cs[j]?
  grown : w.grownBy wr (some G)
theorem StayAt.skip {ss : List Src} {G cap p : Nat} {x : Int} {cs : List Value} {w wr : World} {k m : Nat} {cs' : List Value} (h : StayAt ss G cap p x cs w wr k m cs') {s : Src} (hs : ss[k]? = some s) (hk : keepB p x s.r = false) : StayAt ss G cap p x cs w wr (k + 1) m cs' := by
  have e : keepL p x (ss.take (k + 1)) = keepL p x (ss.take k) := by rw [keepL_snoc hs, hk]; simp
  exact ⟨by rw [e]; exact h.len, h.blk, h.cap_, by rw [e]; exact h.kept, fun j hj => h.rest j (by omega), h.grown⟩
theorem StayAt.take_ {ss : List Src} {G cap p : Nat} {x : Int} {cs : List Value} {w wr w2 : World} {k m : Nat} {cs' : List Value} (h : StayAt ss G cap p x cs w wr k m cs') {s : Src} (hs : ss[k]? = some s) (hk : keepB p x s.r = true) (hmk : m ≤ k) (hkc : k < cap) (b : Below wr.heap.size wr w2) :
    StayAt ss G cap p x cs w (w2.setRow G (cs'.set m s.v).toArray) (k + 1) (m + 1) (cs'.set m s.v) := by
  have e : keepL p x (ss.take (k + 1)) = keepL p x (ss.take k) ++ [s] := by rw [keepL_snoc hs, hk]; simp
  refine ⟨by rw [e, List.length_append, h.len]; rfl, (h.blk.to b).set _, by rw [List.length_set]; exact h.cap_, fun j s' hj => ?_, fun j hj => ?_, (h.grown.trans (below_grown b _)).trans (grown_setRow _ _ _)⟩
  · rw [e] at hj
    rcases Nat.lt_or_ge j m with hjm | hjm
    · rw [List.getElem?_append_left (by rw [h.len]; exact hjm)] at hj
      rw [set_get hjm]
      exact h.kept j s' hj
    · rw [List.getElem?_append_right (by rw [h.len]; exact hjm), h.len] at hj
      obtain rfl : j = m := by
        have := (List.getElem?_eq_some_iff.1 hj).1
        simp at this
        omega
      simp at hj
      subst hj
      rw [List.getElem?_set, if_pos rfl, if_pos (by rw [h.cap_]; omega)]
  · rw [set_get' (by omega)]
    exact h.rest j (by omega)

set_option maxRecDepth 100000 in
set_option maxHeartbeats 2000000 in
theorem staying_any (ss : List Src) (n : Nat) (hn : ss.length = n) (G cap p : Nat) (x : Int) (cs : List Value) (w : World) (hS : SBlk w G cs) (hcl : cs.length = cap) (hcs : ∀ (k : Nat) (s : Src), ss[k]? = some s → cs[k]? = some s.v) (hok : ∀ s ∈ ss, SrcOk w G s) (hm : cap ≤ 100) (hcap : n ≤ cap) (hp : p ≤ 100) :
    Calls Try.prog 29 #[.slice (some ⟨G, 0, none⟩) n cap, .int .i64 p, .int .i64 x] w (Stay ss n G cap p x w) := by
  have Hn := Lib.hid hn
  have HCS := Lib.hid hcs
  have HOK := Lib.hid hok
  have HCL := Lib.hid hcl
  clear hn hcs hok hcl
  have hcap0 : (0 : Nat) ≤ cap := Nat.zero_le _
  go_enter Try.func29, Try.ntmps29
  go_wp2_with fail
  go_loopw [7, 16] (fun o i wr => ∃ (k m : Nat) (cs' : List Value), k ≤ n ∧ m ≤ k ∧ i = .int .i64 k ∧ o = .slice (some ⟨G, 0, none⟩) m cap ∧ StayAt ss G cap p x cs w wr k m cs')
    (fun _ i _ => n - (intOf i).toNat)
  case atStart => exact ⟨0, 0, cs, Nat.zero_le _, Nat.le_refl _, rfl, rfl, ⟨by simp [keepL], hS, HCL.out, by simp [keepL], fun _ _ => rfl, ⟨rfl, rfl, rfl, Nat.le_refl _, fun _ _ _ => rfl⟩⟩⟩
  case round =>
    obtain ⟨k, m, cs', hk, hmk, rfl, rfl, hst⟩ := hrel
    by_cases hlt : k < n
    · obtain ⟨s, hs⟩ : ∃ s, ss[k]? = some s := ⟨_, List.getElem?_eq_getElem (by rw [Hn.out]; exact hlt)⟩
      have hso := (HOK.out s (List.mem_of_getElem? hs)).to hst.grown
      have hcell := hst.blk.cell ((hst.rest k (Nat.le_refl _)).trans (HCS.out k s hs))
      have hsm := hso.small
      have hrow := hso.row
      have hsl := hso.len
      have hyes : keepB p x s.r = true → StayAt ss G cap p x cs w _ (k + 1) (m + 1) (cs'.set m s.v) := fun hkb => hst.take_ hs hkb hmk (by omega) (below_alloc1 wr (.cells #[s.v] 48))
      have hno : keepB p x s.r = false → StayAt ss G cap p x cs w wr (k + 1) m cs' := fun hkb => hst.skip hs hkb
      have hS2 : SBlk (wr.alloc (.cells #[s.v] 48)) G cs' := hst.blk.to (below_alloc1 _ _)
      have hc2 : (wr.alloc (.cells #[s.v] 48)).cell? ⟨wr.heap.size, 0, none⟩ = some s.v := by
        have := World.alloc_heap_new wr (.cells #[s.v] 48)
        simp only [World.cell?, this]
        rfl
      have hrun := fun ty => run_append_src _ ty G m cap cs' hS2 hst.cap_ (by omega) ⟨wr.heap.size, 0, none⟩ 1 _ hc2 rfl
      obtain ⟨sa, sn, sc, sr⟩ := s
      simp only [Src.v] at hcell hsm hrow hsl hrun hyes hno
      have HRun := Lib.hid hrun
      have HY := Lib.hid hyes
      have HN := Lib.hid hno
      clear hrun hyes hno hS2 hc2 hst
      by_cases hb : p < sn
      · obtain ⟨y, hy⟩ : ∃ y, sr[p]? = some y := ⟨_, List.getElem?_eq_getElem (by rw [hsl]; exact hb)⟩
        by_cases hyx : y = x
        · have hkb : keepB p x sr = true := by simp [keepB, hy, hyx]
          have hd : (y == x) = true := by simp [hyx]
          have Hs := Lib.hid (And.intro hsl (And.intro hy hkb))
          clear hsl hy hkb hs hso hyx
          go_wp2_with (first
            | (go_at_call 33; refine (bit_yes sr sn Hs.out.1 (some sa) sc _ p y Hs.out.2.1 _ hrow (by omega)).mono ?_; rintro e w' ⟨rfl, rfl⟩)
            | (at_builtin; refine Lib.wpList_append_run _ rfl _ _ _ _ rfl _ _ rfl rfl _ _ (HRun.out _) ?_))
          exact ⟨⟨k + 1, m + 1, _, by omega, by omega, by go_num, rfl, HY.out Hs.out.2.2⟩, by simp [intOf]; omega⟩
        · have hkb : keepB p x sr = false := by simp [keepB, hy, hyx]
          have hd : (y == x) = false := by simp [hyx]
          have Hs := Lib.hid (And.intro hsl (And.intro hy hkb))
          clear hsl hy hkb hs hso hyx
          go_wp2_with (first
            | (go_at_call 33; refine (bit_yes sr sn Hs.out.1 (some sa) sc _ p y Hs.out.2.1 _ hrow (by omega)).mono ?_; rintro e w' ⟨rfl, rfl⟩))
          exact ⟨⟨k + 1, m, _, by omega, by omega, by go_num, rfl, HN.out Hs.out.2.2⟩, by simp [intOf]; omega⟩
      · have hy : sr[p]? = none := List.getElem?_eq_none (by rw [hsl]; omega)
        have hkb : keepB p x sr = true := by simp [keepB, hy]
        have Hs := Lib.hid (And.intro hsl (And.intro hy hkb))
        clear hsl hy hkb hs hso
        go_wp2_with (first
          | (go_at_call 33; refine (bit_no sn (some sa) sc p (by omega) _ (by omega)).mono ?_; rintro e w' ⟨rfl, rfl⟩)
          | (at_builtin; refine Lib.wpList_append_run _ rfl _ _ _ _ rfl _ _ rfl rfl _ _ (HRun.out _) ?_))
        exact ⟨⟨k + 1, m + 1, _, by omega, by omega, by go_num, rfl, HY.out Hs.out.2.2⟩, by simp [intOf]; omega⟩
    · obtain rfl : k = n := by omega
      have e : ss.take k = ss := List.take_of_length_le (Nat.le_of_eq Hn.out)
      obtain ⟨h1, h2, h3, h4, h5, h6⟩ := hst
      rw [e] at h1 h4
      by_cases hmk2 : m = k
      · have hclr : ∀ (a : Option Addr) (c : Nat), (Builtin.clear_ #[45] 0 #[.slice a (k - m) c]).run Try.prog wr = .ok (.tuple #[]) wr := by
          intro a c
          rw [show k - m = 0 by omega]
          exact clear_no wr 0 a c
        have HST := Lib.hid (And.intro h1 (And.intro h2 (And.intro h3 (And.intro h4 h6))))
        clear h1 h2 h3 h4 h5 h6 e hmk2
        go_wp2_with fail
        all_goals
          go_ret
          exact ⟨cs', m, rfl, HST.out.1, hmk, HST.out.2.1, by first | exact HST.out.2.2.1 | (rw [HST.out.2.2.1]; omega), HST.out.2.2.2.1, HST.out.2.2.2.2⟩
      · have hcm : ¬ cap = m := by omega
        have hclr := clear_yes h2 0 m (k - m) (cap - m) (by omega) (by rw [h3]; omega)
        obtain ⟨cs2, g1, g2, g3, g4⟩ := SBlk.setcs (List.replicate (k - m) .nilFunc) wr cs' m h2
        obtain ⟨w2, hw2⟩ : ∃ w2, wr.setCells G m (List.replicate (k - m) .nilFunc) = w2 := ⟨_, rfl⟩
        rw [hw2] at g1 g4 hclr
        have HST := Lib.hid (And.intro h1 (And.intro (g2.trans h3) (And.intro h4 (And.intro g3 (h6.trans g4)))))
        clear h1 h2 h3 h4 h5 h6 e g2 g3 g4 hw2
        go_wp2_with fail
        go_ret
        refine ⟨cs2, m, rfl, HST.out.1, hmk, g1, HST.out.2.1, fun j s' hj => ?_, HST.out.2.2.2.2⟩
        rw [HST.out.2.2.2.1 j (by rw [← HST.out.1]; exact (List.getElem?_eq_some_iff.1 hj).1)]
        exact HST.out.2.2.1 j s' hj

end Go.Proofs.Ytfmlnfblfhmapaa
