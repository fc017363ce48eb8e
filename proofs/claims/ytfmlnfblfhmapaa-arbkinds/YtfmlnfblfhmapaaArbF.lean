/-
  arb.Line.
-/
import Derived.Test.YtfmlnfblfhmapaaArbE
namespace Go.Proofs.Ytfmlnfblfhmapaa
open Go.RowKit
set_option linter.unusedVariables false

theorem grown_below {w1 wr w' : World} {row : Option Nat} (h : w1.grownBy wr row) (b : Below w1.heap.size wr w') : w1.grownBy w' row :=
  ⟨b.os.trans h.os, b.tape.trans h.tape, b.output.trans h.output, Nat.le_trans h.size b.size, fun k hk hne => (b.block k hk).trans (h.block k hk hne)⟩
theorem own_grown {w w' : World} {base : Nat} {e : TypeId} {size : Nat} {v : Value} {n G : Nat} {xs : List Value} (h : w.ownsRow base e size v n xs) (g : w.grownBy w' (some G)) (hG : G < base) : w'.ownsRow base e size v n xs := by
  refine ⟨h.1, ?_⟩
  rcases h.2 with h0 | ⟨b, cap, cur, hv, hb, hg, hrest⟩
  · exact .inl h0
  · exact .inr ⟨b, cap, cur, hv, hb, (g.block b (Array.getElem?_eq_some_iff.1 hg).1 (by simp; omega)).trans hg, hrest⟩
theorem below_of_grown' {w w1 wr : World} {G : Nat} (b : Below w.heap.size w w1) (g : w1.grownBy wr (some G)) (hG : w.heap.size ≤ G) : Below w.heap.size w wr :=
  ⟨g.os.trans b.os, g.tape.trans b.tape, g.output.trans b.output, Nat.le_trans b.size g.size, fun k hk => (g.block k (by have := b.size; omega) (by simp; omega)).trans (b.block k hk)⟩

def cur (ss : List Src) (W : List Int) (p : Nat) : List Src := ss.filter fun s => stays W p s.r
theorem bitsL_cur (ss : List Src) (W : List Int) (p : Nat) : bitsL (cur ss W p) p = (((ss.map (·.r)).filter (stays W p)).filterMap (·[p]?)) := by
  unfold bitsL cur
  rw [List.filter_map, List.filterMap_map]
  rfl
theorem keep_cur {ss : List Src} {W : List Int} {p : Nat} {x : Int} (h : LeastE W (ss.map (·.r))) (hx : W[p]? = some x) : keepL p x (cur ss W p) = cur ss W (p + 1) := by
  unfold keepL cur
  rw [List.filter_filter]
  apply List.filter_congr
  intro s hs
  exact stays_succ hx h.rw_ (h.all s.r (List.mem_map.2 ⟨s, hs, rfl⟩))
theorem cur_zero (ss : List Src) (W : List Int) : cur ss W 0 = ss := by
  unfold cur
  rw [List.filter_eq_self]
  intro s _
  simp [stays]

structure LineAt (ss : List Src) (G n : Nat) (W : List Int) (w1 wr : World) (p m : Nat) (A' : Option Addr) (c' : Nat) (cs : List Value) : Prop where
  len : (cur ss W p).length = m
  blk : SBlk wr G cs
  cap_ : cs.length = n
  kept : ∀ (k : Nat) (s : Src), (cur ss W p)[k]? = some s → cs[k]? = some s.v
  own : wr.ownsRow w1.heap.size 3 1 (.slice A' p c') p ((W.take p).map (Value.int .i64))
  grown : w1.grownBy wr (some G)

set_option maxRecDepth 100000 in
set_option maxHeartbeats 2000000 in
theorem line_any (fs : List FV) (n : Nat) (hn : fs.length = n) (A : Option Addr) (c : Nat) (w : World) (h : FRow w w.heap.size A fs) (hok : ∀ f ∈ fs, FOk f) (hm : n ≤ 100) (W : List Int) (hW : LeastE W (ranks fs)) (q : Nat) (hq : W.length = q) (hq32 : q ≤ 32) :
    Calls Try.prog 19 #[.slice A n c] w fun e w' => ∃ A' c', e = .returned (.slice A' q c') ∧ q ≤ c' ∧ Row .i64 w' w'.heap.size A' W ∧ Below w.heap.size w w' := by
  obtain ⟨i0, hi, hz0, hz1, hz2⟩ := info_parts Try.infoInt
  have HW := Lib.hid (And.intro hW hq)
  clear hW hq
  go_enter Try.func19, Try.ntmps19
  go_wp2_with fail
  refine (sourcesOf_any fs n hn A c w h hok hm).mono ?_
  rintro e w1 ⟨G, ss, rfl, hG, hS, hss, hso, -, hB1⟩
  have hGlt := hS.lt
  have HSS := Lib.hid (show LeastE W (ss.map (·.r)) by rw [hss]; exact HW.out.1)
  have hlen : ss.length = n := by
    have := congrArg List.length hss
    simpa [ranks, hn] using this
  have HF := Lib.hid (And.intro hlen (And.intro hso hS))
  clear hss hso hlen hS hok hn h
  go_wp2_with fail
  go_loopw [3, 4, 5] (fun ln cm po wr => ∃ (p m : Nat) (A' : Option Addr) (c' : Nat) (cs : List Value), p ≤ q ∧ m ≤ n ∧ p ≤ c' ∧ po = .int .i64 p ∧ ln = .slice A' p c' ∧ cm = .slice (some ⟨G, 0, none⟩) m n ∧ LineAt ss G n W w1 wr p m A' c' cs)
    (fun _ _ po _ => q - (intOf po).toNat)
  case atStart =>
    refine ⟨0, n, none, 0, ss.map Src.v, Nat.zero_le _, Nat.le_refl _, Nat.le_refl _, rfl, rfl, rfl, ⟨?_, HF.out.2.2, by rw [List.length_map]; exact HF.out.1, ?_, World.ownsRow_nil _ _ _ _, ⟨rfl, rfl, rfl, Nat.le_refl _, fun _ _ _ => rfl⟩⟩⟩
    · rw [cur_zero]; exact HF.out.1
    · rw [cur_zero]
      intro k s hs
      rw [List.getElem?_map, hs]
      rfl
  case round =>
    obtain ⟨p, m, A', c', cs, hp, hmn, hpc, rfl, rfl, rfl, hl⟩ := hrel
    have hok2 : ∀ s ∈ cur ss W p, SrcOk wr G s := fun s hs => (HF.out.2.1 s (List.mem_filter.1 hs).1).to hl.grown
    have hbits := bitsL_cur ss W p
    by_cases hlt : p < q
    · obtain ⟨x, hx⟩ : ∃ x, W[p]? = some x := ⟨_, List.getElem?_eq_getElem (by rw [HW.out.2]; exact hlt)⟩
      obtain ⟨mb, hmb⟩ : ∃ mb, (bitsL (cur ss W p) p).length = mb := ⟨_, rfl⟩
      have hmb0 : 0 < mb := by
        rw [← hmb, hbits]
        exact List.length_pos_iff.2 (stays_len HSS.out (by rw [HW.out.2]; exact hlt))
      have hand : andL (bitsL (cur ss W p) p) = x := by rw [hbits]; exact and_stays HSS.out hx
      have hkeep := keep_cur HSS.out hx
      have htk := take_snoc hx
      have HX := Lib.hid (And.intro hx (And.intro hmb (And.intro hand (And.intro hkeep htk))))
      have HL := Lib.hid hl
      have HO := Lib.hid hok2
      clear hx hmb hand hkeep htk hl hok2 hbits
      have hd : ((mb : Int) == 0) = false := by simp; omega
      go_wp2_with fail
      refine (bitsAt_any (cur ss W p) m HL.out.len G n p cs wr HL.out.blk HL.out.kept HO.out (by omega) hmn (by omega)).mono ?_
      rintro e w2 ⟨A2, c2, mb', rfl, hmb2, hmbn, hr2, hB2⟩
      obtain rfl : mb = mb' := by rw [← HX.out.2.1, hmb2]
      clear hmb2
      go_wp2_with fail
      refine (and_any (bitsL (cur ss W p) p) mb HX.out.2.1 A2 c2 _ w2 hr2 (by unfold maxLen; omega) x HX.out.2.2.1).mono ?_
      rintro e w' ⟨rfl, rfl⟩
      have hown2 := own_to HL.out.own hB2
      have hs2 : w1.heap.size ≤ w2.heap.size := Nat.le_trans HL.out.grown.size hB2.size
      go_wp2_with (at_builtin; refine wpList_append_row _ .i64 rfl _ _ 23 rfl w1.heap.size 3 i0 (.int .i64 0) 8 Try.underlying23 hi hz0 hz1 hz2 rfl _ p (W.take p) rfl (hown2.alloc _) (some ⟨w2.heap.size, 0, none⟩) 1 1 _ [x] rfl rfl (Row.lit w2 .i64 [x] 3 rfl) (by unfold maxLen; omega) (by omega) (by simp; omega) ?_; intro A3 c3 w3 hown3 hc3 hB3)
      have hB23 : Below w1.heap.size wr w3 := ((hB2.mono HL.out.grown.size).alloc hs2 _).trans hB3
      have hS3 : SBlk w3 G cs := (hB23.block G hGlt).trans HL.out.blk
      have hg3 := grown_below HL.out.grown hB23
      have hok3 : ∀ s ∈ cur ss W p, SrcOk w3 G s := fun s hs => (HF.out.2.1 s (List.mem_filter.1 hs).1).to hg3
      have HO3 := Lib.hid hok3
      clear hok3
      refine (staying_any (cur ss W p) m HL.out.len G n p x cs w3 hS3 HL.out.cap_ HL.out.kept HO3.out hm hmn (by omega)).mono ?_
      rintro e w4 ⟨cs4, m4, rfl, hm4, hmm4, hS4, hc4, hk4, hg4⟩
      rw [HX.out.2.2.2.1] at hm4 hk4
      have hown4 := own_grown hown3 hg4 hGlt
      rw [← HX.out.2.2.2.2] at hown4
      have HE := Lib.hid (LineAt.mk hm4 hS4 hc4 hk4 hown4 (hg3.trans hg4))
      clear hm4 hS4 hc4 hk4 hown4 hg4 hown3 hown2 hS3 hg3 hB23 hB2 hB3
      go_wp2_with fail
      exact ⟨⟨p + 1, m4, A3, c3, cs4, by omega, by omega, hc3, by go_num, rfl, rfl, HE.out⟩, by simp [intOf]; omega⟩
    · obtain rfl : p = q := by omega
      have hnone : bitsL (cur ss W p) p = [] := by
        rw [hbits]
        have := stays_none HSS.out
        rw [HW.out.2] at this
        exact this
      have HX := Lib.hid hnone
      have HL := Lib.hid hl
      have HO := Lib.hid hok2
      clear hnone hl hok2 hbits
      go_wp2_with fail
      refine (bitsAt_any (cur ss W p) m HL.out.len G n p cs wr HL.out.blk HL.out.kept HO.out (by omega) hmn (by omega)).mono ?_
      rintro e w2 ⟨A2, c2, mb', rfl, hmb2, hmbn, hr2, hB2⟩
      obtain rfl : 0 = mb' := by rw [← hmb2, HX.out]; rfl
      have hown2 := own_to HL.out.own hB2
      have hg2 := grown_below HL.out.grown (hB2.mono HL.out.grown.size)
      have hB := below_of_grown' hB1 hg2 hG
      have HE := Lib.hid (And.intro hown2 hB)
      clear hmb2 hown2 hg2 hB
      go_wp2_with fail
      go_ret
      have e : W.take p = W := List.take_of_length_le (Nat.le_of_eq HW.out.2)
      have hr := HE.out.1
      rw [e] at hr
      exact ⟨A', c', rfl, hpc, Row.own hr, HE.out.2⟩

end Go.Proofs.Ytfmlnfblfhmapaa
