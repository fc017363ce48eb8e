/-
  ArbTells; the document's Line and And (layer 6).
-/
import Derived.Test.YtfmlnfblfhmapaaArbX
import Derived.Test.YtfmlnfblfhmapaaHead6
namespace Go.Proofs.Ytfmlnfblfhmapaa
open Go.RowKit
set_option linter.unusedVariables false
set_option linter.unusedSimpArgs false

set_option maxRecDepth 100000 in
set_option maxHeartbeats 1000000 in
theorem refLine_any (fs : List FV) (n : Nat) (hn : fs.length = n) (A : Option Addr) (c : Nat) (w : World) (h : FRow w w.heap.size A fs) (hok : ∀ f ∈ fs, FOk f) (hm : n ≤ 100) (W : List Int) (hW : LeastE W (ranks fs)) (q : Nat) (hq : W.length = q) :
    Calls Try.prog 20 #[.slice A n c] w fun e w' => ∃ A' c', e = .returned (.slice A' q c') ∧ Row .i64 w' w'.heap.size A' W ∧ Below w.heap.size w w' := by
  by_cases h0 : n = 0
  · subst h0
    obtain rfl : fs = [] := List.eq_nil_of_length_eq_zero hn
    obtain rfl : W = [] := hW.none_ rfl
    obtain rfl : q = 0 := by rw [← hq]; rfl
    clear hW hq
    go_enter Try.func20, Try.ntmps20
    go_wp2_with fail
    go_ret
    exact ⟨_, _, rfl, .inl rfl, below_alloc1 _ _⟩
  · have hd : ((n : Int) == 0) = false := by simp; omega
    obtain ⟨b, g, hbl, hg, hgW, hwin, -⟩ := winner hW (by rw [hn]; omega)
    have hbn : b < n := by rw [← hn]; exact hbl
    have hgok := hok g (List.mem_of_getElem? hg)
    have hgq : (rankF g).length = q := by rw [hgW]; exact hq
    have HX := Lib.hid (And.intro hg (And.intro hgW (And.intro hwin (And.intro hgq (And.intro hW (And.intro hn hok))))))
    clear hg hgW hwin hgq hbl hW hq hn hok
    go_enter Try.func20, Try.ntmps20
    go_wp2_with fail
    refine (refWin_any fs n HX.out.2.2.2.2.2.1 A c w h HX.out.2.2.2.2.2.2 hm W HX.out.2.2.2.2.1 (b : Int) HX.out.2.2.1).mono ?_
    rintro e w1 ⟨rfl, hB1⟩
    have h1 := h.to hB1
    obtain ⟨ad, g', rfl, hg', g0, g1, g2, g3, g4⟩ := h1.get_ (k := b) (by rw [HX.out.2.2.2.2.2.1]; exact hbn)
    obtain rfl : g = g' := by rw [HX.out.1] at hg'; exact Option.some.inj hg'
    clear hg'
    go_wp2_with fail
    refine (rank6_at g hgok q HX.out.2.2.2.1 w1).mono ?_
    rw [HX.out.2.1]
    rintro e w2 ⟨A2, c2, rfl, hr2, hc2, hB2⟩
    go_wp2_with fail
    go_ret
    exact ⟨A2, c2, rfl, hr2, below_then hB1 hB2⟩

set_option maxRecDepth 100000 in
set_option maxHeartbeats 1000000 in
theorem refAnd_any (l : List Int) (n : Nat) (hn : l.length = n) (A : Option Addr) (c B : Nat) (w : World) (h : Row .i64 w B A l) (hl : n ≤ 1000) (x : Int) (hx : andL l = x) :
    Calls Try.prog 22 #[.slice A n c] w fun e w' => e = .returned (.int .i64 x) ∧ w = w' := by
  have HX := Lib.hid (And.intro hx hn)
  clear hx hn
  go_enter Try.func22, Try.ntmps22
  go_wp2_with fail
  go_loop [3] (fun i => ∃ k : Nat, k ≤ n ∧ i = .int .i64 k ∧ (0 : Int) ∉ l.take k) (fun i => n - (intOf i).toNat)
  case atStart => exact ⟨0, Nat.zero_le _, rfl, by simp⟩
  case round =>
    obtain ⟨k, hk, rfl, hno⟩ := hrel
    by_cases hlt : k < n
    · obtain ⟨ad, v, rfl, hv, hc⟩ := h.get_ (k := k) (by rw [HX.out.2]; exact hlt)
      by_cases hv0 : v = 0
      · have hd : (v == 0) = true := by simp [hv0]
        obtain rfl : 0 = x := by rw [← HX.out.1, andL, if_pos (by rw [← hv0]; exact List.mem_of_getElem? hv)]
        clear hv hv0 hno
        go_wp2
        go_ret
        exact ⟨rfl, rfl⟩
      · have hd : (v == 0) = false := by simp [hv0]
        have HN := Lib.hid (show (0 : Int) ∉ l.take (k + 1) by rw [take_snoc hv]; simp; exact ⟨hno, fun e => hv0 e.symm⟩)
        clear hv hv0 hno
        go_wp2
        go_round
        case measure => simp [intOf]; omega
        exact ⟨k + 1, by omega, by go_num, HN.out⟩
    · obtain rfl : k = n := by omega
      rw [List.take_of_length_le (Nat.le_of_eq HX.out.2)] at hno
      obtain rfl : 1 = x := by rw [← HX.out.1, andL, if_neg hno]
      clear hno
      go_wp2
      go_ret
      exact ⟨rfl, rfl⟩

set_option maxRecDepth 100000 in
set_option maxHeartbeats 4000000 in
theorem arbTells_any (fs : List FV) (n0 : Nat) (hn : fs.length = n0) (A : Option Addr) (c : Nat) (l : List Int) (m0 : Nat) (hl : l.length = m0) (A' : Option Addr) (c' : Nat) (w : World) (h : FRow w w.heap.size A fs) (hd : ∀ f ∈ fs, FData w f) (hm : n0 ≤ maxLen) (h' : Row .i64 w w.heap.size A' l) (hm' : m0 ≤ maxLen) :
    Calls Try.prog 3 #[.slice A n0 c, .slice A' m0 c'] w fun e w' => e = .returned (.bool true) ∧ Below w.heap.size w w' := by
  subst hl
  go_enter Try.func3, Try.ntmps3
  go_wp2_with fail
  refine (head6_any w).mono ?_
  rintro e w1 ⟨rfl, hB1⟩
  have h1 := h.to hB1
  have h1' := h'.to hB1
  have hd1 : ∀ f ∈ fs, FData w1 f := fun f hf => (hd f hf).to hB1
  clear h hd h'
  go_wp2_with fail
  refine (frames_any 10 (by omega) fs n0 hn A c w1 h1 hd1 hm).mono ?_
  rintro e w2 ⟨A2, n, c2, gs, rfl, hl2, hn8, hnc2, hok, hown2, hB2⟩
  have hT2 := below_then hB1 hB2
  have hr2 := FRow.own hown2
  have h2' := h1'.to hB2
  obtain ⟨W, q, hW, hWq, hq⟩ := least_fs gs hok
  obtain ⟨z, hz⟩ : ∃ z, winOf W (ranks gs) = z := ⟨_, rfl⟩
  obtain ⟨ls, hls⟩ : ∃ ls, (ranks gs).map (lostOf W) = ls := ⟨_, rfl⟩
  have hlsn : ls.length = n := by rw [← hls]; simp [ranks, hl2]
  have HG := Lib.hid (And.intro hl2 (And.intro hok (And.intro hW (And.intro hWq (And.intro hz (And.intro hls hlsn))))))
  clear hl2 hok hown2 hB1 hB2 h1 hd1 hn hm hW hWq hz hls hlsn h1'
  go_wp2_with fail
  refine (refBits_any 50 (by omega) l A' c' w2 h2' hm').mono ?_
  rintro e w3 ⟨A3, c3, m, rfl, hlm, hc3, hown3, hB3⟩
  have hr3 := Row.own hown3
  have hm50 : m ≤ 50 := by rw [← hlm]; simp [lowM]; omega
  obtain ⟨bs, hbs⟩ : ∃ bs, lowM 50 l = bs := ⟨_, rfl⟩
  rw [hbs] at hr3 hlm
  obtain ⟨x, hx⟩ : ∃ x, andL bs = x := ⟨_, rfl⟩
  have HL := Lib.hid (And.intro hlm hx)
  have hf3 := hr2.to hB3
  have hT3 := below_then hT2 hB3
  clear hbs hown3 hlm hx hT2 hr2 h2' hB3
  go_wp2_with fail
  refine (win_any gs n HG.out.1 A2 c2 w3 hf3 HG.out.2.1 (by omega) W HG.out.2.2.1 q HG.out.2.2.2.1 hq z HG.out.2.2.2.2.1).mono ?_
  rintro e w4 ⟨rfl, hB4⟩
  have hf4 := hf3.to hB4
  have hr4 := hr3.to hB4
  have hT4 := below_then hT3 hB4
  clear hf3 hr3 hT3 hB4
  go_wp2_with fail
  refine (refWin_any gs n HG.out.1 A2 c2 w4 hf4 HG.out.2.1 (by omega) W HG.out.2.2.1 z HG.out.2.2.2.2.1).mono ?_
  rintro e w5 ⟨rfl, hB5⟩
  have hf5 := hf4.to hB5
  have hr5 := hr4.to hB5
  have hT5 := below_then hT4 hB5
  clear hf4 hr4 hT4 hB5
  go_wp2_with fail
  refine (lost_any gs n HG.out.1 A2 c2 w5 hf5 HG.out.2.1 (by omega) W HG.out.2.2.1 q HG.out.2.2.2.1 hq).mono ?_
  rw [HG.out.2.2.2.2.2.1]
  rintro e w6 ⟨A6, rfl, ha6, hB6⟩
  have hf6 := hf5.to hB6
  have hr6 := hr5.to hB6
  have hT6 := below_then hT5 hB6
  clear hf5 hr5 hT5 hB6
  go_wp2_with fail
  refine (refLost_any gs n HG.out.1 A2 c2 w6 hf6 HG.out.2.1 (by omega) W HG.out.2.2.1).mono ?_
  rw [HG.out.2.2.2.2.2.1]
  rintro e w7 ⟨A7, c7, rfl, hc7, hb7, hB7⟩
  have ha7 := ha6.to hB7
  have hf7 := hf6.to hB7
  have hr7 := hr6.to hB7
  have hT7 := below_then hT6 hB7
  clear hf6 hr6 hT6 hB7 ha6
  go_wp2_with fail
  refine (ints_q ls ls n n HG.out.2.2.2.2.2.2 HG.out.2.2.2.2.2.2 A6 A7 n c7 w7 ha7 hb7 (by unfold maxLen; omega) (by unfold maxLen; omega) true (by simp [sameB])).mono ?_
  rintro e w8 ⟨rfl, hB8⟩
  have hf8 := hf7.to hB8
  have hr8 := hr7.to hB8
  have hT8 := below_then hT7 hB8
  clear hf7 hr7 hT7 hB8 ha7 hb7
  go_wp2_with fail
  refine (line_any gs n HG.out.1 A2 c2 w8 hf8 HG.out.2.1 (by omega) W HG.out.2.2.1 q HG.out.2.2.2.1 hq).mono ?_
  rintro e w9 ⟨A9, c9, rfl, hc9, ha9, hB9⟩
  have hf9 := hf8.to hB9
  have hr9 := hr8.to hB9
  have hT9 := below_then hT8 hB9
  clear hf8 hr8 hT8 hB9
  go_wp2_with fail
  refine (refLine_any gs n HG.out.1 A2 c2 w9 hf9 HG.out.2.1 (by omega) W HG.out.2.2.1 q HG.out.2.2.2.1).mono ?_
  rintro e w10 ⟨A10, c10, rfl, hb10, hB10⟩
  have ha10 := ha9.to hB10
  have hr10 := hr9.to hB10
  have hT10 := below_then hT9 hB10
  clear hf9 hr9 hT9 hB10 ha9
  go_wp2_with fail
  refine (ints_q W W q q HG.out.2.2.2.1 HG.out.2.2.2.1 A9 A10 c9 c10 w10 ha10 hb10 (by unfold maxLen; omega) (by unfold maxLen; omega) true (by simp [sameB])).mono ?_
  rintro e w11 ⟨rfl, hB11⟩
  have hr11 := hr10.to hB11
  have hT11 := below_then hT10 hB11
  clear hr10 hT10 hB11 ha10 hb10
  go_wp2_with fail
  refine (and_any bs m HL.out.1 A3 c3 _ w11 hr11 (by unfold maxLen; omega) x HL.out.2).mono ?_
  rintro e w' ⟨rfl, rfl⟩
  go_wp2_with fail
  refine (refAnd_any bs m HL.out.1 A3 c3 _ w11 hr11 (by omega) x HL.out.2).mono ?_
  rintro e w' ⟨rfl, rfl⟩
  go_wp2_with fail
  go_ret
  exact ⟨rfl, hT11⟩

end Go.Proofs.Ytfmlnfblfhmapaa
