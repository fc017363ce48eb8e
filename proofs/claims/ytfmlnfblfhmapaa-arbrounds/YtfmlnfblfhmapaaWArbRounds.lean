/-
  ArbRounds.
-/
import Derived.Test.YtfmlnfblfhmapaaHead6
import Derived.Test.YtfmlnfblfhmapaaArbW
namespace Go.Proofs.Ytfmlnfblfhmapaa
open Go.RowKit
set_option linter.unusedVariables false
set_option linter.unusedSimpArgs false

structure Rest (n : Nat) (wr w : World) (k n' : Nat) (A' : Option Addr) (c' : Nat) (gs : List FV) (La : Option Addr) (q : Nat) (last : List Int) : Prop where
  len : gs.length = n'
  ok : ∀ g ∈ gs, FOk g
  row : FRow wr wr.heap.size A' gs
  llen : last.length = q
  lrow : Row .i64 wr wr.heap.size La last
  ahead : 0 < k → ∀ g ∈ gs, lessB (rankF g) last = false
  below : Below w.heap.size w wr

set_option maxRecDepth 100000 in
set_option maxHeartbeats 4000000 in
theorem arbRounds_any (fs : List FV) (n0 : Nat) (hn : fs.length = n0) (A : Option Addr) (c : Nat) (w : World) (h : FRow w w.heap.size A fs) (hd : ∀ f ∈ fs, FData w f) (hm : n0 ≤ maxLen) :
    Calls Try.prog 9 #[.slice A n0 c] w fun e w' => e = .returned (.bool true) ∧ Below w.heap.size w w' := by
  go_enter Try.func9, Try.ntmps9
  go_wp2_with fail
  refine (head6_any w).mono ?_
  rintro e w1 ⟨rfl, hB1⟩
  have h1 := h.to hB1
  have hd1 : ∀ f ∈ fs, FData w1 f := fun f hf => (hd f hf).to hB1
  clear h hd
  go_wp2_with fail
  refine (frames_any 8 (by omega) fs n0 hn A c w1 h1 hd1 hm).mono ?_
  rintro e w2 ⟨A2, n, c2, gs0, rfl, hl2, hn8, hnc2, hok0, hown2, hB2⟩
  have hT2 := below_then hB1 hB2
  have hr2 := FRow.own hown2
  have HG := Lib.hid (And.intro hl2 hok0)
  clear hl2 hok0 hown2 hB1 hB2 h1 hd1 hn hm
  go_wp2_with (at_builtin; refine wpList_append_fr _ rfl _ _ rfl w2.heap.size _ 0 [] rfl (fown_empty w2 _ _ rfl (Nat.le_refl _)) A2 n c2 w2.heap.size gs0 rfl HG.out.1 (hr2.below (below_alloc1 _ _)) (by omega) (by simp) ?_; intro A3 c3 w3 hown3 hc3 hB3; simp only [Nat.zero_add, List.nil_append] at hown3 hc3)
  have hB23 : Below w2.heap.size w2 w3 := ((Below.refl _ w2).alloc (Nat.le_refl _) _).trans hB3
  have hT3 := hT2.trans (hB23.mono hT2.size)
  have hr3 := FRow.own hown3
  clear hown3 hB3 hB23 hT2 hr2
  go_loopw [4, 5, 6] (fun lf la i wr => ∃ (k n' : Nat) (A' : Option Addr) (c' : Nat) (gs : List FV) (La : Option Addr) (q cl : Nat) (last : List Int), n' + k = n ∧ i = .int .i64 k ∧ lf = .slice A' n' c' ∧ n' ≤ c' ∧ la = .slice La q cl ∧ q ≤ 32 ∧ Rest n wr w k n' A' c' gs La q last)
    (fun _ _ i _ => n - (intOf i).toNat)
  case atStart =>
    exact ⟨0, n, A3, c3, gs0, _, 0, 0, [], by omega, rfl, rfl, hc3, rfl, by omega, ⟨HG.out.1, HG.out.2, hr3.to (below_alloc1 _ _), rfl, .inl rfl, by omega, below_then hT3 (below_alloc1 _ _)⟩⟩
  case round =>
    clear hr3 hT3
    obtain ⟨k, n', A', c', gs, La, q, cl, last, hkn, rfl, rfl, hnc, rfl, hq, hR⟩ := hrel
    obtain ⟨W, p, hW, hWp, hp⟩ := least_fs gs hR.ok
    by_cases hlt : k < n
    · have hn0 : 0 < gs.length := by rw [hR.len]; omega
      obtain ⟨i, f, hi, hf, hfW, hwin, hfirst⟩ := winner hW hn0
      have hin : i < n' := by rw [← hR.len]; exact hi
      have hic : i + 1 ≤ c' := by omega
      have hfok := hR.ok f (List.mem_of_getElem? hf)
      have HX := Lib.hid (And.intro hW (And.intro hWp (And.intro hwin (And.intro hf hfW))))
      clear hn0 hi hf hfW hwin hfirst hW hWp
      go_wp2_with fail
      refine (win_any gs n' hR.len A' c' wr hR.row hR.ok (by omega) W HX.out.1 p HX.out.2.1 hp (i : Int) HX.out.2.2.1).mono ?_
      rintro e w4 ⟨rfl, hB4⟩
      have hr4 := hR.row.to hB4
      have hl4 := hR.lrow.to hB4
      have hT4 := below_then hR.below hB4
      obtain ⟨ad, f', rfl, hf', hc0, hc1, hc2', hc3', hc4⟩ := hr4.get_ (k := i) (by rw [hR.len]; exact hin)
      obtain rfl : f = f' := by rw [HX.out.2.2.2.1] at hf'; exact Option.some.inj hf'
      clear hf' hB4
      go_wp2_with fail
      refine (rank6_at f hfok p (by rw [HX.out.2.2.2.2]; exact HX.out.2.1) w4).mono ?_
      rw [HX.out.2.2.2.2]
      rintro e w5 ⟨A5, c5, rfl, hr5, hc5, hB5⟩
      have hg5 := hr4.to hB5
      have hl5 := hl4.to hB5
      have hT5 := below_then hT4 hB5
      clear hr4 hl4 hT4 hB5 hc0 hc1 hc2' hc3' hc4
      have hsl : FRow w5 w5.heap.size (some ad) (gs.take i) := by
        have := hg5.sub_ 0 i (Nat.zero_le _) (by rw [hR.len]; omega) (A' := some ad) (fun _ => by simp [Addr.add])
        simpa using this
      have hsr : FRow w5 w5.heap.size (some (ad.add ((i + 1) * 5))) (gs.drop (i + 1)) := by
        have := hg5.sub_ (i + 1) n' (by omega) (by rw [hR.len]; omega) (A' := some (ad.add ((i + 1) * 5))) (fun _ => rfl)
        rwa [List.take_of_length_le (by rw [List.length_drop, hR.len]; omega)] at this
      have hsr' := hsr
      rw [add_pos _ _ (by omega)] at hsr'
      have hrl : (gs.drop (i + 1)).length = n' - (i + 1) := by rw [List.length_drop, hR.len]
      have her : gs.take i ++ gs.drop (i + 1) = gs.eraseIdx i := (List.eraseIdx_eq_take_drop_succ gs i).symm
      have HT := Lib.hid (And.intro (show (gs.take i).length = i by rw [List.length_take, hR.len]; omega) (And.intro hrl (And.intro her (show (gs.eraseIdx i).length = n' - 1 by rw [List.length_eraseIdx, hR.len, if_pos hin]))))
      have HR := Lib.hid hR
      have HA := Lib.hid (fun (h0 : 0 < k) => hR.ahead h0 f (List.mem_of_getElem? HX.out.2.2.2.1))
      have hll := hR.llen
      have hbl := hR.below
      have Hll := Lib.hid hll
      have hi0 : decide ((i : Int) < 0) = false := by simp
      clear hrl her hR hll
      by_cases hk0 : k = 0
      · subst hk0
        by_cases hce : c' = i + 1
        · subst hce
          obtain rfl : n' = i + 1 := by omega
          go_wp2_with (first
            | (have hq_ := hown6; clear hq_; at_builtin; refine wpList_append_fr _ rfl _ _ rfl w5.heap.size _ i (gs.take i) rfl hown6 _ _ _ w5.heap.size [] rfl (by first | rfl | simp | (simp; omega)) (.inl rfl) (by omega) hB56.size ?_; intro A7 c7 w7 hown7 hc7 hB7)
            | (at_builtin; refine wpList_append_fr _ rfl _ _ rfl w5.heap.size _ 0 [] rfl (fown_empty w5 _ _ rfl (Nat.le_refl _)) (some ad) i _ w5.heap.size (gs.take i) rfl HT.out.1 (hsl.below (below_alloc1 _ _)) (by omega) (by simp) ?_; intro A6 c6 w6 hown6 hc6 hB6; simp only [Nat.zero_add, List.nil_append] at hown6 hc6; have hB56 : Below w5.heap.size w5 w6 := (((Below.refl _ w5).alloc (Nat.le_refl _) _).trans hB6)))
          have hBe : Below w5.heap.size w5 w7 := hB56.trans hB7
          rw [List.append_nil] at hown7
          have hown8 : FOwn w7 w5.heap.size A7 i c7 (gs.take i) := hown7
          exact ⟨⟨(0 + 1), i, A7, c7, gs.take i, A5, p, c5, W, by omega, by go_num, rfl, hc7, rfl, hp, ⟨HT.out.1, fun g hg => HR.out.ok g (List.mem_of_mem_take hg), FRow.own hown8, HX.out.2.1, hr5.to hBe, fun _ g hg => ahead_no HX.out.1 (List.mem_of_mem_take hg), hT5.trans (hBe.mono hT5.size)⟩⟩, by simp [intOf]; omega⟩
        · have hcn : ¬ i + 1 = c' := fun e => hce e.symm
          go_wp2_with (first
            | (have hq_ := hown6; clear hq_; at_builtin; refine wpList_append_fr _ rfl _ _ rfl w5.heap.size _ i (gs.take i) rfl hown6 _ _ _ w5.heap.size (gs.drop (i + 1)) rfl HT.out.2.1 (by first | exact hsr.below hB56 | exact hsr'.below hB56) (by omega) hB56.size ?_; intro A7 c7 w7 hown7 hc7 hB7)
            | (at_builtin; refine wpList_append_fr _ rfl _ _ rfl w5.heap.size _ 0 [] rfl (fown_empty w5 _ _ rfl (Nat.le_refl _)) (some ad) i _ w5.heap.size (gs.take i) rfl HT.out.1 (hsl.below (below_alloc1 _ _)) (by omega) (by simp) ?_; intro A6 c6 w6 hown6 hc6 hB6; simp only [Nat.zero_add, List.nil_append] at hown6 hc6; have hB56 : Below w5.heap.size w5 w6 := (((Below.refl _ w5).alloc (Nat.le_refl _) _).trans hB6)))
          have hBe : Below w5.heap.size w5 w7 := hB56.trans hB7
          have hnn : i + (n' - (i + 1)) = n' - 1 := by omega
          rw [HT.out.2.2.1] at hown7
          exact ⟨⟨(0 + 1), i + (n' - (i + 1)), A7, c7, gs.eraseIdx i, A5, p, c5, W, by omega, by go_num, rfl, hc7, rfl, hp, ⟨by rw [HT.out.2.2.2, hnn], fun g hg => HR.out.ok g (List.mem_of_mem_eraseIdx hg), FRow.own hown7, HX.out.2.1, hr5.to hBe, fun _ g hg => ahead_no HX.out.1 (List.mem_of_mem_eraseIdx hg), hT5.trans (hBe.mono hT5.size)⟩⟩, by simp [intOf]; omega⟩
      · have hk1 : 0 < k := by omega
        have hdk : decide ((0 : Int) < (k : Int)) = true := by simp; omega
        have HAA := Lib.hid (show lessB W last = false by rw [← HX.out.2.2.2.2]; exact HA.out hk1)
        clear HA hk0
        by_cases hce : c' = i + 1
        · subst hce
          obtain rfl : n' = i + 1 := by omega
          go_wp2_with (first
            | (have hq_ := hown6; clear hq_; at_builtin; refine wpList_append_fr _ rfl _ _ rfl w8.heap.size _ i (gs.take i) rfl hown6 _ _ _ w8.heap.size [] rfl (by first | rfl | simp | (simp; omega)) (.inl rfl) (by omega) hB56.size ?_; intro A7 c7 w7 hown7 hc7 hB7)
            | (have hq_ := hBL; clear hq_; at_builtin; refine wpList_append_fr _ rfl _ _ rfl w8.heap.size _ 0 [] rfl (fown_empty w8 _ _ rfl (Nat.le_refl _)) (some ad) i _ w8.heap.size (gs.take i) rfl HT.out.1 (hsl.below (below_alloc1 _ _)) (by omega) (by simp) ?_; intro A6 c6 w6 hown6 hc6 hB6; simp only [Nat.zero_add, List.nil_append] at hown6 hc6; have hB56 : Below w8.heap.size w8 w6 := (((Below.refl _ w8).alloc (Nat.le_refl _) _).trans hB6))
            | (go_at_call 23; refine (lessGo_any W last p q HX.out.2.1 Hll.out A5 La c5 cl w5 hr5 hl5 (by omega) (by omega) false HAA.out).mono ?_; rintro e w8 ⟨rfl, hBL⟩; replace hsl := hsl.to hBL; replace hsr := hsr.to hBL; replace hsr' := hsr'.to hBL; replace hr5 := hr5.to hBL; replace hT5 := below_then hT5 hBL))
          have hBe : Below w8.heap.size w8 w7 := hB56.trans hB7
          rw [List.append_nil] at hown7
          have hown8 : FOwn w7 w8.heap.size A7 i c7 (gs.take i) := hown7
          exact ⟨⟨(k + 1), i, A7, c7, gs.take i, A5, p, c5, W, by omega, by go_num, rfl, hc7, rfl, hp, ⟨HT.out.1, fun g hg => HR.out.ok g (List.mem_of_mem_take hg), FRow.own hown8, HX.out.2.1, hr5.to hBe, fun _ g hg => ahead_no HX.out.1 (List.mem_of_mem_take hg), hT5.trans (hBe.mono hT5.size)⟩⟩, by simp [intOf]; omega⟩
        · have hcn : ¬ i + 1 = c' := fun e => hce e.symm
          go_wp2_with (first
            | (have hq_ := hown6; clear hq_; at_builtin; refine wpList_append_fr _ rfl _ _ rfl w8.heap.size _ i (gs.take i) rfl hown6 _ _ _ w8.heap.size (gs.drop (i + 1)) rfl HT.out.2.1 (by first | exact hsr.below hB56 | exact hsr'.below hB56) (by omega) hB56.size ?_; intro A7 c7 w7 hown7 hc7 hB7)
            | (have hq_ := hBL; clear hq_; at_builtin; refine wpList_append_fr _ rfl _ _ rfl w8.heap.size _ 0 [] rfl (fown_empty w8 _ _ rfl (Nat.le_refl _)) (some ad) i _ w8.heap.size (gs.take i) rfl HT.out.1 (hsl.below (below_alloc1 _ _)) (by omega) (by simp) ?_; intro A6 c6 w6 hown6 hc6 hB6; simp only [Nat.zero_add, List.nil_append] at hown6 hc6; have hB56 : Below w8.heap.size w8 w6 := (((Below.refl _ w8).alloc (Nat.le_refl _) _).trans hB6))
            | (go_at_call 23; refine (lessGo_any W last p q HX.out.2.1 Hll.out A5 La c5 cl w5 hr5 hl5 (by omega) (by omega) false HAA.out).mono ?_; rintro e w8 ⟨rfl, hBL⟩; replace hsl := hsl.to hBL; replace hsr := hsr.to hBL; replace hsr' := hsr'.to hBL; replace hr5 := hr5.to hBL; replace hT5 := below_then hT5 hBL))
          have hBe : Below w8.heap.size w8 w7 := hB56.trans hB7
          have hnn : i + (n' - (i + 1)) = n' - 1 := by omega
          rw [HT.out.2.2.1] at hown7
          exact ⟨⟨(k + 1), i + (n' - (i + 1)), A7, c7, gs.eraseIdx i, A5, p, c5, W, by omega, by go_num, rfl, hc7, rfl, hp, ⟨by rw [HT.out.2.2.2, hnn], fun g hg => HR.out.ok g (List.mem_of_mem_eraseIdx hg), FRow.own hown7, HX.out.2.1, hr5.to hBe, fun _ g hg => ahead_no HX.out.1 (List.mem_of_mem_eraseIdx hg), hT5.trans (hBe.mono hT5.size)⟩⟩, by simp [intOf]; omega⟩
    · obtain rfl : n' = 0 := by omega
      obtain rfl : gs = [] := List.eq_nil_of_length_eq_zero hR.len
      have hw1 : winOf W (ranks []) = -1 := rfl
      have HX := Lib.hid (And.intro hW (And.intro hWp hw1))
      clear hW hWp hw1
      go_wp2_with fail
      refine (win_any [] 0 rfl A' c' wr hR.row hR.ok (by omega) W HX.out.1 p HX.out.2.1 hp (-1) HX.out.2.2).mono ?_
      rintro e w4 ⟨rfl, hB4⟩
      go_wp2_with fail
      go_ret
      exact ⟨rfl, below_then hR.below hB4⟩

end Go.Proofs.Ytfmlnfblfhmapaa
