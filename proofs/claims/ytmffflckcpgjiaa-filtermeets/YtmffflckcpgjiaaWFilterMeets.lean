/-
  FilterMeets.
-/
import Derived.Test.YtmffflckcpgjiaaFilLaw
import Derived.Test.YtmffflckcpgjiaaHead7
import Derived.Test.YtmffflckcpgjiaaSet5
namespace Go.Proofs.Ytmffflckcpgjiaa
open Go.RowKit
set_option linter.unusedVariables false
set_option linter.unusedSimpArgs false

set_option maxRecDepth 100000 in
set_option maxHeartbeats 2000000 in
theorem filterMeets_any (a b : FL) (T : Nat) (hT : T < 4294967296) (w : World) :
    Calls Try.prog 5 #[a.v, b.v, .int .u32 T] w fun e w' => e = .returned (.bool true) ∧ Below w.heap.size w w' := by
  go_enter Try.func5, Try.ntmps5
  go_wp2_with fail
  obtain ⟨w0, hw0⟩ : ∃ w0, ((w.alloc (.cells #[.bool a.x, .int .i64 a.k, .int .i64 a.m] 23)).alloc (.cells #[.bool b.x, .int .i64 b.k, .int .i64 b.m] 23)) = w0 := ⟨_, rfl⟩
  have hT0 : Below w.heap.size w w0 := by rw [← hw0]; exact below_two _ _ _
  have ha0 : HasL w0 w.heap.size ⟨a.x, a.k, a.m⟩ := by rw [← hw0]; exact blk1 _ _ _
  have hb0 : HasL w0 (w.heap.size + 1) ⟨b.x, b.k, b.m⟩ := by rw [← hw0]; exact blk2 _ _ _
  rw [hw0]
  clear hw0
  refine (head7_any w0).mono ?_
  rintro e w1 ⟨rfl, hB1⟩
  have hT1 := below_then hT0 hB1
  have ha1 := block_below hB1 ha0
  have hb1 := block_below hB1 hb0
  clear hT0 ha0 hb0  hB1
  obtain ⟨ac0, ac1, ac2⟩ := cells3' ha1
  obtain ⟨bc0, bc1, bc2⟩ := cells3' hb1
  go_wp2_with fail
  clear ac0 ac1 ac2 bc0 bc1 bc2
  obtain ⟨qa, hqa⟩ : ∃ q, refRightP a = q := ⟨_, rfl⟩
  have Hqa := Lib.hid hqa
  clear hqa
  cases qa
  · skip
    refine (refRight_q a w1 false Hqa.out).mono ?_
    rintro e w2 ⟨rfl, hB2⟩
    have hT2 := below_then hT1 hB2
    have ha2 := block_below hB2 ha1
    have hb2 := block_below hB2 hb1
    clear hT1 ha1 hb1  hB2
    obtain ⟨ac0, ac1, ac2⟩ := cells3' ha2
    obtain ⟨bc0, bc1, bc2⟩ := cells3' hb2
    go_wp2_with fail
    go_ret
    exact ⟨rfl, hT2⟩
  refine (refRight_q a w1 true Hqa.out).mono ?_
  rintro e w2 ⟨rfl, hB2⟩
  have hT2 := below_then hT1 hB2
  have ha2 := block_below hB2 ha1
  have hb2 := block_below hB2 hb1
  clear hT1 ha1 hb1  hB2
  obtain ⟨ac0, ac1, ac2⟩ := cells3' ha2
  obtain ⟨bc0, bc1, bc2⟩ := cells3' hb2
  go_wp2_with fail
  clear ac0 ac1 ac2 bc0 bc1 bc2
  obtain ⟨qb, hqb⟩ : ∃ q, refRightP b = q := ⟨_, rfl⟩
  have Hqb := Lib.hid hqb
  clear hqb
  cases qb
  · skip
    refine (refRight_q b w2 false Hqb.out).mono ?_
    rintro e w3 ⟨rfl, hB3⟩
    have hT3 := below_then hT2 hB3
    have ha3 := block_below hB3 ha2
    have hb3 := block_below hB3 hb2
    clear hT2 ha2 hb2  hB3
    obtain ⟨ac0, ac1, ac2⟩ := cells3' ha3
    obtain ⟨bc0, bc1, bc2⟩ := cells3' hb3
    go_wp2_with fail
    go_ret
    exact ⟨rfl, hT3⟩
  refine (refRight_q b w2 true Hqb.out).mono ?_
  rintro e w3 ⟨rfl, hB3⟩
  have hT3 := below_then hT2 hB3
  have ha3 := block_below hB3 ha2
  have hb3 := block_below hB3 hb2
  clear hT2 ha2 hb2  hB3
  obtain ⟨K, M, ha⟩ := okL_of Hqa.out
  obtain ⟨K2, M2, hb⟩ := okL_of Hqb.out
  have HA := Lib.hid ha
  have HB := Lib.hid hb
  obtain ⟨N, hN⟩ : ∃ N, M ||| M2 = N := ⟨_, rfl⟩
  have hNl : N < 4611686018427387904 := by have h1 := ha.ml; have h2 := hb.ml; have := Nat.or_lt_two_pow (n := 29) (x := M) (y := M2) (by omega) (by omega); omega
  have hor : bits .or .i64 a.m b.m = (N : Int) := by rw [ha.m, hb.m, or_nat (by have := ha.ml; omega) (by have := hb.ml; omega), hN]
  have HN := Lib.hid hN
  clear ha hb hN
  obtain ⟨ac0, ac1, ac2⟩ := cells3' ha3
  obtain ⟨bc0, bc1, bc2⟩ := cells3' hb3
  go_wp2_with fail
  clear ac0 ac1 ac2 bc0 bc1 bc2
  refine (frame_any a.x N w3).mono ?_
  rintro e w4 ⟨rfl, hB4⟩
  have hT4 := below_then hT3 hB4
  have ha4 := block_below hB4 ha3
  have hb4 := block_below hB4 hb3
  clear hT3 ha3 hb3  hB4
  obtain ⟨ac0, ac1, ac2⟩ := cells3' ha4
  obtain ⟨bc0, bc1, bc2⟩ := cells3' hb4
  have hla := (Array.getElem?_eq_some_iff.1 ha4).1
  have hlb := (Array.getElem?_eq_some_iff.1 hb4).1
  go_wp2_with fail
  clear ac0 ac1 ac2 bc0 bc1 bc2 hla hlb
  obtain ⟨w5, hw5⟩ : ∃ w5, w4.alloc (.cells #[.bool a.x, .int .i64 (N : Int), .bool false, .int .i64 0, .slice none 0 0] 27) = w5 := ⟨_, rfl⟩
  have hB5 : Below w4.heap.size w4 w5 := by rw [← hw5]; exact below_alloc1 _ _
  have hx5 : HasF w5 w4.heap.size ⟨a.x, (N : Int), false, 0, none, 0, 0⟩ := by rw [← hw5]; exact World.alloc_heap_new _ _
  rw [hw5]
  clear hw5
  have hT5 := below_then hT4 hB5
  have ha5 := block_below hB5 ha4
  have hb5 := block_below hB5 hb4
  clear hT4 ha4 hb4  hB5
  obtain ⟨q, hq⟩ : ∃ q, meetsV a b = q := ⟨_, rfl⟩
  have Hq := Lib.hid hq
  clear hq
  refine (meets_q a b w5 q Hq.out).mono ?_
  rintro e w6 ⟨rfl, hB6⟩
  have hT6 := below_then hT5 hB6
  have ha6 := block_below hB6 ha5
  have hb6 := block_below hB6 hb5
  have hx6 := block_below hB6 hx5
  clear hT5 ha5 hb5 hx5  hB6
  obtain ⟨ac0, ac1, ac2⟩ := cells3' ha6
  obtain ⟨bc0, bc1, bc2⟩ := cells3' hb6
  obtain ⟨xc0, xc1, xc2, xc3, xc4⟩ := cells5' hx6
  go_wp2_with fail
  clear ac0 ac1 ac2 bc0 bc1 bc2 xc0 xc1 xc2 xc3 xc4
  refine (meets_q b a w6 q ((meets_comm b a).trans Hq.out)).mono ?_
  rintro e w7 ⟨rfl, hB7⟩
  have hT7 := below_then hT6 hB7
  have ha7 := block_below hB7 ha6
  have hb7 := block_below hB7 hb6
  have hx7 := block_below hB7 hx6
  clear hT6 ha6 hb6 hx6  hB7
  cases q
  · skip
    obtain ⟨U, hU⟩ : ∃ U, T % 2048 = U := ⟨_, rfl⟩
    obtain ⟨V, hV⟩ : ∃ V, T % 536870912 = V := ⟨_, rfl⟩
    have hm1 : (T : Int) % 2048 = (U : Int) := by omega
    have hm2 : (T : Int) % 536870912 = (V : Int) := by omega
    have hU2 : U < 536870912 := by omega
    have hV2 : V < 536870912 := by omega
    clear hU hV
    obtain ⟨ac0, ac1, ac2⟩ := cells3' ha7
    obtain ⟨bc0, bc1, bc2⟩ := cells3' hb7
    obtain ⟨xc0, xc1, xc2, xc3, xc4⟩ := cells5' hx7
    go_wp2_with fail
    clear ac0 ac1 ac2 bc0 bc1 bc2 xc0 xc1 xc2 xc3 xc4
    refine (frame_any a.x U w7).mono ?_
    rintro e w8 ⟨rfl, hB8⟩
    have hT8 := below_then hT7 hB8
    have ha8 := block_below hB8 ha7
    have hb8 := block_below hB8 hb7
    have hx8 := block_below hB8 hx7
    clear hT7 ha7 hb7 hx7  hB8
    obtain ⟨ac0, ac1, ac2⟩ := cells3' ha8
    obtain ⟨bc0, bc1, bc2⟩ := cells3' hb8
    obtain ⟨xc0, xc1, xc2, xc3, xc4⟩ := cells5' hx8
    have hla := (Array.getElem?_eq_some_iff.1 ha8).1
    have hlb := (Array.getElem?_eq_some_iff.1 hb8).1
    have hlx := (Array.getElem?_eq_some_iff.1 hx8).1
    go_upto_if 56 with fail
    clear ac0 ac1 ac2 bc0 bc1 bc2 xc0 xc1 xc2 xc3 xc4 hla hlb hlx
    have Hold := Lib.hid (And.intro ha8 (And.intro hb8 (And.intro hx8 hT8.size)))
    obtain ⟨w9, hw9⟩ : ∃ w9, w8.alloc (.cells #[.bool a.x, .int .i64 (U : Int), .bool false, .int .i64 0, .slice none 0 0] 27) = w9 := ⟨_, rfl⟩
    have hB9 : Below w8.heap.size w8 w9 := by rw [← hw9]; exact below_alloc1 _ _
    have hy9 : HasF w9 w8.heap.size ⟨a.x, (U : Int), false, 0, none, 0, 0⟩ := by rw [← hw9]; exact World.alloc_heap_new _ _
    rw [hw9]
    clear hw9
    have hT9 := below_then hT8 hB9
    have ha9 := block_below hB9 ha8
    have hb9 := block_below hB9 hb8
    have hx9 := block_below hB9 hx8
    clear hT8 ha8 hb8 hx8  hB9
    clear hm1
    obtain ⟨xb, hxb⟩ : ∃ xb, a.x = xb := ⟨_, rfl⟩
    rw [hxb]
    have Hxb := Lib.hid hxb
    clear hxb
    go_cut [] from 57 to 60 (fun wc => ∃ Z : Nat, Z < 536870912 ∧ HasF wc w8.heap.size ⟨a.x, (Z : Int), false, 0, none, 0, 0⟩ ∧ HasL wc w.heap.size a ∧ HasL wc (w.heap.size + 1) b ∧ HasF wc w4.heap.size ⟨a.x, (N : Int), false, 0, none, 0, 0⟩ ∧ Below w.heap.size w wc)
    case first =>
      cases xb
      · go_wp2_with fail
        go_meet
        exact ⟨U, hU2, hy9, ha9, hb9, hx9, hT9⟩
      · go_wp2_with fail
        refine (frame_any true V w9).mono ?_
        rintro e w10 ⟨rfl, hB10⟩
        have hT10 := below_then hT9 hB10
        have ha10 := block_below hB10 ha9
        have hb10 := block_below hB10 hb9
        have hx10 := block_below hB10 hx9
        have hy10 := block_below hB10 hy9
        clear hT9 ha9 hb9 hx9 hy9  hB10
        have hne1 : w.heap.size ≠ w8.heap.size := by have := (Array.getElem?_eq_some_iff.1 Hold.out.1).1; omega
        have hne2 : w.heap.size + 1 ≠ w8.heap.size := by have := (Array.getElem?_eq_some_iff.1 Hold.out.2.1).1; omega
        have hne3 : w4.heap.size ≠ w8.heap.size := by have := (Array.getElem?_eq_some_iff.1 Hold.out.2.2.1).1; omega
        have hle : w.heap.size ≤ w8.heap.size := Hold.out.2.2.2
        have HN5 := Lib.hid (And.intro hne1 (And.intro hne2 (And.intro hne3 hle)))
        clear hne1 hne2 hne3 hle
        obtain ⟨⟨yc0, yc1, yc2, yc3, yc4⟩, yz0, yz1, yz2, yz3, yz4⟩ := cells5 hy10
        go_wp2_with fail
        clear yc0 yc1 yc2 yc3 yc4 yz0 yz1 yz2 yz3 yz4
        go_meet
        refine ⟨V, hV2, ?_, ?_, ?_, ?_, ?_⟩
        · rw [Hxb.out]; exact set5_obj hy10 _ _ _ _ _
        · exact other_grownF (set5_grown w10 w8.heap.size _ _ _ _ _) ha10 HN5.out.1
        · exact other_grownF (set5_grown w10 w8.heap.size _ _ _ _ _) hb10 HN5.out.2.1
        · exact other_grownF (set5_grown w10 w8.heap.size _ _ _ _ _) hx10 HN5.out.2.2.1
        · exact below_grownF hT10 (set5_grown w10 w8.heap.size _ _ _ _ _) HN5.out.2.2.2
    case rest =>
    clear Hold Hxb hT9 ha9 hb9 hx9 hy9 hm2 hU2 hV2
    obtain ⟨Z, hZ, hy, ha, hb, hx, hTc⟩ := hcut
    obtain ⟨wd, hwd⟩ : ∃ wd, wc = wd := ⟨_, rfl⟩
    subst hwd
    have hy10 := hy
    have ha10 := ha
    have hb10 := hb
    have hx10 := hx
    have hT10 := hTc
    clear hy ha hb hx hTc
    obtain ⟨p, hp⟩ : ∃ p, takesV a a.x (Z : Int) = p := ⟨_, rfl⟩
    have Hp := Lib.hid hp
    clear hp
    obtain ⟨ac0, ac1, ac2⟩ := cells3' ha10
    obtain ⟨bc0, bc1, bc2⟩ := cells3' hb10
    obtain ⟨xc0, xc1, xc2, xc3, xc4⟩ := cells5' hx10
    obtain ⟨yc0, yc1, yc2, yc3, yc4⟩ := cells5' hy10
    go_wp2_with fail
    clear ac0 ac1 ac2 bc0 bc1 bc2 xc0 xc1 xc2 xc3 xc4 yc0 yc1 yc2 yc3 yc4
    refine (takes_q a ⟨a.x, (Z : Int), false, 0, none, 0, 0⟩ wc p Hp.out).mono ?_
    rintro e w11 ⟨rfl, hB11⟩
    have hT11 := below_then hT10 hB11
    have ha11 := block_below hB11 ha10
    have hb11 := block_below hB11 hb10
    have hx11 := block_below hB11 hx10
    have hy11 := block_below hB11 hy10
    clear hT10 ha10 hb10 hx10 hy10  hB11
    cases p
    · skip
      obtain ⟨r, hr⟩ : ∃ r, (a.x != b.x) = r := ⟨_, rfl⟩
      cases r
      · skip
        have HE := Lib.hid (show a.x = b.x by simpa using hr)
        obtain ⟨s, hs⟩ : ∃ s, takesV a a.x (N : Int) = s := ⟨_, rfl⟩
        have Hs := Lib.hid hs
        clear hs
        obtain ⟨ac0, ac1, ac2⟩ := cells3' ha11
        obtain ⟨bc0, bc1, bc2⟩ := cells3' hb11
        obtain ⟨xc0, xc1, xc2, xc3, xc4⟩ := cells5' hx11
        obtain ⟨yc0, yc1, yc2, yc3, yc4⟩ := cells5' hy11
        go_wp2_with fail
        clear ac0 ac1 ac2 bc0 bc1 bc2 xc0 xc1 xc2 xc3 xc4 yc0 yc1 yc2 yc3 yc4
        refine (takes_q ⟨b.x, a.k, a.m⟩ ⟨b.x, (N : Int), false, 0, none, 0, 0⟩ w11 s (by rw [← HE.out]; exact Hs.out)).mono ?_
        rintro e w12 ⟨rfl, hB12⟩
        have hT12 := below_then hT11 hB12
        have ha12 := block_below hB12 ha11
        have hb12 := block_below hB12 hb11
        have hx12 := block_below hB12 hx11
        have hy12 := block_below hB12 hy11
        clear hT11 ha11 hb11 hx11 hy11  hB12
        cases s
        · skip
          obtain ⟨ac0, ac1, ac2⟩ := cells3' ha12
          obtain ⟨bc0, bc1, bc2⟩ := cells3' hb12
          obtain ⟨xc0, xc1, xc2, xc3, xc4⟩ := cells5' hx12
          obtain ⟨yc0, yc1, yc2, yc3, yc4⟩ := cells5' hy12
          go_wp2_with fail
          go_ret
          exact ⟨rfl, hT12⟩
        · skip
          obtain ⟨ac0, ac1, ac2⟩ := cells3' ha12
          obtain ⟨bc0, bc1, bc2⟩ := cells3' hb12
          obtain ⟨xc0, xc1, xc2, xc3, xc4⟩ := cells5' hx12
          obtain ⟨yc0, yc1, yc2, yc3, yc4⟩ := cells5' hy12
          go_wp2_with fail
          clear ac0 ac1 ac2 bc0 bc1 bc2 xc0 xc1 xc2 xc3 xc4 yc0 yc1 yc2 yc3 yc4
          refine (takes_q b ⟨b.x, (N : Int), false, 0, none, 0, 0⟩ w12 false (by have h_ := meets_none HA.out HB.out Hq.out hNl Hs.out; rw [HE.out] at h_; exact h_)).mono ?_
          rintro e w13 ⟨rfl, hB13⟩
          have hT13 := below_then hT12 hB13
          have ha13 := block_below hB13 ha12
          have hb13 := block_below hB13 hb12
          have hx13 := block_below hB13 hx12
          have hy13 := block_below hB13 hy12
          clear hT12 ha12 hb12 hx12 hy12  hB13
          obtain ⟨ac0, ac1, ac2⟩ := cells3' ha13
          obtain ⟨bc0, bc1, bc2⟩ := cells3' hb13
          obtain ⟨xc0, xc1, xc2, xc3, xc4⟩ := cells5' hx13
          obtain ⟨yc0, yc1, yc2, yc3, yc4⟩ := cells5' hy13
          go_wp2_with fail
          go_ret
          exact ⟨rfl, hT13⟩
      · skip
        have hne : ¬ a.x = b.x := by simpa using hr
        have hne2 : (a.x == b.x) = false := by simpa using hr
        obtain ⟨ac0, ac1, ac2⟩ := cells3' ha11
        obtain ⟨bc0, bc1, bc2⟩ := cells3' hb11
        obtain ⟨xc0, xc1, xc2, xc3, xc4⟩ := cells5' hx11
        obtain ⟨yc0, yc1, yc2, yc3, yc4⟩ := cells5' hy11
        go_wp2_with fail
        go_ret
        exact ⟨rfl, hT11⟩
    · skip
      obtain ⟨ac0, ac1, ac2⟩ := cells3' ha11
      obtain ⟨bc0, bc1, bc2⟩ := cells3' hb11
      obtain ⟨xc0, xc1, xc2, xc3, xc4⟩ := cells5' hx11
      obtain ⟨yc0, yc1, yc2, yc3, yc4⟩ := cells5' hy11
      go_wp2_with fail
      clear ac0 ac1 ac2 bc0 bc1 bc2 xc0 xc1 xc2 xc3 xc4 yc0 yc1 yc2 yc3 yc4
      refine (takes_q b ⟨a.x, (Z : Int), false, 0, none, 0, 0⟩ w11 false (meets_none HA.out HB.out Hq.out (by omega) Hp.out)).mono ?_
      rintro e w12 ⟨rfl, hB12⟩
      have hT12 := below_then hT11 hB12
      have ha12 := block_below hB12 ha11
      have hb12 := block_below hB12 hb11
      have hx12 := block_below hB12 hx11
      have hy12 := block_below hB12 hy11
      clear hT11 ha11 hb11 hx11 hy11  hB12
      obtain ⟨r, hr⟩ : ∃ r, (a.x != b.x) = r := ⟨_, rfl⟩
      cases r
      · skip
        have HE := Lib.hid (show a.x = b.x by simpa using hr)
        obtain ⟨s, hs⟩ : ∃ s, takesV a a.x (N : Int) = s := ⟨_, rfl⟩
        have Hs := Lib.hid hs
        clear hs
        obtain ⟨ac0, ac1, ac2⟩ := cells3' ha12
        obtain ⟨bc0, bc1, bc2⟩ := cells3' hb12
        obtain ⟨xc0, xc1, xc2, xc3, xc4⟩ := cells5' hx12
        obtain ⟨yc0, yc1, yc2, yc3, yc4⟩ := cells5' hy12
        go_wp2_with fail
        clear ac0 ac1 ac2 bc0 bc1 bc2 xc0 xc1 xc2 xc3 xc4 yc0 yc1 yc2 yc3 yc4
        refine (takes_q ⟨b.x, a.k, a.m⟩ ⟨b.x, (N : Int), false, 0, none, 0, 0⟩ w12 s (by rw [← HE.out]; exact Hs.out)).mono ?_
        rintro e w13 ⟨rfl, hB13⟩
        have hT13 := below_then hT12 hB13
        have ha13 := block_below hB13 ha12
        have hb13 := block_below hB13 hb12
        have hx13 := block_below hB13 hx12
        have hy13 := block_below hB13 hy12
        clear hT12 ha12 hb12 hx12 hy12  hB13
        cases s
        · skip
          obtain ⟨ac0, ac1, ac2⟩ := cells3' ha13
          obtain ⟨bc0, bc1, bc2⟩ := cells3' hb13
          obtain ⟨xc0, xc1, xc2, xc3, xc4⟩ := cells5' hx13
          obtain ⟨yc0, yc1, yc2, yc3, yc4⟩ := cells5' hy13
          go_wp2_with fail
          go_ret
          exact ⟨rfl, hT13⟩
        · skip
          obtain ⟨ac0, ac1, ac2⟩ := cells3' ha13
          obtain ⟨bc0, bc1, bc2⟩ := cells3' hb13
          obtain ⟨xc0, xc1, xc2, xc3, xc4⟩ := cells5' hx13
          obtain ⟨yc0, yc1, yc2, yc3, yc4⟩ := cells5' hy13
          go_wp2_with fail
          clear ac0 ac1 ac2 bc0 bc1 bc2 xc0 xc1 xc2 xc3 xc4 yc0 yc1 yc2 yc3 yc4
          refine (takes_q b ⟨b.x, (N : Int), false, 0, none, 0, 0⟩ w13 false (by have h_ := meets_none HA.out HB.out Hq.out hNl Hs.out; rw [HE.out] at h_; exact h_)).mono ?_
          rintro e w14 ⟨rfl, hB14⟩
          have hT14 := below_then hT13 hB14
          have ha14 := block_below hB14 ha13
          have hb14 := block_below hB14 hb13
          have hx14 := block_below hB14 hx13
          have hy14 := block_below hB14 hy13
          clear hT13 ha13 hb13 hx13 hy13  hB14
          obtain ⟨ac0, ac1, ac2⟩ := cells3' ha14
          obtain ⟨bc0, bc1, bc2⟩ := cells3' hb14
          obtain ⟨xc0, xc1, xc2, xc3, xc4⟩ := cells5' hx14
          obtain ⟨yc0, yc1, yc2, yc3, yc4⟩ := cells5' hy14
          go_wp2_with fail
          go_ret
          exact ⟨rfl, hT14⟩
      · skip
        have hne : ¬ a.x = b.x := by simpa using hr
        have hne2 : (a.x == b.x) = false := by simpa using hr
        obtain ⟨ac0, ac1, ac2⟩ := cells3' ha12
        obtain ⟨bc0, bc1, bc2⟩ := cells3' hb12
        obtain ⟨xc0, xc1, xc2, xc3, xc4⟩ := cells5' hx12
        obtain ⟨yc0, yc1, yc2, yc3, yc4⟩ := cells5' hy12
        go_wp2_with fail
        go_ret
        exact ⟨rfl, hT12⟩
  · skip
    have hm := meets_both HA.out HB.out Hq.out
    rw [HN.out] at hm
    have HM := Lib.hid hm
    clear hm
    obtain ⟨ac0, ac1, ac2⟩ := cells3' ha7
    obtain ⟨bc0, bc1, bc2⟩ := cells3' hb7
    obtain ⟨xc0, xc1, xc2, xc3, xc4⟩ := cells5' hx7
    go_wp2_with fail
    clear ac0 ac1 ac2 bc0 bc1 bc2 xc0 xc1 xc2 xc3 xc4
    refine (takes_q a ⟨a.x, (N : Int), false, 0, none, 0, 0⟩ w7 true HM.out.1).mono ?_
    rintro e w8 ⟨rfl, hB8⟩
    have hT8 := below_then hT7 hB8
    have ha8 := block_below hB8 ha7
    have hb8 := block_below hB8 hb7
    have hx8 := block_below hB8 hx7
    clear hT7 ha7 hb7 hx7  hB8
    obtain ⟨ac0, ac1, ac2⟩ := cells3' ha8
    obtain ⟨bc0, bc1, bc2⟩ := cells3' hb8
    obtain ⟨xc0, xc1, xc2, xc3, xc4⟩ := cells5' hx8
    go_wp2_with fail
    clear ac0 ac1 ac2 bc0 bc1 bc2 xc0 xc1 xc2 xc3 xc4
    refine (takes_q b ⟨a.x, (N : Int), false, 0, none, 0, 0⟩ w8 true HM.out.2).mono ?_
    rintro e w9 ⟨rfl, hB9⟩
    have hT9 := below_then hT8 hB9
    have ha9 := block_below hB9 ha8
    have hb9 := block_below hB9 hb8
    have hx9 := block_below hB9 hx8
    clear hT8 ha8 hb8 hx8  hB9
    obtain ⟨ac0, ac1, ac2⟩ := cells3' ha9
    obtain ⟨bc0, bc1, bc2⟩ := cells3' hb9
    obtain ⟨xc0, xc1, xc2, xc3, xc4⟩ := cells5' hx9
    go_wp2_with fail
    go_ret
    exact ⟨rfl, hT9⟩

end Go.Proofs.Ytmffflckcpgjiaa
