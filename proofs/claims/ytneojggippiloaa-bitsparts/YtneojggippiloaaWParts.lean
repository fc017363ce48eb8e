/-
  BitsParts: rows one behind the other are right just if both are; bytes one behind the other have both's bits; a number's upper and lower bits are its quotient's and its rest's.
-/
import Derived.Test.YtneojggippiloaaApp
namespace Go.Proofs.Ytneojggippiloaa
open Go.RowKit

/-- What Get answers for a number. -/
def getV (l : List Int) : Int := if getOk l = true then ((numOf l : Nat) : Int) else 0
theorem get_at (l : List Int) (n : Nat) (hn : l.length = n) (A : Option Addr) (c B : Nat) (w : World) (h : Row .i64 w B A l) (hm : n ≤ maxLen) (v : Int) (hv : getV l = v) (o : Bool) (ho : getOk l = o) :
    Calls Try.prog 13 #[.slice A n c] w fun e w' => e = .returned (.tuple #[.int .i64 v, .bool o]) ∧ w = w' := by
  subst hv ho
  cases hg : getOk l with
  | true =>
    have e : getV l = ((numOf l : Nat) : Int) := by simp [getV, hg]
    rw [e]
    exact get_yes_at l n hn _ rfl A c B w h hg
  | false =>
    have e : getV l = 0 := by simp [getV, hg]
    rw [e]
    exact get_no_at l n hn A c B w h hm hg

theorem numOf_append (a : List Int) : ∀ n (b : List Int), b.length = n → rightB b = true → numOf (a ++ b) = numOf a * 2 ^ n + numOf b
  | 0, b, h, _ => by obtain rfl := List.eq_nil_of_length_eq_zero h; simp [numOf]
  | n + 1, b, h, hr => by
    rcases snoc_cases b with rfl | ⟨b', x, rfl⟩
    · simp at h
    · rw [rightB_snoc, Bool.and_eq_true] at hr
      rw [← List.append_assoc, numOf_snoc, numOf_snoc, numOf_append a n b' (by simpa using h) hr.1, Nat.pow_succ, Nat.mul_add]
      rw [show numOf a * (2 ^ n * 2) = 2 * (numOf a * 2 ^ n) from by rw [← Nat.mul_assoc, Nat.mul_comm]]
      omega
theorem spreadL_append (x y : List Int) : spreadL (x ++ y) = spreadL x ++ spreadL y := by simp [spreadL]

set_option maxRecDepth 100000 in
set_option maxHeartbeats 1000000 in
/-- Too long: nothing is asked. -/
theorem bitsParts_long (na nb nx ny : Nat) (A0 A1 A2 A3 : Option Addr) (c0 c1 c2 c3 : Nat) (w : World) (h0 : na ≤ maxLen) (h1 : nb ≤ maxLen) (h2 : nx ≤ maxLen) (h3 : ny ≤ maxLen) (h : 16 < na ∨ 16 < nb ∨ 200 < nx ∨ 200 < ny) :
    Calls Try.prog 7 #[.slice A0 na c0, .slice A1 nb c1, .slice A2 nx c2, .slice A3 ny c3] w fun e w' => e = .returned (.bool true) ∧ Below w.heap.size w w' := by
  unfold maxLen at h0 h1 h2 h3
  by_cases k0 : 16 < na
  · have d0 : decide (16 < (na : Int)) = true := by simp; omega
    clear h
    go_enter Try.func7, Try.ntmps7
    go_wp2_with fail
    refine (head_any _).mono ?_
    rintro e w1 ⟨rfl, hB1⟩
    go_wp2_with fail
    go_ret
    exact ⟨rfl, hB1⟩
  · have d0 : decide (16 < (na : Int)) = false := by simp; omega
    by_cases k1 : 16 < nb
    · have d1 : decide (16 < (nb : Int)) = true := by simp; omega
      clear h
      go_enter Try.func7, Try.ntmps7
      go_wp2_with fail
      refine (head_any _).mono ?_
      rintro e w1 ⟨rfl, hB1⟩
      go_wp2_with fail
      go_ret
      exact ⟨rfl, hB1⟩
    · have d1 : decide (16 < (nb : Int)) = false := by simp; omega
      by_cases k2 : 200 < nx
      · have d2 : decide (200 < (nx : Int)) = true := by simp; omega
        clear h
        go_enter Try.func7, Try.ntmps7
        go_wp2_with fail
        refine (head_any _).mono ?_
        rintro e w1 ⟨rfl, hB1⟩
        go_wp2_with fail
        go_ret
        exact ⟨rfl, hB1⟩
      · have d2 : decide (200 < (nx : Int)) = false := by simp; omega
        have d3 : decide (200 < (ny : Int)) = true := by simp; omega
        clear h
        go_enter Try.func7, Try.ntmps7
        go_wp2_with fail
        refine (head_any _).mono ?_
        rintro e w1 ⟨rfl, hB1⟩
        go_wp2_with fail
        go_ret
        exact ⟨rfl, hB1⟩

set_option maxRecDepth 100000 in
set_option maxHeartbeats 4000000 in
theorem bitsParts_both (a b x y : List Int) (na nb nx ny : Nat) (ha : a.length = na) (hb : b.length = nb) (hx : x.length = nx) (hy : y.length = ny) (A0 A1 A2 A3 : Option Addr) (c0 c1 c2 c3 : Nat) (w : World)
    (ka : na ≤ 16) (kb : nb ≤ 16) (kx : nx ≤ 200) (ky : ny ≤ 200) (r0 : Row .i64 w w.heap.size A0 a) (r1 : Row .i64 w w.heap.size A1 b) (r2 : Row .u8 w w.heap.size A2 x) (r3 : Row .u8 w w.heap.size A3 y) (bx : byteB x) (by_ : byteB y)
    (ea : rightB a = true) (eb : rightB b = true) :
    Calls Try.prog 7 #[.slice A0 na c0, .slice A1 nb c1, .slice A2 nx c2, .slice A3 ny c3] w fun e w' => e = .returned (.bool true) ∧ Below w.heap.size w w' := by
  have Ha := Lib.hid ha
  have Hb := Lib.hid hb
  have Hx := Lib.hid hx
  have Hy := Lib.hid hy
  have Bx := Lib.hid bx
  have By := Lib.hid by_
  have Ea := Lib.hid ea
  have Eb := Lib.hid eb
  have Eab : Hid (rightB (a ++ b) = true) := Lib.hid (by rw [rightB_append, ea, eb]; rfl)
  have Gab : Hid (getOk (a ++ b) = true) := Lib.hid (by rw [getOk, Eab.out]; simp; omega)
  have Ga : Hid (getOk a = true) := Lib.hid (by rw [getOk, ea]; simp; omega)
  have Gb : Hid (getOk b = true) := Lib.hid (by rw [getOk, eb]; simp; omega)
  have Lab : Hid ((a ++ b).length = na + nb) := Lib.hid (by simp [ha, hb])
  have Lxy : Hid ((x ++ y).length = nx + ny) := Lib.hid (by simp [hx, hy])
  have Bxy : Hid (byteB (x ++ y)) := Lib.hid (by intro z hz; rcases List.mem_append.1 hz with h | h; exact bx z h; exact by_ z h)
  have hna := numOf_append a nb b hb eb
  have hlb := numOf_lt b eb
  rw [hb] at hlb
  have hla := numOf_lt a ea
  rw [ha] at hla
  have hp16 : 2 ^ nb ≤ 65536 := Nat.pow_le_pow_right (n := 2) (by omega) kb
  have hp16a : 2 ^ na ≤ 65536 := Nat.pow_le_pow_right (n := 2) (by omega) ka
  have hpow := wrap_pow nb (by omega)
  obtain ⟨p, hp⟩ : ∃ p : Nat, 2 ^ nb = p := ⟨_, rfl⟩
  have hpI : ((2 : Int) ^ nb) = (p : Int) := by rw [← hp]; simp
  rw [hp] at hna hlb hp16 hpow
  obtain ⟨u, hu⟩ : ∃ u, numOf a = u := ⟨_, rfl⟩
  obtain ⟨v, hv⟩ : ∃ v, numOf b = v := ⟨_, rfl⟩
  obtain ⟨n, hn⟩ : ∃ n, numOf (a ++ b) = n := ⟨_, rfl⟩
  rw [hu, hv, hn] at hna
  rw [hv] at hlb
  rw [hu] at hla
  have hp0 : 0 < p := by omega
  have hq : n / p = u := by rw [hna, Nat.mul_comm, Nat.mul_add_div hp0, Nat.div_eq_of_lt hlb, Nat.add_zero]
  have hrst : n % p = v := by rw [hna, Nat.mul_comm, Nat.mul_add_mod, Nat.mod_eq_of_lt hlb]
  have hqI : ((n : Int) / (p : Int)) = (u : Int) := by rw [← hq]; simp
  have hrI : ((n : Int) % (p : Int)) = (v : Int) := by rw [← hrst]; simp
  have Vab : Hid (getV (a ++ b) = (n : Int)) := Lib.hid (by simp [getV, Gab.out, hn])
  have Va : Hid (getV a = (u : Int)) := Lib.hid (by simp [getV, Ga.out, hu])
  have Vb : Hid (getV b = (v : Int)) := Lib.hid (by simp [getV, Gb.out, hv])
  have hn62 : n < 4611686018427387904 := by
    have h1 : u * p ≤ 65536 * 65536 := Nat.mul_le_mul (by omega) hp16
    rw [hna]; omega
  clear hna hq hrst hu hv hn hp hla hlb hp16a ea eb
  clear ha hb hx hy bx by_
  obtain ⟨i0, hi, hz0, hz1, hz2⟩ := info_parts Try.infoInt
  obtain ⟨j0, hj, hy0, hy1, hy2⟩ := info_parts Try.infoByte
  have d0 : decide (16 < (na : Int)) = false := by simp; omega
  have d1 : decide (16 < (nb : Int)) = false := by simp; omega
  have d2 : decide (200 < (nx : Int)) = false := by simp; omega
  have d3 : decide (200 < (ny : Int)) = false := by simp; omega
  go_enter Try.func7, Try.ntmps7
  go_wp2_with fail
  refine (head_any _).mono ?_
  rintro e w1 ⟨rfl, hB1⟩
  have r01 := r0.to hB1
  have r11 := r1.to hB1
  have r21 := r2.to hB1
  have r31 := r3.to hB1
  have o1 := own_lit w1 .i64 [] 0 rfl 3 (cs := #[]) rfl (by decide)
  have l01 := r01.to (below_lits (w := w1) (o := .cells #[] 3) rfl)
  go_wp2_with (first
    | (at_builtin; refine wpList_append_row _ .i64 rfl (.tmp 38) (.tmp 39) 22 rfl w1.heap.size 3 i0 (.int .i64 0) 8 Try.underlying22 hi hz0 hz1 hz2 rfl _ 0 [] rfl o1 A0 na c0 _ a rfl Ha.out l01 (by unfold maxLen; omega) (by omega) (by simp) ?_; intro A4 c4 w2 own2 hc4 hB2; simp only [Nat.zero_add, List.nil_append] at own2 hc4 ⊢; have e2 : Below w1.heap.size w1 w2 := (below_lits (w := w1) (o := .cells #[] 3) rfl).trans hB2; have l11 := r11.to e2)
    | (at_builtin; refine wpList_append_row _ .i64 rfl (.tmp 40) (.tmp 41) 22 rfl w1.heap.size 3 i0 (.int .i64 0) 8 Try.underlying22 hi hz0 hz1 hz2 rfl _ na a rfl own2 A1 nb c1 _ b rfl Hb.out l11 (by unfold maxLen; omega) (by omega) (by exact e2.size) ?_; intro A5 c5 w3 own3 hc5 hB3; have e3 : Below w1.heap.size w1 w3 := e2.trans hB3; have r23 := (r21.to e3).to (below_lits (w := w3) (o := .cells #[] 5) rfl); have o3 := own_lit w3 .u8 [] 0 rfl 5 (cs := #[]) rfl (by decide))
    | (at_builtin; refine wpList_append_row _ .u8 rfl (.tmp 43) (.tmp 44) 23 rfl w3.heap.size 5 j0 (.int .u8 0) 1 Try.underlying23 hj hy0 hy1 hy2 rfl _ 0 [] rfl o3 A2 nx c2 _ x rfl Hx.out r23 (by unfold maxLen; omega) (by omega) (by simp) ?_; intro A6 c6 w4 own4 hc6 hB4; simp only [Nat.zero_add, List.nil_append] at own4 hc6 ⊢; have e4 : Below w3.heap.size w3 w4 := (below_lits (w := w3) (o := .cells #[] 5) rfl).trans hB4; have r34 := (r31.to e3).to e4)
    | (at_builtin; refine wpList_append_row _ .u8 rfl (.tmp 45) (.tmp 46) 23 rfl w3.heap.size 5 j0 (.int .u8 0) 1 Try.underlying23 hj hy0 hy1 hy2 rfl _ nx x rfl own4 A3 ny c3 _ y rfl Hy.out r34 (by unfold maxLen; omega) (by omega) (by exact e4.size) ?_; intro A7 c7 w5 own5 hc7 hB5; have e5 : Below w3.heap.size w3 w5 := e4.trans hB5))
  have rab := (Row.own own3).to e5
  have rxy := Row.own own5
  have e15 := below_then e3 e5
  have r05 := r01.to e15
  have r15 := r11.to e15
  have r25 := r21.to e15
  have r35 := r31.to e15
  refine (right_at (a ++ b) (na + nb) Lab.out _ _ _ _ rab (by unfold maxLen; omega)).mono ?_
  rintro e w' ⟨rfl, rfl⟩
  rw [Eab.out]
  go_wp2_with fail
  refine (right_at a na Ha.out _ _ _ _ r05 (by unfold maxLen; omega)).mono ?_
  rintro e w' ⟨rfl, rfl⟩
  rw [Ea.out]
  go_wp2_with fail
  refine (right_at b nb Hb.out _ _ _ _ r15 (by unfold maxLen; omega)).mono ?_
  rintro e w' ⟨rfl, rfl⟩
  rw [Eb.out]
  go_wp2_with fail
  refine (spread_at (x ++ y) (nx + ny) Lxy.out _ _ _ _ rxy (Nat.le_refl _) Bxy.out (by omega) (8 * (nx + ny)) rfl).mono ?_
  rintro e w6 ⟨A8, rfl, hr6, hB6⟩
  rw [spreadL_append] at hr6
  obtain ⟨w7, hw7⟩ : ∃ w7, w6.alloc (.cells #[] 3) = w7 := ⟨_, rfl⟩
  have o7 := own_lit w6 .i64 [] 0 rfl 3 (cs := #[]) rfl (by decide)
  rw [hw7] at o7
  have e7 := below_lits hw7
  have r27 := (r25.to hB6).to e7
  go_wp2_with fail
  clear hw7
  refine (spread_at x nx Hx.out _ _ _ _ r27 (Nat.le_refl _) Bx.out (by omega) (8 * nx) rfl).mono ?_
  rintro e w8 ⟨A9, rfl, hr8, hB8⟩
  have o8 := own_to o7 hB8
  go_wp2_with ((at_builtin; refine wpList_append_row _ .i64 rfl (.tmp 60) (.tmp 62) 22 rfl w6.heap.size 3 i0 (.int .i64 0) 8 Try.underlying22 hi hz0 hz1 hz2 rfl _ 0 [] rfl o8 A9 (8 * nx) (8 * nx) _ (spreadL x) rfl (by rw [spreadL_len, Hx.out]) hr8 (by unfold maxLen; omega) (by omega) (by have := e7.size; have := hB8.size; omega) ?_; intro A10 c10 w9 own9 hc10 hB9; simp only [Nat.zero_add, List.nil_append] at own9 hc10 ⊢))
  have e69 : Below w6.heap.size w6 w9 := (below_then e7 hB8).trans hB9
  have r39 := (r35.to hB6).to e69
  refine (spread_at y ny Hy.out _ _ _ _ r39 (Nat.le_refl _) By.out (by omega) (8 * ny) rfl).mono ?_
  rintro e w10 ⟨A11, rfl, hr10, hB10⟩
  have o10 := own_to own9 hB10
  go_wp2_with ((at_builtin; refine wpList_append_row _ .i64 rfl (.tmp 63) (.tmp 65) 22 rfl w6.heap.size 3 i0 (.int .i64 0) 8 Try.underlying22 hi hz0 hz1 hz2 rfl _ (8 * nx) (spreadL x) rfl o10 A11 (8 * ny) (8 * ny) _ (spreadL y) rfl (by rw [spreadL_len, Hy.out]) hr10 (by unfold maxLen; omega) (by omega) (by have := e69.size; have := hB10.size; omega) ?_; intro A12 c12 w11 own11 hc12 hB11))
  have e611 : Below w6.heap.size w6 w11 := (below_then e69 hB10).trans hB11
  have r611 := hr6.to e611
  have rr11 := Row.own own11
  refine (same_at (spreadL x ++ spreadL y) (spreadL x ++ spreadL y) (8 * (nx + ny)) (8 * nx + 8 * ny) (by rw [List.length_append, spreadL_len, spreadL_len, Hx.out, Hy.out]; omega) (by rw [List.length_append, spreadL_len, spreadL_len, Hx.out, Hy.out]) _ _ _ _ _ _ _ r611 rr11 (by unfold maxLen; omega)).mono ?_
  rintro e w' ⟨rfl, q, rfl⟩
  rw [show sameB (spreadL x ++ spreadL y) (spreadL x ++ spreadL y) = true from by simp [sameB]]
  obtain ⟨w12, hw12⟩ : ∃ w12, w11.drewN q = w12 := ⟨_, rfl⟩
  rw [hw12]
  have e12 : Below w11.heap.size w11 w12 := by rw [← hw12]; exact below_drewN0 _ _
  clear hw12
  have e512 := below_then hB6 (below_then e611 e12)
  have rab12 := rab.to e512
  have r012 := r05.to e512
  have r112 := r15.to e512
  clear r611 rr11 own11 o10 own9 o8 r39
  go_wp2_with fail
  refine (get_at (a ++ b) (na + nb) Lab.out _ _ _ _ rab12 (by unfold maxLen; omega) _ Vab.out _ Gab.out).mono ?_
  rintro e w' ⟨rfl, rfl⟩
  go_wp2_with fail
  refine (get_at a na Ha.out _ _ _ _ r012 (by unfold maxLen; omega) _ Va.out _ Ga.out).mono ?_
  rintro e w' ⟨rfl, rfl⟩
  go_wp2_with fail
  refine (get_at b nb Hb.out _ _ _ _ r112 (by unfold maxLen; omega) _ Vb.out _ Gb.out).mono ?_
  rintro e w' ⟨rfl, rfl⟩
  go_wp2_with fail
  go_ret
  exact ⟨rfl, below_then hB1 (below_then e15 e512)⟩

set_option maxRecDepth 100000 in
set_option maxHeartbeats 4000000 in
theorem bitsParts_second (a b x y : List Int) (na nb nx ny : Nat) (ha : a.length = na) (hb : b.length = nb) (hx : x.length = nx) (hy : y.length = ny) (A0 A1 A2 A3 : Option Addr) (c0 c1 c2 c3 : Nat) (w : World)
    (ka : na ≤ 16) (kb : nb ≤ 16) (kx : nx ≤ 200) (ky : ny ≤ 200) (r0 : Row .i64 w w.heap.size A0 a) (r1 : Row .i64 w w.heap.size A1 b) (r2 : Row .u8 w w.heap.size A2 x) (r3 : Row .u8 w w.heap.size A3 y) (bx : byteB x) (by_ : byteB y)
    (ea : rightB a = true) (eb : rightB b = false) :
    Calls Try.prog 7 #[.slice A0 na c0, .slice A1 nb c1, .slice A2 nx c2, .slice A3 ny c3] w fun e w' => e = .returned (.bool true) ∧ Below w.heap.size w w' := by
  have Ha := Lib.hid ha
  have Hb := Lib.hid hb
  have Hx := Lib.hid hx
  have Hy := Lib.hid hy
  have Bx := Lib.hid bx
  have By := Lib.hid by_
  have Ea := Lib.hid ea
  have Eb := Lib.hid eb
  have Eab : Hid (rightB (a ++ b) = false) := Lib.hid (by rw [rightB_append, ea, eb]; rfl)
  have Gab : Hid (getOk (a ++ b) = false) := Lib.hid (by rw [getOk, Eab.out]; simp)
  have Ga : Hid (getOk a = true) := Lib.hid (by rw [getOk, ea]; simp; omega)
  have Gb : Hid (getOk b = false) := Lib.hid (by rw [getOk, eb]; simp)
  have Lab : Hid ((a ++ b).length = na + nb) := Lib.hid (by simp [ha, hb])
  have Lxy : Hid ((x ++ y).length = nx + ny) := Lib.hid (by simp [hx, hy])
  have Bxy : Hid (byteB (x ++ y)) := Lib.hid (by intro z hz; rcases List.mem_append.1 hz with h | h; exact bx z h; exact by_ z h)
  clear ea eb
  clear ha hb hx hy bx by_
  obtain ⟨i0, hi, hz0, hz1, hz2⟩ := info_parts Try.infoInt
  obtain ⟨j0, hj, hy0, hy1, hy2⟩ := info_parts Try.infoByte
  have d0 : decide (16 < (na : Int)) = false := by simp; omega
  have d1 : decide (16 < (nb : Int)) = false := by simp; omega
  have d2 : decide (200 < (nx : Int)) = false := by simp; omega
  have d3 : decide (200 < (ny : Int)) = false := by simp; omega
  go_enter Try.func7, Try.ntmps7
  go_wp2_with fail
  refine (head_any _).mono ?_
  rintro e w1 ⟨rfl, hB1⟩
  have r01 := r0.to hB1
  have r11 := r1.to hB1
  have r21 := r2.to hB1
  have r31 := r3.to hB1
  have o1 := own_lit w1 .i64 [] 0 rfl 3 (cs := #[]) rfl (by decide)
  have l01 := r01.to (below_lits (w := w1) (o := .cells #[] 3) rfl)
  go_wp2_with (first
    | (at_builtin; refine wpList_append_row _ .i64 rfl (.tmp 38) (.tmp 39) 22 rfl w1.heap.size 3 i0 (.int .i64 0) 8 Try.underlying22 hi hz0 hz1 hz2 rfl _ 0 [] rfl o1 A0 na c0 _ a rfl Ha.out l01 (by unfold maxLen; omega) (by omega) (by simp) ?_; intro A4 c4 w2 own2 hc4 hB2; simp only [Nat.zero_add, List.nil_append] at own2 hc4 ⊢; have e2 : Below w1.heap.size w1 w2 := (below_lits (w := w1) (o := .cells #[] 3) rfl).trans hB2; have l11 := r11.to e2)
    | (at_builtin; refine wpList_append_row _ .i64 rfl (.tmp 40) (.tmp 41) 22 rfl w1.heap.size 3 i0 (.int .i64 0) 8 Try.underlying22 hi hz0 hz1 hz2 rfl _ na a rfl own2 A1 nb c1 _ b rfl Hb.out l11 (by unfold maxLen; omega) (by omega) (by exact e2.size) ?_; intro A5 c5 w3 own3 hc5 hB3; have e3 : Below w1.heap.size w1 w3 := e2.trans hB3; have r23 := (r21.to e3).to (below_lits (w := w3) (o := .cells #[] 5) rfl); have o3 := own_lit w3 .u8 [] 0 rfl 5 (cs := #[]) rfl (by decide))
    | (at_builtin; refine wpList_append_row _ .u8 rfl (.tmp 43) (.tmp 44) 23 rfl w3.heap.size 5 j0 (.int .u8 0) 1 Try.underlying23 hj hy0 hy1 hy2 rfl _ 0 [] rfl o3 A2 nx c2 _ x rfl Hx.out r23 (by unfold maxLen; omega) (by omega) (by simp) ?_; intro A6 c6 w4 own4 hc6 hB4; simp only [Nat.zero_add, List.nil_append] at own4 hc6 ⊢; have e4 : Below w3.heap.size w3 w4 := (below_lits (w := w3) (o := .cells #[] 5) rfl).trans hB4; have r34 := (r31.to e3).to e4)
    | (at_builtin; refine wpList_append_row _ .u8 rfl (.tmp 45) (.tmp 46) 23 rfl w3.heap.size 5 j0 (.int .u8 0) 1 Try.underlying23 hj hy0 hy1 hy2 rfl _ nx x rfl own4 A3 ny c3 _ y rfl Hy.out r34 (by unfold maxLen; omega) (by omega) (by exact e4.size) ?_; intro A7 c7 w5 own5 hc7 hB5; have e5 : Below w3.heap.size w3 w5 := e4.trans hB5))
  have rab := (Row.own own3).to e5
  have rxy := Row.own own5
  have e15 := below_then e3 e5
  have r05 := r01.to e15
  have r15 := r11.to e15
  have r25 := r21.to e15
  have r35 := r31.to e15
  refine (right_at (a ++ b) (na + nb) Lab.out _ _ _ _ rab (by unfold maxLen; omega)).mono ?_
  rintro e w' ⟨rfl, rfl⟩
  rw [Eab.out]
  go_wp2_with fail
  refine (right_at a na Ha.out _ _ _ _ r05 (by unfold maxLen; omega)).mono ?_
  rintro e w' ⟨rfl, rfl⟩
  rw [Ea.out]
  go_wp2_with fail
  refine (right_at b nb Hb.out _ _ _ _ r15 (by unfold maxLen; omega)).mono ?_
  rintro e w' ⟨rfl, rfl⟩
  rw [Eb.out]
  go_wp2_with fail
  refine (spread_at (x ++ y) (nx + ny) Lxy.out _ _ _ _ rxy (Nat.le_refl _) Bxy.out (by omega) (8 * (nx + ny)) rfl).mono ?_
  rintro e w6 ⟨A8, rfl, hr6, hB6⟩
  rw [spreadL_append] at hr6
  obtain ⟨w7, hw7⟩ : ∃ w7, w6.alloc (.cells #[] 3) = w7 := ⟨_, rfl⟩
  have o7 := own_lit w6 .i64 [] 0 rfl 3 (cs := #[]) rfl (by decide)
  rw [hw7] at o7
  have e7 := below_lits hw7
  have r27 := (r25.to hB6).to e7
  go_wp2_with fail
  clear hw7
  refine (spread_at x nx Hx.out _ _ _ _ r27 (Nat.le_refl _) Bx.out (by omega) (8 * nx) rfl).mono ?_
  rintro e w8 ⟨A9, rfl, hr8, hB8⟩
  have o8 := own_to o7 hB8
  go_wp2_with ((at_builtin; refine wpList_append_row _ .i64 rfl (.tmp 60) (.tmp 62) 22 rfl w6.heap.size 3 i0 (.int .i64 0) 8 Try.underlying22 hi hz0 hz1 hz2 rfl _ 0 [] rfl o8 A9 (8 * nx) (8 * nx) _ (spreadL x) rfl (by rw [spreadL_len, Hx.out]) hr8 (by unfold maxLen; omega) (by omega) (by have := e7.size; have := hB8.size; omega) ?_; intro A10 c10 w9 own9 hc10 hB9; simp only [Nat.zero_add, List.nil_append] at own9 hc10 ⊢))
  have e69 : Below w6.heap.size w6 w9 := (below_then e7 hB8).trans hB9
  have r39 := (r35.to hB6).to e69
  refine (spread_at y ny Hy.out _ _ _ _ r39 (Nat.le_refl _) By.out (by omega) (8 * ny) rfl).mono ?_
  rintro e w10 ⟨A11, rfl, hr10, hB10⟩
  have o10 := own_to own9 hB10
  go_wp2_with ((at_builtin; refine wpList_append_row _ .i64 rfl (.tmp 63) (.tmp 65) 22 rfl w6.heap.size 3 i0 (.int .i64 0) 8 Try.underlying22 hi hz0 hz1 hz2 rfl _ (8 * nx) (spreadL x) rfl o10 A11 (8 * ny) (8 * ny) _ (spreadL y) rfl (by rw [spreadL_len, Hy.out]) hr10 (by unfold maxLen; omega) (by omega) (by have := e69.size; have := hB10.size; omega) ?_; intro A12 c12 w11 own11 hc12 hB11))
  have e611 : Below w6.heap.size w6 w11 := (below_then e69 hB10).trans hB11
  have r611 := hr6.to e611
  have rr11 := Row.own own11
  refine (same_at (spreadL x ++ spreadL y) (spreadL x ++ spreadL y) (8 * (nx + ny)) (8 * nx + 8 * ny) (by rw [List.length_append, spreadL_len, spreadL_len, Hx.out, Hy.out]; omega) (by rw [List.length_append, spreadL_len, spreadL_len, Hx.out, Hy.out]) _ _ _ _ _ _ _ r611 rr11 (by unfold maxLen; omega)).mono ?_
  rintro e w' ⟨rfl, q, rfl⟩
  rw [show sameB (spreadL x ++ spreadL y) (spreadL x ++ spreadL y) = true from by simp [sameB]]
  obtain ⟨w12, hw12⟩ : ∃ w12, w11.drewN q = w12 := ⟨_, rfl⟩
  rw [hw12]
  have e12 : Below w11.heap.size w11 w12 := by rw [← hw12]; exact below_drewN0 _ _
  clear hw12
  have e512 := below_then hB6 (below_then e611 e12)
  have rab12 := rab.to e512
  have r012 := r05.to e512
  have r112 := r15.to e512
  clear r611 rr11 own11 o10 own9 o8 r39
  go_wp2_with fail
  refine (get_at (a ++ b) (na + nb) Lab.out _ _ _ _ rab12 (by unfold maxLen; omega) _ rfl _ Gab.out).mono ?_
  rintro e w' ⟨rfl, rfl⟩
  go_wp2_with fail
  refine (get_at a na Ha.out _ _ _ _ r012 (by unfold maxLen; omega) _ rfl _ Ga.out).mono ?_
  rintro e w' ⟨rfl, rfl⟩
  go_wp2_with fail
  refine (get_at b nb Hb.out _ _ _ _ r112 (by unfold maxLen; omega) _ rfl _ Gb.out).mono ?_
  rintro e w' ⟨rfl, rfl⟩
  go_wp2_with fail
  go_ret
  exact ⟨rfl, below_then hB1 (below_then e15 e512)⟩

set_option maxRecDepth 100000 in
set_option maxHeartbeats 4000000 in
theorem bitsParts_first (a b x y : List Int) (na nb nx ny : Nat) (ha : a.length = na) (hb : b.length = nb) (hx : x.length = nx) (hy : y.length = ny) (A0 A1 A2 A3 : Option Addr) (c0 c1 c2 c3 : Nat) (w : World)
    (ka : na ≤ 16) (kb : nb ≤ 16) (kx : nx ≤ 200) (ky : ny ≤ 200) (r0 : Row .i64 w w.heap.size A0 a) (r1 : Row .i64 w w.heap.size A1 b) (r2 : Row .u8 w w.heap.size A2 x) (r3 : Row .u8 w w.heap.size A3 y) (bx : byteB x) (by_ : byteB y)
    (ea : rightB a = false) :
    Calls Try.prog 7 #[.slice A0 na c0, .slice A1 nb c1, .slice A2 nx c2, .slice A3 ny c3] w fun e w' => e = .returned (.bool true) ∧ Below w.heap.size w w' := by
  have Ha := Lib.hid ha
  have Hb := Lib.hid hb
  have Hx := Lib.hid hx
  have Hy := Lib.hid hy
  have Bx := Lib.hid bx
  have By := Lib.hid by_
  have Ea := Lib.hid ea
  have Eab : Hid (rightB (a ++ b) = false) := Lib.hid (by rw [rightB_append, ea]; rfl)
  have Gab : Hid (getOk (a ++ b) = false) := Lib.hid (by rw [getOk, Eab.out]; simp)
  have Ga : Hid (getOk a = false) := Lib.hid (by rw [getOk, ea]; simp)
  have Lab : Hid ((a ++ b).length = na + nb) := Lib.hid (by simp [ha, hb])
  have Lxy : Hid ((x ++ y).length = nx + ny) := Lib.hid (by simp [hx, hy])
  have Bxy : Hid (byteB (x ++ y)) := Lib.hid (by intro z hz; rcases List.mem_append.1 hz with h | h; exact bx z h; exact by_ z h)
  clear ea
  clear ha hb hx hy bx by_
  obtain ⟨i0, hi, hz0, hz1, hz2⟩ := info_parts Try.infoInt
  obtain ⟨j0, hj, hy0, hy1, hy2⟩ := info_parts Try.infoByte
  have d0 : decide (16 < (na : Int)) = false := by simp; omega
  have d1 : decide (16 < (nb : Int)) = false := by simp; omega
  have d2 : decide (200 < (nx : Int)) = false := by simp; omega
  have d3 : decide (200 < (ny : Int)) = false := by simp; omega
  go_enter Try.func7, Try.ntmps7
  go_wp2_with fail
  refine (head_any _).mono ?_
  rintro e w1 ⟨rfl, hB1⟩
  have r01 := r0.to hB1
  have r11 := r1.to hB1
  have r21 := r2.to hB1
  have r31 := r3.to hB1
  have o1 := own_lit w1 .i64 [] 0 rfl 3 (cs := #[]) rfl (by decide)
  have l01 := r01.to (below_lits (w := w1) (o := .cells #[] 3) rfl)
  go_wp2_with (first
    | (at_builtin; refine wpList_append_row _ .i64 rfl (.tmp 38) (.tmp 39) 22 rfl w1.heap.size 3 i0 (.int .i64 0) 8 Try.underlying22 hi hz0 hz1 hz2 rfl _ 0 [] rfl o1 A0 na c0 _ a rfl Ha.out l01 (by unfold maxLen; omega) (by omega) (by simp) ?_; intro A4 c4 w2 own2 hc4 hB2; simp only [Nat.zero_add, List.nil_append] at own2 hc4 ⊢; have e2 : Below w1.heap.size w1 w2 := (below_lits (w := w1) (o := .cells #[] 3) rfl).trans hB2; have l11 := r11.to e2)
    | (at_builtin; refine wpList_append_row _ .i64 rfl (.tmp 40) (.tmp 41) 22 rfl w1.heap.size 3 i0 (.int .i64 0) 8 Try.underlying22 hi hz0 hz1 hz2 rfl _ na a rfl own2 A1 nb c1 _ b rfl Hb.out l11 (by unfold maxLen; omega) (by omega) (by exact e2.size) ?_; intro A5 c5 w3 own3 hc5 hB3; have e3 : Below w1.heap.size w1 w3 := e2.trans hB3; have r23 := (r21.to e3).to (below_lits (w := w3) (o := .cells #[] 5) rfl); have o3 := own_lit w3 .u8 [] 0 rfl 5 (cs := #[]) rfl (by decide))
    | (at_builtin; refine wpList_append_row _ .u8 rfl (.tmp 43) (.tmp 44) 23 rfl w3.heap.size 5 j0 (.int .u8 0) 1 Try.underlying23 hj hy0 hy1 hy2 rfl _ 0 [] rfl o3 A2 nx c2 _ x rfl Hx.out r23 (by unfold maxLen; omega) (by omega) (by simp) ?_; intro A6 c6 w4 own4 hc6 hB4; simp only [Nat.zero_add, List.nil_append] at own4 hc6 ⊢; have e4 : Below w3.heap.size w3 w4 := (below_lits (w := w3) (o := .cells #[] 5) rfl).trans hB4; have r34 := (r31.to e3).to e4)
    | (at_builtin; refine wpList_append_row _ .u8 rfl (.tmp 45) (.tmp 46) 23 rfl w3.heap.size 5 j0 (.int .u8 0) 1 Try.underlying23 hj hy0 hy1 hy2 rfl _ nx x rfl own4 A3 ny c3 _ y rfl Hy.out r34 (by unfold maxLen; omega) (by omega) (by exact e4.size) ?_; intro A7 c7 w5 own5 hc7 hB5; have e5 : Below w3.heap.size w3 w5 := e4.trans hB5))
  have rab := (Row.own own3).to e5
  have rxy := Row.own own5
  have e15 := below_then e3 e5
  have r05 := r01.to e15
  have r15 := r11.to e15
  have r25 := r21.to e15
  have r35 := r31.to e15
  refine (right_at (a ++ b) (na + nb) Lab.out _ _ _ _ rab (by unfold maxLen; omega)).mono ?_
  rintro e w' ⟨rfl, rfl⟩
  rw [Eab.out]
  go_wp2_with fail
  refine (right_at a na Ha.out _ _ _ _ r05 (by unfold maxLen; omega)).mono ?_
  rintro e w' ⟨rfl, rfl⟩
  rw [Ea.out]
  go_wp2_with fail
  refine (spread_at (x ++ y) (nx + ny) Lxy.out _ _ _ _ rxy (Nat.le_refl _) Bxy.out (by omega) (8 * (nx + ny)) rfl).mono ?_
  rintro e w6 ⟨A8, rfl, hr6, hB6⟩
  rw [spreadL_append] at hr6
  obtain ⟨w7, hw7⟩ : ∃ w7, w6.alloc (.cells #[] 3) = w7 := ⟨_, rfl⟩
  have o7 := own_lit w6 .i64 [] 0 rfl 3 (cs := #[]) rfl (by decide)
  rw [hw7] at o7
  have e7 := below_lits hw7
  have r27 := (r25.to hB6).to e7
  go_wp2_with fail
  clear hw7
  refine (spread_at x nx Hx.out _ _ _ _ r27 (Nat.le_refl _) Bx.out (by omega) (8 * nx) rfl).mono ?_
  rintro e w8 ⟨A9, rfl, hr8, hB8⟩
  have o8 := own_to o7 hB8
  go_wp2_with ((at_builtin; refine wpList_append_row _ .i64 rfl (.tmp 60) (.tmp 62) 22 rfl w6.heap.size 3 i0 (.int .i64 0) 8 Try.underlying22 hi hz0 hz1 hz2 rfl _ 0 [] rfl o8 A9 (8 * nx) (8 * nx) _ (spreadL x) rfl (by rw [spreadL_len, Hx.out]) hr8 (by unfold maxLen; omega) (by omega) (by have := e7.size; have := hB8.size; omega) ?_; intro A10 c10 w9 own9 hc10 hB9; simp only [Nat.zero_add, List.nil_append] at own9 hc10 ⊢))
  have e69 : Below w6.heap.size w6 w9 := (below_then e7 hB8).trans hB9
  have r39 := (r35.to hB6).to e69
  refine (spread_at y ny Hy.out _ _ _ _ r39 (Nat.le_refl _) By.out (by omega) (8 * ny) rfl).mono ?_
  rintro e w10 ⟨A11, rfl, hr10, hB10⟩
  have o10 := own_to own9 hB10
  go_wp2_with ((at_builtin; refine wpList_append_row _ .i64 rfl (.tmp 63) (.tmp 65) 22 rfl w6.heap.size 3 i0 (.int .i64 0) 8 Try.underlying22 hi hz0 hz1 hz2 rfl _ (8 * nx) (spreadL x) rfl o10 A11 (8 * ny) (8 * ny) _ (spreadL y) rfl (by rw [spreadL_len, Hy.out]) hr10 (by unfold maxLen; omega) (by omega) (by have := e69.size; have := hB10.size; omega) ?_; intro A12 c12 w11 own11 hc12 hB11))
  have e611 : Below w6.heap.size w6 w11 := (below_then e69 hB10).trans hB11
  have r611 := hr6.to e611
  have rr11 := Row.own own11
  refine (same_at (spreadL x ++ spreadL y) (spreadL x ++ spreadL y) (8 * (nx + ny)) (8 * nx + 8 * ny) (by rw [List.length_append, spreadL_len, spreadL_len, Hx.out, Hy.out]; omega) (by rw [List.length_append, spreadL_len, spreadL_len, Hx.out, Hy.out]) _ _ _ _ _ _ _ r611 rr11 (by unfold maxLen; omega)).mono ?_
  rintro e w' ⟨rfl, q, rfl⟩
  rw [show sameB (spreadL x ++ spreadL y) (spreadL x ++ spreadL y) = true from by simp [sameB]]
  obtain ⟨w12, hw12⟩ : ∃ w12, w11.drewN q = w12 := ⟨_, rfl⟩
  rw [hw12]
  have e12 : Below w11.heap.size w11 w12 := by rw [← hw12]; exact below_drewN0 _ _
  clear hw12
  have e512 := below_then hB6 (below_then e611 e12)
  have rab12 := rab.to e512
  have r012 := r05.to e512
  have r112 := r15.to e512
  clear r611 rr11 own11 o10 own9 o8 r39
  go_wp2_with fail
  refine (get_at (a ++ b) (na + nb) Lab.out _ _ _ _ rab12 (by unfold maxLen; omega) _ rfl _ Gab.out).mono ?_
  rintro e w' ⟨rfl, rfl⟩
  go_wp2_with fail
  refine (get_at a na Ha.out _ _ _ _ r012 (by unfold maxLen; omega) _ rfl _ Ga.out).mono ?_
  rintro e w' ⟨rfl, rfl⟩
  go_wp2_with fail
  refine (get_at b nb Hb.out _ _ _ _ r112 (by unfold maxLen; omega) _ rfl _ rfl).mono ?_
  rintro e w' ⟨rfl, rfl⟩
  go_wp2_with fail
  go_ret
  exact ⟨rfl, below_then hB1 (below_then e15 e512)⟩

theorem bitsParts_walk (a b x y : List Int) (na nb nx ny : Nat) (ha : a.length = na) (hb : b.length = nb) (hx : x.length = nx) (hy : y.length = ny) (A0 A1 A2 A3 : Option Addr) (c0 c1 c2 c3 : Nat) (w : World)
    (ka : na ≤ maxLen) (kb : nb ≤ maxLen) (kx : nx ≤ maxLen) (ky : ny ≤ maxLen) (r0 : Row .i64 w w.heap.size A0 a) (r1 : Row .i64 w w.heap.size A1 b) (r2 : Row .u8 w w.heap.size A2 x) (r3 : Row .u8 w w.heap.size A3 y) (bx : byteB x) (by_ : byteB y) :
    Calls Try.prog 7 #[.slice A0 na c0, .slice A1 nb c1, .slice A2 nx c2, .slice A3 ny c3] w fun e w' => e = .returned (.bool true) ∧ Below w.heap.size w w' := by
  by_cases h : 16 < na ∨ 16 < nb ∨ 200 < nx ∨ 200 < ny
  · exact bitsParts_long na nb nx ny A0 A1 A2 A3 c0 c1 c2 c3 w ka kb kx ky h
  · cases ea : rightB a with
    | false => exact bitsParts_first a b x y na nb nx ny ha hb hx hy A0 A1 A2 A3 c0 c1 c2 c3 w (by omega) (by omega) (by omega) (by omega) r0 r1 r2 r3 bx by_ ea
    | true =>
      cases eb : rightB b with
      | false => exact bitsParts_second a b x y na nb nx ny ha hb hx hy A0 A1 A2 A3 c0 c1 c2 c3 w (by omega) (by omega) (by omega) (by omega) r0 r1 r2 r3 bx by_ ea eb
      | true => exact bitsParts_both a b x y na nb nx ny ha hb hx hy A0 A1 A2 A3 c0 c1 c2 c3 w (by omega) (by omega) (by omega) (by omega) r0 r1 r2 r3 bx by_ ea eb

end Go.Proofs.Ytneojggippiloaa
