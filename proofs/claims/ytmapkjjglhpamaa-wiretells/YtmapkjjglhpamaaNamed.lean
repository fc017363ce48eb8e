/-
  The reader of layer 4: what stands from the identifier on, and the whole frame.
-/
import Derived.Test.YtmapkjjglhpamaaRdr
import Derived.Test.YtmapkjjglhpamaaFr
namespace Go.Proofs.Ytmapkjjglhpamaa
open Go.RowKit

/-- What a reader's method ends in. -/
def RdPost (w : World) (R : Nat) (A : Option Addr) (n c : Nat) (l : List Int) : Except Int (Fr × Nat) → Ending → World → Prop
  | .error e, en, w' => en = quit e ∧ w.grownBy w' (some R)
  | .ok (f, k), en, w' => ∃ D m c', en = .returned (.agg #[.bool f.ext, .int .i64 f.id, .bool f.rem, .int .i64 f.len, .slice D m c']) ∧ f.data.length = m ∧ m ≤ c' ∧ Row .u8 w' w'.heap.size D f.data ∧ (f.data = [] ∨ ∃ ad, D = some ad ∧ w.heap.size ≤ ad.block) ∧ Rd w' R A n c l k ∧ w.grownBy w' (some R)

/-- The five cells of a frame that lies in a block. -/
theorem cells5 {w : World} {F : Nat} {a b c d e : Value} {t : TypeId} (h : w.heap[F]? = some (.cells #[a, b, c, d, e] t)) :
    (w.cell? ⟨F, 0, none⟩ = some a ∧ w.cell? ⟨F, 1, none⟩ = some b ∧ w.cell? ⟨F, 2, none⟩ = some c ∧ w.cell? ⟨F, 3, none⟩ = some d ∧ w.cell? ⟨F, 4, none⟩ = some e) ∧
    w.frozen? ⟨F, 0, none⟩ = false ∧ w.frozen? ⟨F, 1, none⟩ = false ∧ w.frozen? ⟨F, 2, none⟩ = false ∧ w.frozen? ⟨F, 3, none⟩ = false ∧ w.frozen? ⟨F, 4, none⟩ = false := by
  simp [World.cell?, World.frozen?, h]
/-- A frame stored over one. -/
def set5 (w : World) (F : Nat) (a b c d e : Value) : World := ((((w.setCell ⟨F, 0, none⟩ a).setCell ⟨F, 1, none⟩ b).setCell ⟨F, 2, none⟩ c).setCell ⟨F, 3, none⟩ d).setCell ⟨F, 4, none⟩ e
theorem set5_obj {w : World} {F : Nat} {a b c d e : Value} {t : TypeId} (h : w.heap[F]? = some (.cells #[a, b, c, d, e] t)) (a' b' c' d' e' : Value) :
    (set5 w F a' b' c' d' e').heap[F]? = some (.cells #[a', b', c', d', e'] t) := by
  simp [set5, World.setCell, Array.getElem?_modify, h]
theorem grown_setAt (w : World) (F i : Nat) (v : Value) : w.grownBy (w.setCell ⟨F, i, none⟩ v) (some F) :=
  ⟨rfl, rfl, rfl, by simp [World.setCell], fun k _ hk => Below.heap_setCell _ _ _ k (fun e => hk (by simp at e; rw [e]))⟩
theorem set5_grown (w : World) (F : Nat) (a b c d e : Value) : w.grownBy (set5 w F a b c d e) (some F) :=
  ((((grown_setAt w F 0 a).trans (grown_setAt _ F 1 b)).trans (grown_setAt _ F 2 c)).trans (grown_setAt _ F 3 d)).trans (grown_setAt _ F 4 e)

theorem load_fr {w : World} {F : Nat} {x r : Bool} {i n : Int} {D : Option Addr} {m c : Nat} {t : TypeId} (h : w.heap[F]? = some (.cells #[.bool x, .int .i64 i, .bool r, .int .i64 n, .slice D m c] t)) :
    (loadVar 24 ⟨F, 0, none⟩).run Try.prog w = .ok (.agg #[.bool x, .int .i64 i, .bool r, .int .i64 n, .slice D m c]) w := by
  obtain ⟨⟨c0, c1, c2, c3, c4⟩, _⟩ := cells5 h
  simp [go_sem, c0, c1, c2, c3, c4]
theorem results_fr {fn : Func} {p : Tmp} (hf : fn.results = #[.cell p 24]) (tmps : Array Value) {w : World} {F : Nat} {x r : Bool} {i n : Int} {D : Option Addr} {m c : Nat} {t : TypeId} (ht : tmps.getD p undef = .pointer (some ⟨F, 0, none⟩)) (h : w.heap[F]? = some (.cells #[.bool x, .int .i64 i, .bool r, .int .i64 n, .slice D m c] t)) :
    (results fn tmps).run Try.prog w = .ok (.agg #[.bool x, .int .i64 i, .bool r, .int .i64 n, .slice D m c]) w := by
  have hl := load_fr h
  have ht' : tmps[p]?.getD undef = .pointer (some ⟨F, 0, none⟩) := by simpa using ht
  simp only [results, hf]
  simp [ht', asAddr, hl]
/-- The two parts of a long identifier. -/
theorem or_parts (U V : Nat) (hU : U < 2048) (hV : V < 262144) : bits .or .i64 ((U : Int) * 262144) V = (U : Int) * 262144 + V := by
  have e : ((U : Int) * 262144) = ((262144 * U : Nat) : Int) := by omega
  rw [e]
  show IntKind.i64.wrap ((BitVec.ofInt 64 ((262144 * U : Nat) : Int) ||| BitVec.ofInt 64 (V : Int)).toNat : Int) = _
  rw [BitVec.toNat_or, ofInt64 _ (by omega), ofInt64 _ (by omega), IntKind.wrap_i64]
  have h2 : 262144 * U ||| V = 262144 * U + V := by
    have := Nat.two_pow_add_eq_or_of_lt (i := 18) (b := V) (by simpa using hV) U
    simpa using this.symm
  rw [h2]
  omega

set_option maxRecDepth 100000 in
set_option maxHeartbeats 1000000 in
theorem named_any (R : Nat) (A : Option Addr) (n c : Nat) (l : List Int) (hn1 : 1 ≤ n) (hr : rightB l = true) (hm : n ≤ 1000000) (w : World) (h : Rd w R A n c l 1) :
    Calls Try.prog 72 #[.pointer (some ⟨R, 0, none⟩)] w (RdPost w R A n c l (namedL l)) := by
  have hl := h.len
  have HR := Lib.hid hr
  have HL := Lib.hid hl
  clear hr hl
  have hA := h.alloc (.cells #[.bool false, .int .i64 0, .bool false, .int .i64 0, .slice none 0 0] 24)
  have gA := World.grownBy_alloc w (.cells #[.bool false, .int .i64 0, .bool false, .int .i64 0, .slice none 0 0] 24) (some R)
  by_cases h12 : n < 12
  · have hp : namedL l = .error 40 := by unfold namedL; rw [if_pos (by rw [HL.out]; omega)]
    rw [hp]
    go_enter Try.func72, Try.ntmps72
    go_wp2_with fail
    refine (number_short R A n c l 1 11 (by omega) (by omega) (by omega) HR.out hm _ hA).mono ?_
    rintro e w' ⟨he, hg⟩
    subst he
    unfold quit
    go_wp2_with fail
    exact ⟨rfl, rfl, gA.trans hg⟩
  obtain ⟨u, hu⟩ : ∃ u, numAt l 1 11 = u := ⟨_, rfl⟩
  have hub := numAt_lt HR.out 1 11 (by rw [HL.out]; omega)
  rw [hu] at hub
  obtain ⟨U, rfl⟩ := Int.eq_ofNat_of_zero_le hub.1
  have hub2 : U < 2048 := by have := hub.2; simp at this; omega
  clear hub
  have HU := Lib.hid hu
  clear hu
  by_cases h13 : n = 12
  · have hp : namedL l = .error 40 := by unfold namedL; rw [if_pos (by rw [HL.out]; omega)]
    rw [hp]
    subst h13
    go_enter Try.func72, Try.ntmps72
    go_wp2_with fail
    refine (number_ok R A _ c l 1 11 (by omega) (by omega) HR.out hm _ HU.out _ hA).mono ?_
    rintro e w1 ⟨rfl, hR1, hg1⟩
    go_wp2_with fail
    refine (next_short R A _ c l _ hR1).mono ?_
    rintro e w2 ⟨he, hg2⟩
    subst he
    unfold quit
    go_wp2_with fail
    exact ⟨rfl, rfl, gA.trans (hg1.trans hg2)⟩
  have x12 := getD_some (l := l) (k := 12) (by rw [HL.out]; omega)
  have b12 := getD_01 HR.out 12
  by_cases h14 : n = 13
  · have hp : namedL l = .error 40 := by unfold namedL; rw [if_pos (by rw [HL.out]; omega)]
    rw [hp]
    subst h14
    obtain ⟨x, hx⟩ : ∃ x, l.getD 12 0 = x := ⟨_, rfl⟩
    rw [hx] at x12 b12
    have X12 := Lib.hid x12
    have B12 := Lib.hid b12
    clear hx x12 b12
    go_enter Try.func72, Try.ntmps72
    go_wp2_with fail
    refine (number_ok R A _ c l 1 11 (by omega) (by omega) HR.out hm _ HU.out _ hA).mono ?_
    rintro e w1 ⟨rfl, hR1, hg1⟩
    go_wp2_with fail
    refine (next_ok R A _ c l 12 x X12.out B12.out hm _ hR1).mono ?_
    rintro e w2 ⟨rfl, hR2, hg2⟩
    go_wp2_with fail
    refine (next_short R A _ c l _ hR2).mono ?_
    rintro e w3 ⟨he, hg3⟩
    subst he
    unfold quit
    go_wp2_with fail
    exact ⟨rfl, rfl, gA.trans (hg1.trans (hg2.trans hg3))⟩
  have x13 := getD_some (l := l) (k := 13) (by rw [HL.out]; omega)
  have b13 := getD_01 HR.out 13
  have hF : (w.alloc (.cells #[.bool false, .int .i64 0, .bool false, .int .i64 0, .slice none 0 0] 24)).heap[w.heap.size]? = some (.cells #[.bool false, .int .i64 0, .bool false, .int .i64 0, .slice none 0 0] 24) := World.alloc_heap_new _ _
  have hlt := h.lt
  rcases b13 with b13 | b13
  · obtain ⟨x, hx⟩ : ∃ x, l.getD 12 0 = x := ⟨_, rfl⟩
    have hp : namedL l = .ok (⟨false, U, decide (x = 1), 0, []⟩, 14) := by
      unfold namedL; rw [if_neg (by rw [HL.out]; omega), if_pos b13, HU.out, hx]
    rw [hp]
    rw [hx] at x12 b12
    rw [b13] at x13
    have X12 := Lib.hid x12
    have B12 := Lib.hid b12
    have X13 := Lib.hid x13
    have HF := Lib.hid hF
    clear hx x12 b12 x13 b13 hp hF
    go_enter Try.func72, Try.ntmps72
    go_wp2_with fail
    refine (number_ok R A _ c l 1 11 (by omega) (by omega) HR.out hm _ HU.out _ hA).mono ?_
    rintro e w1 ⟨rfl, hR1, hg1⟩
    go_wp2_with fail
    refine (next_ok R A _ c l 12 x X12.out B12.out hm _ hR1).mono ?_
    rintro e w2 ⟨rfl, hR2, hg2⟩
    go_wp2_with fail
    refine (next_ok R A _ c l 13 0 X13.out (.inl rfl) hm _ hR2).mono ?_
    rintro e w3 ⟨rfl, hR3, hg3⟩
    have hF3 : w3.heap[w.heap.size]? = some (.cells #[.bool false, .int .i64 0, .bool false, .int .i64 0, .slice none 0 0] 24) :=
      ((hg1.trans (hg2.trans hg3)).block _ (by simp) (by simp; omega)).trans HF.out
    have HF3 := Lib.hid hF3
    obtain ⟨⟨c0, c1, c2, c3, c4⟩, f0, f1, f2, f3, f4⟩ := cells5 hF3
    clear hF3
    have q := hR3.past (set5_grown w3 w.heap.size (.bool false) (.int .i64 U) (.bool (x == 1)) (.int .i64 0) (.slice none 0 0)) hlt
    have gq := (gA.trans (hg1.trans (hg2.trans hg3))).andThen (set5_grown w3 w.heap.size (.bool false) (.int .i64 U) (.bool (x == 1)) (.int .i64 0) (.slice none 0 0)) (fun j e => by cases e; exact .inl (Nat.le_refl _))
    unfold set5 at q gq
    go_wp2_with fail
    refine bodyPost_ret (v := .agg #[.bool false, .int .i64 U, .bool (x == 1), .int .i64 0, .slice none 0 0]) (results_fr rfl _ rfl (set5_obj HF3.out _ _ _ _ _)) rfl ?_
    exact ⟨none, 0, 0, rfl, rfl, Nat.le_refl _, .inl rfl, .inl rfl, q, gq⟩
  · rw [b13] at x13
    have X13 := Lib.hid x13
    clear x13
    have n1 : namedL l = if l.getD 12 0 ≠ 1 then .error 42 else if l.length < 34 then .error 40 else if l.getD 33 0 ≠ 0 then .error 42 else .ok (⟨true, numAt l 1 11 * 262144 + numAt l 14 18, decide (l.getD 32 0 = 1), 0, []⟩, 34) := by
      unfold namedL; rw [if_neg (by rw [HL.out]; omega), if_neg (by rw [b13]; decide)]
    clear b13
    rcases b12 with b12 | b12
    · have hp : namedL l = .error 42 := by rw [n1, if_pos (by rw [b12]; decide)]
      rw [hp]
      rw [b12] at x12
      have X12 := Lib.hid x12
      clear x12 b12 n1 hp hF
      go_enter Try.func72, Try.ntmps72
      go_wp2_with fail
      refine (number_ok R A _ c l 1 11 (by omega) (by omega) HR.out hm _ HU.out _ hA).mono ?_
      rintro e w1 ⟨rfl, hR1, hg1⟩
      go_wp2_with fail
      refine (next_ok R A _ c l 12 0 X12.out (.inl rfl) hm _ hR1).mono ?_
      rintro e w2 ⟨rfl, hR2, hg2⟩
      go_wp2_with fail
      refine (next_ok R A _ c l 13 1 X13.out (.inr rfl) hm _ hR2).mono ?_
      rintro e w3 ⟨rfl, hR3, hg3⟩
      go_wp2_with fail
      exact ⟨rfl, rfl, gA.trans (hg1.trans (hg2.trans hg3))⟩
    rw [if_neg (by rw [b12]; decide)] at n1
    rw [b12] at x12
    have X12 := Lib.hid x12
    clear x12 b12
    by_cases h32 : n < 32
    · rw [if_pos (by rw [HL.out]; omega)] at n1
      rw [n1]
      clear n1 hF
      go_enter Try.func72, Try.ntmps72
      go_wp2_with fail
      refine (number_ok R A _ c l 1 11 (by omega) (by omega) HR.out hm _ HU.out _ hA).mono ?_
      rintro e w1 ⟨rfl, hR1, hg1⟩
      go_wp2_with fail
      refine (next_ok R A _ c l 12 1 X12.out (.inr rfl) hm _ hR1).mono ?_
      rintro e w2 ⟨rfl, hR2, hg2⟩
      go_wp2_with fail
      refine (next_ok R A _ c l 13 1 X13.out (.inr rfl) hm _ hR2).mono ?_
      rintro e w3 ⟨rfl, hR3, hg3⟩
      go_wp2_with fail
      refine (number_short R A _ c l 14 18 (by omega) (by omega) (by omega) HR.out hm _ hR3).mono ?_
      rintro e w4 ⟨he, hg4⟩
      subst he
      unfold quit
      go_wp2_with fail
      exact ⟨rfl, rfl, gA.trans (hg1.trans (hg2.trans (hg3.trans hg4)))⟩
    obtain ⟨v, hv⟩ : ∃ v, numAt l 14 18 = v := ⟨_, rfl⟩
    have hvb := numAt_lt HR.out 14 18 (by rw [HL.out]; omega)
    rw [hv] at hvb
    obtain ⟨V, rfl⟩ := Int.eq_ofNat_of_zero_le hvb.1
    have hvb2 : V < 262144 := by have := hvb.2; simp at this; omega
    clear hvb
    rw [HU.out, hv] at n1
    have HV := Lib.hid hv
    clear hv
    by_cases h33 : n = 32
    · rw [if_pos (by rw [HL.out]; omega)] at n1
      rw [n1]
      clear n1 hF
      subst h33
      go_enter Try.func72, Try.ntmps72
      go_wp2_with fail
      refine (number_ok R A _ c l 1 11 (by omega) (by omega) HR.out hm _ HU.out _ hA).mono ?_
      rintro e w1 ⟨rfl, hR1, hg1⟩
      go_wp2_with fail
      refine (next_ok R A _ c l 12 1 X12.out (.inr rfl) hm _ hR1).mono ?_
      rintro e w2 ⟨rfl, hR2, hg2⟩
      go_wp2_with fail
      refine (next_ok R A _ c l 13 1 X13.out (.inr rfl) hm _ hR2).mono ?_
      rintro e w3 ⟨rfl, hR3, hg3⟩
      go_wp2_with fail
      refine (number_ok R A _ c l 14 18 (by omega) (by omega) HR.out hm _ HV.out _ hR3).mono ?_
      rintro e w4 ⟨rfl, hR4, hg4⟩
      go_wp2_with fail
      refine (next_short R A _ c l _ hR4).mono ?_
      rintro e w5 ⟨he, hg5⟩
      subst he
      unfold quit
      go_wp2_with fail
      exact ⟨rfl, rfl, gA.trans (hg1.trans (hg2.trans (hg3.trans (hg4.trans hg5))))⟩
    have x32 := getD_some (l := l) (k := 32) (by rw [HL.out]; omega)
    have b32 := getD_01 HR.out 32
    obtain ⟨y, hy⟩ : ∃ y, l.getD 32 0 = y := ⟨_, rfl⟩
    rw [hy] at x32 b32 n1
    have X32 := Lib.hid x32
    have B32 := Lib.hid b32
    have hor : bits .or .i64 ((U : Int) * 262144) V = (U : Int) * 262144 + V := or_parts U V hub2 hvb2
    clear x32 b32 hy
    by_cases h34 : n = 33
    · rw [if_pos (by rw [HL.out]; omega)] at n1
      rw [n1]
      clear n1 hF
      subst h34
      go_enter Try.func72, Try.ntmps72
      go_wp2_with fail
      refine (number_ok R A _ c l 1 11 (by omega) (by omega) HR.out hm _ HU.out _ hA).mono ?_
      rintro e w1 ⟨rfl, hR1, hg1⟩
      go_wp2_with fail
      refine (next_ok R A _ c l 12 1 X12.out (.inr rfl) hm _ hR1).mono ?_
      rintro e w2 ⟨rfl, hR2, hg2⟩
      go_wp2_with fail
      refine (next_ok R A _ c l 13 1 X13.out (.inr rfl) hm _ hR2).mono ?_
      rintro e w3 ⟨rfl, hR3, hg3⟩
      go_wp2_with fail
      refine (number_ok R A _ c l 14 18 (by omega) (by omega) HR.out hm _ HV.out _ hR3).mono ?_
      rintro e w4 ⟨rfl, hR4, hg4⟩
      go_wp2_with fail
      refine (next_ok R A _ c l 32 y X32.out B32.out hm _ hR4).mono ?_
      rintro e w5 ⟨rfl, hR5, hg5⟩
      go_wp2_with fail
      refine (zero_short R A _ c l _ (hR5.alloc _)).mono ?_
      rintro e w6 ⟨he, hg6⟩
      subst he
      unfold quit
      go_wp2_with fail
      exact ⟨rfl, rfl, gA.trans (hg1.trans (hg2.trans (hg3.trans (hg4.trans (hg5.trans ((World.grownBy_alloc _ _ _).trans hg6))))))⟩
    rw [if_neg (by rw [HL.out]; omega)] at n1
    have x33 := getD_some (l := l) (k := 33) (by rw [HL.out]; omega)
    have b33 := getD_01 HR.out 33
    rcases b33 with b33 | b33
    · rw [if_neg (by rw [b33]; decide)] at n1
      rw [n1]
      rw [b33] at x33
      have X33 := Lib.hid x33
      have HF := Lib.hid hF
      clear n1 hF x33 b33
      go_enter Try.func72, Try.ntmps72
      go_wp2_with fail
      refine (number_ok R A _ c l 1 11 (by omega) (by omega) HR.out hm _ HU.out _ hA).mono ?_
      rintro e w1 ⟨rfl, hR1, hg1⟩
      go_wp2_with fail
      refine (next_ok R A _ c l 12 1 X12.out (.inr rfl) hm _ hR1).mono ?_
      rintro e w2 ⟨rfl, hR2, hg2⟩
      go_wp2_with fail
      refine (next_ok R A _ c l 13 1 X13.out (.inr rfl) hm _ hR2).mono ?_
      rintro e w3 ⟨rfl, hR3, hg3⟩
      go_wp2_with fail
      refine (number_ok R A _ c l 14 18 (by omega) (by omega) HR.out hm _ HV.out _ hR3).mono ?_
      rintro e w4 ⟨rfl, hR4, hg4⟩
      go_wp2_with fail
      refine (next_ok R A _ c l 32 y X32.out B32.out hm _ hR4).mono ?_
      rintro e w5 ⟨rfl, hR5, hg5⟩
      go_wp2_with fail
      refine (zero_ok R A _ c l 33 X33.out hm _ (hR5.alloc _)).mono ?_
      rintro e w6 ⟨rfl, hR6, hg6⟩
      have hRl := hR5.lt
      have hG : w.grownBy w6 (some R) := gA.trans (hg1.trans (hg2.trans (hg3.trans (hg4.trans (hg5.trans ((World.grownBy_alloc _ _ _).trans hg6))))))
      have hF6 : w6.heap[w.heap.size]? = some (.cells #[.bool false, .int .i64 0, .bool false, .int .i64 0, .slice none 0 0] 24) :=
        ((hg1.trans (hg2.trans (hg3.trans (hg4.trans (hg5.trans ((World.grownBy_alloc _ _ _).trans hg6)))))).block _ (by simp) (by simp; omega)).trans HF.out
      have hN : w6.heap[w5.heap.size]? = some (.cells #[.bool true, .int .i64 (↑U * 262144 + ↑V), .bool (y == 1), .int .i64 0, .slice none 0 0] 24) :=
        (hg6.block _ (by simp) (by simp; omega)).trans (World.alloc_heap_new _ _)
      have HF6 := Lib.hid hF6
      obtain ⟨⟨c0, c1, c2, c3, c4⟩, f0, f1, f2, f3, f4⟩ := cells5 hF6
      obtain ⟨⟨d0, d1, d2, d3, d4⟩, _⟩ := cells5 hN
      clear hF6 hN
      have q := hR6.past (set5_grown w6 w.heap.size (.bool true) (.int .i64 (↑U * 262144 + ↑V)) (.bool (y == 1)) (.int .i64 0) (.slice none 0 0)) hlt
      have gq := hG.andThen (set5_grown w6 w.heap.size (.bool true) (.int .i64 (↑U * 262144 + ↑V)) (.bool (y == 1)) (.int .i64 0) (.slice none 0 0)) (fun j e => by cases e; exact .inl (Nat.le_refl _))
      unfold set5 at q gq
      go_wp2_with fail
      refine bodyPost_ret (v := .agg #[.bool true, .int .i64 (↑U * 262144 + ↑V), .bool (y == 1), .int .i64 0, .slice none 0 0]) (results_fr rfl _ rfl (set5_obj HF6.out _ _ _ _ _)) rfl ?_
      exact ⟨none, 0, 0, rfl, rfl, Nat.le_refl _, .inl rfl, .inl rfl, q, gq⟩
    · rw [if_pos (by rw [b33]; decide)] at n1
      rw [n1]
      rw [b33] at x33
      have X33 := Lib.hid x33
      clear n1 hF x33 b33
      go_enter Try.func72, Try.ntmps72
      go_wp2_with fail
      refine (number_ok R A _ c l 1 11 (by omega) (by omega) HR.out hm _ HU.out _ hA).mono ?_
      rintro e w1 ⟨rfl, hR1, hg1⟩
      go_wp2_with fail
      refine (next_ok R A _ c l 12 1 X12.out (.inr rfl) hm _ hR1).mono ?_
      rintro e w2 ⟨rfl, hR2, hg2⟩
      go_wp2_with fail
      refine (next_ok R A _ c l 13 1 X13.out (.inr rfl) hm _ hR2).mono ?_
      rintro e w3 ⟨rfl, hR3, hg3⟩
      go_wp2_with fail
      refine (number_ok R A _ c l 14 18 (by omega) (by omega) HR.out hm _ HV.out _ hR3).mono ?_
      rintro e w4 ⟨rfl, hR4, hg4⟩
      go_wp2_with fail
      refine (next_ok R A _ c l 32 y X32.out B32.out hm _ hR4).mono ?_
      rintro e w5 ⟨rfl, hR5, hg5⟩
      go_wp2_with fail
      refine (zero_form R A _ c l 33 X33.out hm _ (hR5.alloc _)).mono ?_
      rintro e w6 ⟨he, hg6⟩
      subst he
      unfold quit
      go_wp2_with fail
      exact ⟨rfl, rfl, gA.trans (hg1.trans (hg2.trans (hg3.trans (hg4.trans (hg5.trans ((World.grownBy_alloc _ _ _).trans hg6))))))⟩

end Go.Proofs.Ytmapkjjglhpamaa
