/-
  NbHd · NpM · NpK · NAs · NpO · NpH · NpE.
-/
import Derived.Test.YtcifjccojmfpaaaGreatJ0
import Derived.Test.YtcifjccojmfpaaaGreatJ1
import Derived.Test.YtcifjccojmfpaaaGreatJ2
import Derived.Test.YtcifjccojmfpaaaGreatJ3
import Derived.Laws.MakeOwn
import Derived.Lib.SliceRun
import Derived.WalkMore
import Derived.BigQuiet
set_option maxRecDepth 100000
set_option maxHeartbeats 4000000
namespace Go.Proofs.YtcifjccojmfpaaaGreat
open Go.RowKit
set_option linter.unusedVariables false
set_option linter.unusedSimpArgs false
theorem region_let {P : Program} {k : Nat} {l : List Oper} {d : Bool} {Q : Exit → Act → World → Prop} {a : Act} {w : World} (h : let o := l; Code.wp P (Code.region k o.toArray d) Q a w) : Code.wp P (Code.region k l.toArray d) Q a w := h
theorem op_at10 {l : List Oper} {i : Nat} {o : Oper} {r : List Oper} (h : l.drop i = o :: r) : l.toArray[i]? = some o := by
  have h2 : l[i]? = some o := by rw [← List.head?_drop, h]; rfl
  simpa using h2
theorem nsl_take1 {w : World} {P : Nat → Prop} {A : Option Addr} {c : Nat} {a b : NC} (h : NSl w P A 2 c [a, b]) : NSl w P A 1 c [a] := by
  obtain ⟨ns, h1, h2⟩ := h.row
  exact ⟨rfl, by have := h.cap; omega, by decide, ⟨ns.take 1, h1.take_ 1, h2.take 1⟩, fun _ => h.inP (by decide)⟩
theorem nsl_drop1 {w : World} {P : Nat → Prop} {ad : Addr} {c : Nat} {a b : NC} (h : NSl w P (some ad) 2 c [a, b]) : NSl w P (some (ad.add (1 * 7))) 1 (c - 1) [b] := by
  obtain ⟨ns, h1, h2⟩ := h.row
  exact ⟨rfl, by have := h.cap; omega, by decide, ⟨ns.drop 1, h1.drop_ shN 1, h2.drop 1⟩, fun _ ad2 e => by obtain rfl := Option.some.inj e; rw [addr_block]; exact h.inP (by decide) ad rfl⟩
theorem make2 (w : World) : Sem.run Tryz.prog (Instr.makeSlice 23 (.int .i64 2) (.int .i64 2)) w = .ok (.slice (some ⟨w.heap.size, 0, none⟩) 2 2) (w.alloc (.cells #[.slice none 0 0, .slice none 0 0] 41)) := by
  have h : (Tryz.prog.info? 41).map (fun i => (i.zero, i.size, i.bytes)) = some (some (.agg #[.slice none 0 0]), 1, 24) := by kernel_rfl
  obtain ⟨i, hi, e⟩ := Option.map_eq_some_iff.1 h
  have e1 : i.zero = some (.agg #[.slice none 0 0]) := congrArg (·.1) e
  have e2 : i.size = 1 := congrArg (·.2.1) e
  have e3 : i.bytes = 24 := congrArg (·.2.2) e
  have r := run_makeSlice w 23 41 i _ Tryz.underlying23 hi e1 .i64 .i64 2 2 (by decide) (by decide) (by rw [e2]; decide) (by rw [e3]; decide) (by decide)
  rw [e2, show madeCells (Value.agg #[.slice none 0 0]).cells ((2 : Int).toNat * 1) = #[.slice none 0 0, .slice none 0 0] from by kernel_rfl] at r
  exact r
theorem hsl_make2 (W : World) : HSl (W.alloc (.cells #[.slice none 0 0, .slice none 0 0] 41)) (fun _ => True) (some ⟨W.heap.size, 0, none⟩) 2 2 [[], []] := by
  have h : HIs (W.alloc (.cells #[.slice none 0 0, .slice none 0 0] 41)) (fun _ => True) ⟨none, 0, 0⟩ [] := ⟨rfl, by decide, .inl rfl, fun h => absurd h (by decide)⟩
  exact ⟨rfl, by decide, ⟨[⟨none, 0, 0⟩, ⟨none, 0, 0⟩], GRow.lit (cs := HV.cs) W [⟨none, 0, 0⟩, ⟨none, 0, 0⟩] rfl rfl, AllIs.append (AllIs.one h) (AllIs.one h)⟩⟩
theorem refNew_lit (w : World) : Calls Tryz.prog 29 #[] w fun e w' => e = .returned (.agg #[.int .i64 0, .int .i64 0, .int .i64 1, .int .i64 0]) ∧ Below w.heap.size w w' := refNew_any w
theorem fsl5 (W : World) : FSl (W.alloc (.cells #[.bool false, .int .i64 5, .bool false, .int .i64 0, .slice none 0 0] 34)) (fun _ => True) (some ⟨W.heap.size, 0, none⟩) 1 1 [F5] := fsl_lit1 (f := ⟨false, 5, false, 0, none, 0, 0⟩) (F := F5) (fis_lit false 5 false 0) (fun _ _ => trivial) rfl
theorem w64_3 (L : Nat) (h : L ≤ 1000) : wrap64 ((L : Int) + 3) = (L : Int) + 3 := by unfold wrap64; omega
theorem w64_23 (L : Nat) (h : L ≤ 1000) : wrap64 ((L : Int) + 23) = (L : Int) + 23 := by unfold wrap64; omega
theorem wi_3 (L : Nat) (h : L ≤ 1000) : IntKind.i64.wrap ((L : Int) + 3) = (L : Int) + 3 := by rw [IntKind.wrap_i64]; omega
theorem wi_23 (L : Nat) (h : L ≤ 1000) : IntKind.i64.wrap ((L : Int) + 23) = (L : Int) + 23 := by rw [IntKind.wrap_i64]; omega
theorem slots10 : slotsN [N5, N00] [[], []] = [⟨[], [], newV, []⟩, ⟨[], [], newV, [F5]⟩] := by decide +kernel
theorem tolds10 : toldsN [N5, N00] [[], []] = [⟨0, F5, true, lenZ F5 + 3⟩, ⟨-1, zeroF, false, 11⟩] := by
  show [] ++ [toldN lenZ [N5, N00] []] ++ [toldN lenZ (slotN [N5, N00] []) []] = _
  rw [slot10_0, told10_0, told10_5]; rfl
theorem head10_of (hB : BusSlot) (hBs : BusSlots) (w : World) : Calls Tryz.prog 11 #[] w fun e w' => e = .returned (.bool true) ∧ Below w.heap.size w w' := by
  have q1 := eqIn_c
  have q2 := eq_c
  have q3 := make2
  obtain ⟨L, hL⟩ : ∃ L, lenC F5 = L := ⟨_, rfl⟩
  have hLe : L ≤ 1000 := by rw [← hL]; exact lenC_le (by decide)
  have HL := Lib.hid hL
  have hw3 := w64_3 L hLe
  have hw23 := w64_23 L hLe
  have hv3 := wi_3 L hLe
  have hv23 := wi_23 L hLe
  clear hL
  have hT0 : Below w.heap.size w w := Below.refl _ _
  go_enter Tryz.func11, Tryz.ntmps11
  go_wp2_with fail
  refine (refLen_c (f := ⟨false, 5, false, 0, none, 0, 0⟩) (F := F5) (P := fun _ => True) (fis_lit false 5 false 0) (by decide) L HL.out).mono ?_
  rintro e w1 ⟨rfl, hB1⟩
  have hT1 := below_then hT0 hB1
  clear hT0   hB1
  go_wp2_with fail
  refine (two_c _ (fun _ => True) (fun _ _ => trivial)).mono ?_
  rintro e w2 ⟨ad0, rfl, hS_, hB2⟩
  have hT2 := below_then hT1 hB2
  clear hT1   hB2
  have hS2 := hS_
  clear hS_
  go_wp2_with fail
  refine (hB.run hS2 ok10_5 (by decide) (by decide) (show Row .i64 _ _ none [] from .inl rfl) rfl (by decide) (fun _ _ => trivial) _ slot10_0 _ told10_0).mono ?_
  rintro e w3 ⟨A0, c0, t0, rfl, ha0_, ht0_, hB3⟩
  have hT3 := below_then hT2 hB3
  have hS3 := NSl.to hS2 hB3
  clear hT2  hS2 hB3
  have ha03 := ha0_
  clear ha0_
  have ht03 := ht0_
  clear ht0_
  clear hS3
  obtain ⟨tw0, tf0, tk0, tb0⟩ := t0
  obtain rfl : tw0 = 0 := ht03.win
  obtain rfl : tk0 = true := ht03.ok
  obtain rfl : tb0 = ((L : Int) + 3) := (ht03.b).trans (by show (lenC F5 : Int) + _ = _; rw [HL.out])
  go_wp2_with fail
  obtain ⟨w4, hw4⟩ : ∃ w4, w3.alloc (.cells #[.int .i64 0, .bool tf0.x, .int .i64 tf0.i, .bool tf0.r, .int .i64 tf0.n, .slice tf0.a tf0.m tf0.c, .bool true, .int .i64 ((L : Int) + 3)] 36) = w4 := ⟨_, rfl⟩
  have hB4 : Below w3.heap.size w3 w4 := by rw [← hw4]; exact below_alloc1 _ _
  have hb04 : w4.heap[w3.heap.size]? = some (.cells #[.int .i64 0, .bool tf0.x, .int .i64 tf0.i, .bool tf0.r, .int .i64 tf0.n, .slice tf0.a tf0.m tf0.c, .bool true, .int .i64 ((L : Int) + 3)] 36) := by rw [← hw4]; exact World.alloc_heap_new _ _
  rw [hw4]
  clear hw4
  have hT4 := below_then hT3 hB4
  have ha04 := NSl.to ha03 hB4
  have ht04 := TIs.to ht03 hB4
  clear hT3  ha03 ht03 hB4
  refine (two_c _ (fun _ => True) (fun _ _ => trivial)).mono ?_
  rintro e w5 ⟨ad1, rfl, hS_, hB5⟩
  have hT5 := below_then hT4 hB5
  have hb05 := block_below hB5 hb04
  have ha05 := NSl.to ha04 hB5
  have ht05 := TIs.to ht04 hB5
  clear hT4 hb04 ha04 ht04 hB5
  have hS5 := hS_
  clear hS_
  go_wp2_with fail
  obtain ⟨w6, hw6⟩ : ∃ w_, w5.alloc (.cells #[.int .i64 0, .int .i64 9] 3) = w_ := ⟨_, rfl⟩
  have hB6 : Below w5.heap.size w5 w6 := by rw [← hw6]; exact below_alloc1 _ _
  have hR_ : Row .i64 w6 w6.heap.size (some ⟨w5.heap.size, 0, none⟩) [0, 9] := by rw [← hw6]; have hL_ := Row.lit w5 .i64 [0, 9] 3 rfl; simpa using hL_
  rw [hw6]
  clear hw6
  have hT6 := below_then hT5 hB6
  have hb06 := block_below hB6 hb05
  have ha06 := NSl.to ha05 hB6
  have ht06 := TIs.to ht05 hB6
  have hS6 := NSl.to hS5 hB6
  clear hT5 hb05 ha05 ht05 hS5 hB6
  have hR6 := hR_
  clear hR_
  refine (hB.run hS6 ok10_5 (by decide) (by decide) hR6 rfl (by decide) (fun _ _ => trivial) _ slot10_1 _ told10_1).mono ?_
  rintro e w7 ⟨A1, c1, t1, rfl, ha1_, ht1_, hB7⟩
  have hT7 := below_then hT6 hB7
  have hb07 := block_below hB7 hb06
  have ha07 := NSl.to ha06 hB7
  have ht07 := TIs.to ht06 hB7
  have hS7 := NSl.to hS6 hB7
  have hR7 := Row.to hR6 hB7
  clear hT6 hb06 ha06 ht06 hS6 hR6 hB7
  have ha17 := ha1_
  clear ha1_
  have ht17 := ht1_
  clear ht1_
  clear hS7
  clear hR7
  obtain ⟨tw1, tf1, tk1, tb1⟩ := t1
  obtain rfl : tw1 = 0 := ht17.win
  obtain rfl : tk1 = false := ht17.ok
  obtain rfl : tb1 = ((L : Int) + 23) := (ht17.b).trans (by show (lenC F5 : Int) + _ = _; rw [HL.out])
  go_wp2_with fail
  obtain ⟨w8, hw8⟩ : ∃ w8, w7.alloc (.cells #[.int .i64 0, .bool tf1.x, .int .i64 tf1.i, .bool tf1.r, .int .i64 tf1.n, .slice tf1.a tf1.m tf1.c, .bool false, .int .i64 ((L : Int) + 23)] 36) = w8 := ⟨_, rfl⟩
  have hB8 : Below w7.heap.size w7 w8 := by rw [← hw8]; exact below_alloc1 _ _
  have hb18 : w8.heap[w7.heap.size]? = some (.cells #[.int .i64 0, .bool tf1.x, .int .i64 tf1.i, .bool tf1.r, .int .i64 tf1.n, .slice tf1.a tf1.m tf1.c, .bool false, .int .i64 ((L : Int) + 23)] 36) := by rw [← hw8]; exact World.alloc_heap_new _ _
  rw [hw8]
  clear hw8
  have hT8 := below_then hT7 hB8
  have hb08 := block_below hB8 hb07
  have ha08 := NSl.to ha07 hB8
  have ht08 := TIs.to ht07 hB8
  have ha18 := NSl.to ha17 hB8
  have ht18 := TIs.to ht17 hB8
  clear hT7 hb07 ha07 ht07 ha17 ht17 hB8
  refine (two_c _ (fun _ => True) (fun _ _ => trivial)).mono ?_
  rintro e w9 ⟨ad2, rfl, hS_, hB9⟩
  have hT9 := below_then hT8 hB9
  have hb09 := block_below hB9 hb08
  have hb19 := block_below hB9 hb18
  have ha09 := NSl.to ha08 hB9
  have ht09 := TIs.to ht08 hB9
  have ha19 := NSl.to ha18 hB9
  have ht19 := TIs.to ht18 hB9
  clear hT8 hb08 hb18 ha08 ht08 ha18 ht18 hB9
  have hS9 := hS_
  clear hS_
  go_wp2_with fail
  obtain ⟨w10, hw10⟩ : ∃ w_, w9.alloc (.cells #[.int .i64 1, .int .i64 1] 3) = w_ := ⟨_, rfl⟩
  have hB10 : Below w9.heap.size w9 w10 := by rw [← hw10]; exact below_alloc1 _ _
  have hR_ : Row .i64 w10 w10.heap.size (some ⟨w9.heap.size, 0, none⟩) [1, 1] := by rw [← hw10]; have hL_ := Row.lit w9 .i64 [1, 1] 3 rfl; simpa using hL_
  rw [hw10]
  clear hw10
  have hT10 := below_then hT9 hB10
  have hb010 := block_below hB10 hb09
  have hb110 := block_below hB10 hb19
  have ha010 := NSl.to ha09 hB10
  have ht010 := TIs.to ht09 hB10
  have ha110 := NSl.to ha19 hB10
  have ht110 := TIs.to ht19 hB10
  have hS10 := NSl.to hS9 hB10
  clear hT9 hb09 hb19 ha09 ht09 ha19 ht19 hS9 hB10
  have hR10 := hR_
  clear hR_
  refine (hB.run hS10 ok10_5 (by decide) (by decide) hR10 rfl (by decide) (fun _ _ => trivial) _ slot10_2 _ told10_2).mono ?_
  rintro e w11 ⟨A2, c2, t2, rfl, ha2_, ht2_, hB11⟩
  have hT11 := below_then hT10 hB11
  have hb011 := block_below hB11 hb010
  have hb111 := block_below hB11 hb110
  have ha011 := NSl.to ha010 hB11
  have ht011 := TIs.to ht010 hB11
  have ha111 := NSl.to ha110 hB11
  have ht111 := TIs.to ht110 hB11
  have hS11 := NSl.to hS10 hB11
  have hR11 := Row.to hR10 hB11
  clear hT10 hb010 hb110 ha010 ht010 ha110 ht110 hS10 hR10 hB11
  have ha211 := ha2_
  clear ha2_
  have ht211 := ht2_
  clear ht2_
  clear hS11
  clear hR11
  obtain ⟨tw2, tf2, tk2, tb2⟩ := t2
  obtain rfl : tw2 = 0 := ht211.win
  obtain rfl : tk2 = false := ht211.ok
  obtain rfl : tb2 = ((L : Int) + 23) := (ht211.b).trans (by show (lenC F5 : Int) + _ = _; rw [HL.out])
  go_wp2_with fail
  obtain ⟨w12, hw12⟩ : ∃ w12, w11.alloc (.cells #[.int .i64 0, .bool tf2.x, .int .i64 tf2.i, .bool tf2.r, .int .i64 tf2.n, .slice tf2.a tf2.m tf2.c, .bool false, .int .i64 ((L : Int) + 23)] 36) = w12 := ⟨_, rfl⟩
  have hB12 : Below w11.heap.size w11 w12 := by rw [← hw12]; exact below_alloc1 _ _
  have hb212 : w12.heap[w11.heap.size]? = some (.cells #[.int .i64 0, .bool tf2.x, .int .i64 tf2.i, .bool tf2.r, .int .i64 tf2.n, .slice tf2.a tf2.m tf2.c, .bool false, .int .i64 ((L : Int) + 23)] 36) := by rw [← hw12]; exact World.alloc_heap_new _ _
  rw [hw12]
  clear hw12
  have hT12 := below_then hT11 hB12
  have hb012 := block_below hB12 hb011
  have hb112 := block_below hB12 hb111
  have ha012 := NSl.to ha011 hB12
  have ht012 := TIs.to ht011 hB12
  have ha112 := NSl.to ha111 hB12
  have ht112 := TIs.to ht111 hB12
  have ha212 := NSl.to ha211 hB12
  have ht212 := TIs.to ht211 hB12
  clear hT11 hb011 hb111 ha011 ht011 ha111 ht111 ha211 ht211 hB12
  refine (two_c _ (fun _ => True) (fun _ _ => trivial)).mono ?_
  rintro e w13 ⟨ad3, rfl, hS_, hB13⟩
  have hT13 := below_then hT12 hB13
  have hb013 := block_below hB13 hb012
  have hb113 := block_below hB13 hb112
  have hb213 := block_below hB13 hb212
  have ha013 := NSl.to ha012 hB13
  have ht013 := TIs.to ht012 hB13
  have ha113 := NSl.to ha112 hB13
  have ht113 := TIs.to ht112 hB13
  have ha213 := NSl.to ha212 hB13
  have ht213 := TIs.to ht212 hB13
  clear hT12 hb012 hb112 hb212 ha012 ht012 ha112 ht112 ha212 ht212 hB13
  have hS13 := hS_
  clear hS_
  go_wp2_with fail
  refine (hB.run (nsl_take1 hS13) ok10_a (by decide) (by decide) (show Row .i64 _ _ none [] from .inl rfl) rfl (by decide) (fun _ _ => trivial) _ slot10_3 _ told10_3).mono ?_
  rintro e w14 ⟨A3, c3, t3, rfl, ha3_, ht3_, hB14⟩
  have hT14 := below_then hT13 hB14
  have hb014 := block_below hB14 hb013
  have hb114 := block_below hB14 hb113
  have hb214 := block_below hB14 hb213
  have ha014 := NSl.to ha013 hB14
  have ht014 := TIs.to ht013 hB14
  have ha114 := NSl.to ha113 hB14
  have ht114 := TIs.to ht113 hB14
  have ha214 := NSl.to ha213 hB14
  have ht214 := TIs.to ht213 hB14
  have hS14 := NSl.to hS13 hB14
  clear hT13 hb013 hb113 hb213 ha013 ht013 ha113 ht113 ha213 ht213 hS13 hB14
  have ha314 := ha3_
  clear ha3_
  have ht314 := ht3_
  clear ht3_
  clear hS14
  obtain ⟨tw3, tf3, tk3, tb3⟩ := t3
  obtain rfl : tw3 = 0 := ht314.win
  obtain rfl : tk3 = false := ht314.ok
  obtain rfl : tb3 = ((L : Int) + 23) := (ht314.b).trans (by show (lenC F5 : Int) + _ = _; rw [HL.out])
  go_wp2_with fail
  obtain ⟨w15, hw15⟩ : ∃ w15, w14.alloc (.cells #[.int .i64 0, .bool tf3.x, .int .i64 tf3.i, .bool tf3.r, .int .i64 tf3.n, .slice tf3.a tf3.m tf3.c, .bool false, .int .i64 ((L : Int) + 23)] 36) = w15 := ⟨_, rfl⟩
  have hB15 : Below w14.heap.size w14 w15 := by rw [← hw15]; exact below_alloc1 _ _
  have hb315 : w15.heap[w14.heap.size]? = some (.cells #[.int .i64 0, .bool tf3.x, .int .i64 tf3.i, .bool tf3.r, .int .i64 tf3.n, .slice tf3.a tf3.m tf3.c, .bool false, .int .i64 ((L : Int) + 23)] 36) := by rw [← hw15]; exact World.alloc_heap_new _ _
  rw [hw15]
  clear hw15
  have hT15 := below_then hT14 hB15
  have hb015 := block_below hB15 hb014
  have hb115 := block_below hB15 hb114
  have hb215 := block_below hB15 hb214
  have ha015 := NSl.to ha014 hB15
  have ht015 := TIs.to ht014 hB15
  have ha115 := NSl.to ha114 hB15
  have ht115 := TIs.to ht114 hB15
  have ha215 := NSl.to ha214 hB15
  have ht215 := TIs.to ht214 hB15
  have ha315 := NSl.to ha314 hB15
  have ht315 := TIs.to ht314 hB15
  clear hT14 hb014 hb114 hb214 ha014 ht014 ha114 ht114 ha214 ht214 ha314 ht314 hB15
  refine (two_c _ (fun _ => True) (fun _ _ => trivial)).mono ?_
  rintro e w16 ⟨ad4, rfl, hS_, hB16⟩
  have hT16 := below_then hT15 hB16
  have hb016 := block_below hB16 hb015
  have hb116 := block_below hB16 hb115
  have hb216 := block_below hB16 hb215
  have hb316 := block_below hB16 hb315
  have ha016 := NSl.to ha015 hB16
  have ht016 := TIs.to ht015 hB16
  have ha116 := NSl.to ha115 hB16
  have ht116 := TIs.to ht115 hB16
  have ha216 := NSl.to ha215 hB16
  have ht216 := TIs.to ht215 hB16
  have ha316 := NSl.to ha315 hB16
  have ht316 := TIs.to ht315 hB16
  clear hT15 hb015 hb115 hb215 hb315 ha015 ht015 ha115 ht115 ha215 ht215 ha315 ht315 hB16
  have hS16 := hS_
  clear hS_
  go_wp2_with fail
  obtain ⟨w17, hw17⟩ : ∃ w_, w16.alloc (.cells #[.int .i64 0] 3) = w_ := ⟨_, rfl⟩
  have hB17 : Below w16.heap.size w16 w17 := by rw [← hw17]; exact below_alloc1 _ _
  have hR_ : Row .i64 w17 w17.heap.size (some ⟨w16.heap.size, 0, none⟩) [0] := by rw [← hw17]; have hL_ := Row.lit w16 .i64 [0] 3 rfl; simpa using hL_
  rw [hw17]
  clear hw17
  have hT17 := below_then hT16 hB17
  have hb017 := block_below hB17 hb016
  have hb117 := block_below hB17 hb116
  have hb217 := block_below hB17 hb216
  have hb317 := block_below hB17 hb316
  have ha017 := NSl.to ha016 hB17
  have ht017 := TIs.to ht016 hB17
  have ha117 := NSl.to ha116 hB17
  have ht117 := TIs.to ht116 hB17
  have ha217 := NSl.to ha216 hB17
  have ht217 := TIs.to ht216 hB17
  have ha317 := NSl.to ha316 hB17
  have ht317 := TIs.to ht316 hB17
  have hS17 := NSl.to hS16 hB17
  clear hT16 hb016 hb116 hb216 hb316 ha016 ht016 ha116 ht116 ha216 ht216 ha316 ht316 hS16 hB17
  have hR17 := hR_
  clear hR_
  refine (hB.run (nsl_drop1 hS17) ok10_b (by decide) (by decide) hR17 rfl (by decide) (fun _ _ => trivial) _ slot10_4 _ told10_4).mono ?_
  rintro e w18 ⟨A4, c4, t4, rfl, ha4_, ht4_, hB18⟩
  have hT18 := below_then hT17 hB18
  have hb018 := block_below hB18 hb017
  have hb118 := block_below hB18 hb117
  have hb218 := block_below hB18 hb217
  have hb318 := block_below hB18 hb317
  have ha018 := NSl.to ha017 hB18
  have ht018 := TIs.to ht017 hB18
  have ha118 := NSl.to ha117 hB18
  have ht118 := TIs.to ht117 hB18
  have ha218 := NSl.to ha217 hB18
  have ht218 := TIs.to ht217 hB18
  have ha318 := NSl.to ha317 hB18
  have ht318 := TIs.to ht317 hB18
  have hS18 := NSl.to hS17 hB18
  have hR18 := Row.to hR17 hB18
  clear hT17 hb017 hb117 hb217 hb317 ha017 ht017 ha117 ht117 ha217 ht217 ha317 ht317 hS17 hR17 hB18
  have ha418 := ha4_
  clear ha4_
  have ht418 := ht4_
  clear ht4_
  clear hS18
  clear hR18
  obtain ⟨tw4, tf4, tk4, tb4⟩ := t4
  obtain rfl : tw4 = -1 := ht418.win
  obtain rfl : tk4 = false := ht418.ok
  obtain rfl : tb4 = 11 := ht418.b
  go_wp2_with fail
  obtain ⟨w19, hw19⟩ : ∃ w19, w18.alloc (.cells #[.int .i64 (-1), .bool tf4.x, .int .i64 tf4.i, .bool tf4.r, .int .i64 tf4.n, .slice tf4.a tf4.m tf4.c, .bool false, .int .i64 11] 36) = w19 := ⟨_, rfl⟩
  have hB19 : Below w18.heap.size w18 w19 := by rw [← hw19]; exact below_alloc1 _ _
  have hb419 : w19.heap[w18.heap.size]? = some (.cells #[.int .i64 (-1), .bool tf4.x, .int .i64 tf4.i, .bool tf4.r, .int .i64 tf4.n, .slice tf4.a tf4.m tf4.c, .bool false, .int .i64 11] 36) := by rw [← hw19]; exact World.alloc_heap_new _ _
  rw [hw19]
  clear hw19
  have hT19 := below_then hT18 hB19
  have hb019 := block_below hB19 hb018
  have hb119 := block_below hB19 hb118
  have hb219 := block_below hB19 hb218
  have hb319 := block_below hB19 hb318
  have ha019 := NSl.to ha018 hB19
  have ht019 := TIs.to ht018 hB19
  have ha119 := NSl.to ha118 hB19
  have ht119 := TIs.to ht118 hB19
  have ha219 := NSl.to ha218 hB19
  have ht219 := TIs.to ht218 hB19
  have ha319 := NSl.to ha318 hB19
  have ht319 := TIs.to ht318 hB19
  have ha419 := NSl.to ha418 hB19
  have ht419 := TIs.to ht418 hB19
  clear hT18 hb018 hb118 hb218 hb318 ha018 ht018 ha118 ht118 ha218 ht218 ha318 ht318 ha418 ht418 hB19
  go_cut [12, 13] from 51 to 56 (fun o r wc => ∃ (A B : Option Addr) (c' d : Nat), o = .slice A 2 c' ∧ r = .slice B 2 d ∧ NSl wc (fun _ => True) A 2 c' [⟨[], [], newV, []⟩, ⟨[], [], newV, [F5]⟩] ∧ TSl wc (fun _ => True) B 2 d [⟨0, F5, true, lenZ F5 + 3⟩, ⟨-1, zeroF, false, 11⟩] ∧ Below w19.heap.size w19 wc)
  case first =>
    refine wp_region_held_drew (S := (fun _ => True)) (by kernel_rfl) (by trivial) (fun hHeld_ => ?_)
    refine wpAnyH_ready (rs := [0, 1]) (by kernel_rfl) (by simp) ?_
    refine (AllReadyH.cons rfl (fun K_ hK_ => ?_) (AllReadyH.cons rfl (fun K_ hK_ => ?_) AllReadyH.nil))
    · go_simp
      refine (two_c _ (fun _ => True) (fun _ _ => trivial)).mono ?_
      rintro e wr0 ⟨ad7, rfl, hS7_, hBr0⟩
      go_wp2_with fail
      refine hK_.out _ _ (by trivial) (fun hHeld_0_0 => ?_)
      clear hK_
      try simp only [Act.put, siA, scZ, scS]
      refine wpAnyH_ready (rs := [1]) (by kernel_rfl) (by simp) ?_
      refine (AllReadyH.cons rfl (fun K_ hK_ => ?_) AllReadyH.nil)
      go_simp
      go_wp2_with fail
      refine hK_.out _ _ (by trivial) (fun hHeld_1_1 => ?_)
      clear hK_
      try simp only [Act.put, siA, scZ, scS]
      refine wpAnyH_ready (rs := [2]) (by kernel_rfl) (by simp) ?_
      refine (AllReadyH.cons rfl (fun K_ hK_ => ?_) AllReadyH.nil)
      go_simp
      refine (hBs.run (hS7_.to (below_alloc1 _ _)) ok10_5 (by decide) (by decide) (hsl_make2 _) (by decide) (by decide) (fun _ _ => trivial)).mono ?_
      rintro e wr2 ⟨A7, B7, c7, d7, rfl, ho7_, hr7_, hBr2⟩
      go_wp2_with fail
      refine hK_.out _ _ (by trivial) (fun hHeld_2_2 => ?_)
      clear hK_
      try simp only [Act.put, siA, scZ, scS]
      refine wpAnyH_take' (i := 3) (v := ?v3_3_0_1_2) 51 rfl rfl (by kernel_rfl) (by kernel_rfl) (by kernel_rfl) (fun _ _ _ h => h) (Or.inl ⟨by kernel_rfl, ?hy3_3_0_1_2⟩) (by assumption) ?rest3_3_0_1_2
      case hy3_3_0_1_2 => (intro W_ hS_; (try dsimp only at hS_); go_simp; (try (with_reducible rfl)))
      try simp only [Act.put, siA, scZ, scS]
      refine wpAnyH_take' (i := 4) (v := ?v4_3_0_1_2) 55 rfl rfl (by kernel_rfl) (by kernel_rfl) (by kernel_rfl) (fun _ _ _ h => h) (Or.inl ⟨by kernel_rfl, ?hy4_3_0_1_2⟩) (by assumption) ?rest4_3_0_1_2
      case hy4_3_0_1_2 => (intro W_ hS_; (try dsimp only at hS_); go_simp; (try (with_reducible rfl)))
      try simp only [Act.put, siA, scZ, scS]
      refine wpAnyH_take' (i := 5) (v := ?v5_3_0_1_2) 56 rfl rfl (by kernel_rfl) (by kernel_rfl) (by kernel_rfl) (fun _ _ _ h => h) (Or.inl ⟨by kernel_rfl, ?hy5_3_0_1_2⟩) (by assumption) ?rest5_3_0_1_2
      case hy5_3_0_1_2 => (intro W_ hS_; (try dsimp only at hS_); go_simp; (try (with_reducible rfl)))
      try simp only [Act.put, siA, scZ, scS]
      refine wpAnyH_take' (i := 6) (v := ?v6_3_0_1_2) 12 rfl rfl (by kernel_rfl) (by kernel_rfl) (by kernel_rfl) (fun _ _ _ h => h) (Or.inl ⟨by kernel_rfl, ?hy6_3_0_1_2⟩) (by assumption) ?rest6_3_0_1_2
      case hy6_3_0_1_2 => (intro W_ hS_; (try dsimp only at hS_); go_simp; (try (with_reducible rfl)))
      try simp only [Act.put, siA, scZ, scS]
      refine wpAnyH_take' (i := 7) (v := ?v7_3_0_1_2) 13 rfl rfl (by kernel_rfl) (by kernel_rfl) (by kernel_rfl) (fun _ _ _ h => h) (Or.inl ⟨by kernel_rfl, ?hy7_3_0_1_2⟩) (by assumption) ?rest7_3_0_1_2
      case hy7_3_0_1_2 => (intro W_ hS_; (try dsimp only at hS_); go_simp; (try (with_reducible rfl)))
      try simp only [Act.put, siA, scZ, scS]
      refine wpAnyH_done (by kernel_rfl) ?_ _
      go_wp2_with fail
      go_meet
      exact ⟨A7, B7, c7, d7, rfl, rfl, slots10 ▸ ho7_, tolds10 ▸ hr7_, (below_then (below_then (below_then (below_drew1 _) hBr0) (below_alloc1 _ _)) hBr2)⟩
    · go_simp
      go_wp2_with fail
      refine hK_.out _ _ (by trivial) (fun hHeld_1_0 => ?_)
      clear hK_
      try simp only [Act.put, siA, scZ, scS]
      refine wpAnyH_ready (rs := [0]) (by kernel_rfl) (by simp) ?_
      refine (AllReadyH.cons rfl (fun K_ hK_ => ?_) AllReadyH.nil)
      go_simp
      refine (two_c _ (fun _ => True) (fun _ _ => trivial)).mono ?_
      rintro e wr0 ⟨ad7, rfl, hS7_, hBr0⟩
      go_wp2_with fail
      refine hK_.out _ _ (by trivial) (fun hHeld_0_1 => ?_)
      clear hK_
      try simp only [Act.put, siA, scZ, scS]
      refine wpAnyH_ready (rs := [2]) (by kernel_rfl) (by simp) ?_
      refine (AllReadyH.cons rfl (fun K_ hK_ => ?_) AllReadyH.nil)
      go_simp
      refine (hBs.run hS7_ ok10_5 (by decide) (by decide) (((hsl_make2 _).to (below_drew1 _)).to hBr0) (by decide) (by decide) (fun _ _ => trivial)).mono ?_
      rintro e wr2 ⟨A7, B7, c7, d7, rfl, ho7_, hr7_, hBr2⟩
      go_wp2_with fail
      refine hK_.out _ _ (by trivial) (fun hHeld_2_2 => ?_)
      clear hK_
      try simp only [Act.put, siA, scZ, scS]
      refine wpAnyH_take' (i := 3) (v := ?v3_3_1_0_2) 51 rfl rfl (by kernel_rfl) (by kernel_rfl) (by kernel_rfl) (fun _ _ _ h => h) (Or.inl ⟨by kernel_rfl, ?hy3_3_1_0_2⟩) (by assumption) ?rest3_3_1_0_2
      case hy3_3_1_0_2 => (intro W_ hS_; (try dsimp only at hS_); go_simp; (try (with_reducible rfl)))
      try simp only [Act.put, siA, scZ, scS]
      refine wpAnyH_take' (i := 4) (v := ?v4_3_1_0_2) 55 rfl rfl (by kernel_rfl) (by kernel_rfl) (by kernel_rfl) (fun _ _ _ h => h) (Or.inl ⟨by kernel_rfl, ?hy4_3_1_0_2⟩) (by assumption) ?rest4_3_1_0_2
      case hy4_3_1_0_2 => (intro W_ hS_; (try dsimp only at hS_); go_simp; (try (with_reducible rfl)))
      try simp only [Act.put, siA, scZ, scS]
      refine wpAnyH_take' (i := 5) (v := ?v5_3_1_0_2) 56 rfl rfl (by kernel_rfl) (by kernel_rfl) (by kernel_rfl) (fun _ _ _ h => h) (Or.inl ⟨by kernel_rfl, ?hy5_3_1_0_2⟩) (by assumption) ?rest5_3_1_0_2
      case hy5_3_1_0_2 => (intro W_ hS_; (try dsimp only at hS_); go_simp; (try (with_reducible rfl)))
      try simp only [Act.put, siA, scZ, scS]
      refine wpAnyH_take' (i := 6) (v := ?v6_3_1_0_2) 12 rfl rfl (by kernel_rfl) (by kernel_rfl) (by kernel_rfl) (fun _ _ _ h => h) (Or.inl ⟨by kernel_rfl, ?hy6_3_1_0_2⟩) (by assumption) ?rest6_3_1_0_2
      case hy6_3_1_0_2 => (intro W_ hS_; (try dsimp only at hS_); go_simp; (try (with_reducible rfl)))
      try simp only [Act.put, siA, scZ, scS]
      refine wpAnyH_take' (i := 7) (v := ?v7_3_1_0_2) 13 rfl rfl (by kernel_rfl) (by kernel_rfl) (by kernel_rfl) (fun _ _ _ h => h) (Or.inl ⟨by kernel_rfl, ?hy7_3_1_0_2⟩) (by assumption) ?rest7_3_1_0_2
      case hy7_3_1_0_2 => (intro W_ hS_; (try dsimp only at hS_); go_simp; (try (with_reducible rfl)))
      try simp only [Act.put, siA, scZ, scS]
      refine wpAnyH_done (by kernel_rfl) ?_ _
      go_wp2_with fail
      go_meet
      exact ⟨A7, B7, c7, d7, rfl, rfl, slots10 ▸ ho7_, tolds10 ▸ hr7_, (below_then (below_then (below_then (below_alloc1 _ _) (below_drew1 _)) hBr0) hBr2)⟩
  case rest =>
  obtain ⟨A7, B7, c7, d7, rfl, rfl, ho7_, hr7_, hB20⟩ := hcut
  obtain ⟨w20, e_⟩ : ∃ w_, w_ = wc := ⟨_, rfl⟩
  subst e_
  have hT20 := below_then hT19 hB20
  have hb020 := block_below hB20 hb019
  have hb120 := block_below hB20 hb119
  have hb220 := block_below hB20 hb219
  have hb320 := block_below hB20 hb319
  have hb420 := block_below hB20 hb419
  have ha020 := NSl.to ha019 hB20
  have ht020 := TIs.to ht019 hB20
  have ha120 := NSl.to ha119 hB20
  have ht120 := TIs.to ht119 hB20
  have ha220 := NSl.to ha219 hB20
  have ht220 := TIs.to ht219 hB20
  have ha320 := NSl.to ha319 hB20
  have ht320 := TIs.to ht319 hB20
  have ha420 := NSl.to ha419 hB20
  have ht420 := TIs.to ht419 hB20
  clear hT19 hb019 hb119 hb219 hb319 hb419 ha019 ht019 ha119 ht119 ha219 ht219 ha319 ht319 ha419 ht419 hB20
  have ho20 := ho7_
  have hr20 := hr7_
  clear ho7_ hr7_
  obtain ⟨ze0, xe0, ea_, hce0, hne0_⟩ := NSl.at_ ha020 (k := 0) (by decide)
  subst ea_
  have hne0 : NIs w20 (fun _ => True) xe0 ⟨[], [], newV, []⟩ := hne0_
  clear hne0_
  obtain ⟨qae0, qme0, qce0, lae0, lme0, lce0, ⟨kte0, kre0, kse0, kqe0⟩, gae0, gme0, gce0⟩ := xe0
  dsimp only [NAt] at hce0
  obtain rfl : qme0 = 0 := hne0.q.len.symm
  obtain rfl : gme0 = 0 := hne0.g.len.symm
  obtain rfl : kte0 = 0 := congrArg CV.t hne0.k
  obtain rfl : kre0 = 0 := congrArg CV.r hne0.k
  obtain rfl : kse0 = 1 := congrArg CV.s hne0.k
  obtain rfl : kqe0 = 0 := congrArg CV.q hne0.k
  obtain ⟨ze1, xe1, ea_, hce1, hne1_⟩ := NSl.at_ ha020 (k := 1) (by decide)
  obtain rfl : ze0 = ze1 := Option.some.inj ea_
  clear ea_
  have hne1 : NIs w20 (fun _ => True) xe1 ⟨[], [], newV, [F5]⟩ := hne1_
  clear hne1_
  obtain ⟨qae1, qme1, qce1, lae1, lme1, lce1, ⟨kte1, kre1, kse1, kqe1⟩, gae1, gme1, gce1⟩ := xe1
  dsimp only [NAt] at hce1
  obtain rfl : qme1 = 0 := hne1.q.len.symm
  obtain rfl : gme1 = 1 := hne1.g.len.symm
  obtain rfl : kte1 = 0 := congrArg CV.t hne1.k
  obtain rfl : kre1 = 0 := congrArg CV.r hne1.k
  obtain rfl : kse1 = 1 := congrArg CV.s hne1.k
  obtain rfl : kqe1 = 0 := congrArg CV.q hne1.k
  obtain ⟨ze2, xe2, ea_, hce2, hne2_⟩ := NSl.at_ ha120 (k := 0) (by decide)
  subst ea_
  have hne2 : NIs w20 (fun _ => True) xe2 ⟨[F5], [], ⟨8, 0, 1, 0⟩, []⟩ := hne2_
  clear hne2_
  obtain ⟨qae2, qme2, qce2, lae2, lme2, lce2, ⟨kte2, kre2, kse2, kqe2⟩, gae2, gme2, gce2⟩ := xe2
  dsimp only [NAt] at hce2
  obtain rfl : qme2 = 1 := hne2.q.len.symm
  obtain rfl : gme2 = 0 := hne2.g.len.symm
  obtain rfl : kte2 = 8 := congrArg CV.t hne2.k
  obtain rfl : kre2 = 0 := congrArg CV.r hne2.k
  obtain rfl : kse2 = 1 := congrArg CV.s hne2.k
  obtain rfl : kqe2 = 0 := congrArg CV.q hne2.k
  obtain ⟨ze3, xe3, ea_, hce3, hne3_⟩ := NSl.at_ ha120 (k := 1) (by decide)
  obtain rfl : ze2 = ze3 := Option.some.inj ea_
  clear ea_
  have hne3 : NIs w20 (fun _ => True) xe3 ⟨[], [], ⟨0, 1, 1, 0⟩, []⟩ := hne3_
  clear hne3_
  obtain ⟨qae3, qme3, qce3, lae3, lme3, lce3, ⟨kte3, kre3, kse3, kqe3⟩, gae3, gme3, gce3⟩ := xe3
  dsimp only [NAt] at hce3
  obtain rfl : qme3 = 0 := hne3.q.len.symm
  obtain rfl : gme3 = 0 := hne3.g.len.symm
  obtain rfl : kte3 = 0 := congrArg CV.t hne3.k
  obtain rfl : kre3 = 1 := congrArg CV.r hne3.k
  obtain rfl : kse3 = 1 := congrArg CV.s hne3.k
  obtain rfl : kqe3 = 0 := congrArg CV.q hne3.k
  obtain ⟨ze4, xe4, ea_, hce4, hne4_⟩ := NSl.at_ ha220 (k := 0) (by decide)
  subst ea_
  have hne4 : NIs w20 (fun _ => True) xe4 ⟨[F5], [], ⟨8, 0, 1, 0⟩, []⟩ := hne4_
  clear hne4_
  obtain ⟨qae4, qme4, qce4, lae4, lme4, lce4, ⟨kte4, kre4, kse4, kqe4⟩, gae4, gme4, gce4⟩ := xe4
  dsimp only [NAt] at hce4
  obtain rfl : qme4 = 1 := hne4.q.len.symm
  obtain rfl : gme4 = 0 := hne4.g.len.symm
  obtain rfl : kte4 = 8 := congrArg CV.t hne4.k
  obtain rfl : kre4 = 0 := congrArg CV.r hne4.k
  obtain rfl : kse4 = 1 := congrArg CV.s hne4.k
  obtain rfl : kqe4 = 0 := congrArg CV.q hne4.k
  obtain ⟨ze5, xe5, ea_, hce5, hne5_⟩ := NSl.at_ ha220 (k := 1) (by decide)
  obtain rfl : ze4 = ze5 := Option.some.inj ea_
  clear ea_
  have hne5 : NIs w20 (fun _ => True) xe5 ⟨[], [], ⟨0, 8, 1, 0⟩, []⟩ := hne5_
  clear hne5_
  obtain ⟨qae5, qme5, qce5, lae5, lme5, lce5, ⟨kte5, kre5, kse5, kqe5⟩, gae5, gme5, gce5⟩ := xe5
  dsimp only [NAt] at hce5
  obtain rfl : qme5 = 0 := hne5.q.len.symm
  obtain rfl : gme5 = 0 := hne5.g.len.symm
  obtain rfl : kte5 = 0 := congrArg CV.t hne5.k
  obtain rfl : kre5 = 8 := congrArg CV.r hne5.k
  obtain rfl : kse5 = 1 := congrArg CV.s hne5.k
  obtain rfl : kqe5 = 0 := congrArg CV.q hne5.k
  obtain ⟨ze6, xe6, ea_, hce6, hne6_⟩ := NSl.at_ ha320 (k := 0) (by decide)
  subst ea_
  have hne6 : NIs w20 (fun _ => True) xe6 ⟨[F5], [], ⟨8, 0, 1, 0⟩, []⟩ := hne6_
  clear hne6_
  obtain ⟨qae6, qme6, qce6, lae6, lme6, lce6, ⟨kte6, kre6, kse6, kqe6⟩, gae6, gme6, gce6⟩ := xe6
  dsimp only [NAt] at hce6
  obtain rfl : qme6 = 1 := hne6.q.len.symm
  obtain rfl : gme6 = 0 := hne6.g.len.symm
  obtain rfl : kte6 = 8 := congrArg CV.t hne6.k
  obtain rfl : kre6 = 0 := congrArg CV.r hne6.k
  obtain rfl : kse6 = 1 := congrArg CV.s hne6.k
  obtain rfl : kqe6 = 0 := congrArg CV.q hne6.k
  obtain ⟨ze7, xe7, ea_, hce7, hne7_⟩ := NSl.at_ ha420 (k := 0) (by decide)
  subst ea_
  have hne7 : NIs w20 (fun _ => True) xe7 ⟨[], [], newV, []⟩ := hne7_
  clear hne7_
  obtain ⟨qae7, qme7, qce7, lae7, lme7, lce7, ⟨kte7, kre7, kse7, kqe7⟩, gae7, gme7, gce7⟩ := xe7
  dsimp only [NAt] at hce7
  obtain rfl : qme7 = 0 := hne7.q.len.symm
  obtain rfl : gme7 = 0 := hne7.g.len.symm
  obtain rfl : kte7 = 0 := congrArg CV.t hne7.k
  obtain rfl : kre7 = 0 := congrArg CV.r hne7.k
  obtain rfl : kse7 = 1 := congrArg CV.s hne7.k
  obtain rfl : kqe7 = 0 := congrArg CV.q hne7.k
  obtain ⟨ze8, xe8, ea_, hce8, hne8_⟩ := NSl.at_ ho20 (k := 1) (by decide)
  subst ea_
  have hne8 : NIs w20 (fun _ => True) xe8 ⟨[], [], newV, [F5]⟩ := hne8_
  clear hne8_
  obtain ⟨qae8, qme8, qce8, lae8, lme8, lce8, ⟨kte8, kre8, kse8, kqe8⟩, gae8, gme8, gce8⟩ := xe8
  dsimp only [NAt] at hce8
  obtain rfl : qme8 = 0 := hne8.q.len.symm
  obtain rfl : gme8 = 1 := hne8.g.len.symm
  obtain rfl : kte8 = 0 := congrArg CV.t hne8.k
  obtain rfl : kre8 = 0 := congrArg CV.r hne8.k
  obtain rfl : kse8 = 1 := congrArg CV.s hne8.k
  obtain rfl : kqe8 = 0 := congrArg CV.q hne8.k
  obtain ⟨zf0, xf0, ea_, hcf0, hnf0_⟩ := TSl.at_ hr20 (k := 0) (by decide)
  subst ea_
  have hnf0 : TIs w20 (fun _ => True) xf0 ⟨0, F5, true, lenZ F5 + 3⟩ := hnf0_
  clear hnf0_
  obtain ⟨wf0, fff0, kf0, bf0⟩ := xf0
  dsimp only [TAt] at hcf0
  obtain rfl : wf0 = 0 := hnf0.win
  obtain rfl : kf0 = true := hnf0.ok
  obtain ⟨zf1, xf1, ea_, hcf1, hnf1_⟩ := TSl.at_ hr20 (k := 1) (by decide)
  obtain rfl : zf0 = zf1 := Option.some.inj ea_
  clear ea_
  have hnf1 : TIs w20 (fun _ => True) xf1 ⟨-1, zeroF, false, 11⟩ := hnf1_
  clear hnf1_
  obtain ⟨wf1, fff1, kf1, bf1⟩ := xf1
  dsimp only [TAt] at hcf1
  obtain rfl : wf1 = -1 := hnf1.win
  obtain rfl : kf1 = false := hnf1.ok
  have s0_0 : w20.cell? (⟨w3.heap.size, 0, none⟩) = some (.int .i64 0) := (cells8' hb020).1
  have s0_1 : w20.cell? (⟨w3.heap.size, 1, none⟩) = some (.bool tf0.x) := (cells8' hb020).2.1
  have s0_2 : w20.cell? (⟨w3.heap.size, 2, none⟩) = some (.int .i64 tf0.i) := (cells8' hb020).2.2.1
  have s0_3 : w20.cell? (⟨w3.heap.size, 3, none⟩) = some (.bool tf0.r) := (cells8' hb020).2.2.2.1
  have s0_4 : w20.cell? (⟨w3.heap.size, 4, none⟩) = some (.int .i64 tf0.n) := (cells8' hb020).2.2.2.2.1
  have s0_5 : w20.cell? (⟨w3.heap.size, 5, none⟩) = some (.slice tf0.a tf0.m tf0.c) := (cells8' hb020).2.2.2.2.2.1
  have s0_6 : w20.cell? (⟨w3.heap.size, 6, none⟩) = some (.bool true) := (cells8' hb020).2.2.2.2.2.2.1
  have s0_7 : w20.cell? (⟨w3.heap.size, 7, none⟩) = some (.int .i64 ((L : Int) + 3)) := (cells8' hb020).2.2.2.2.2.2.2
  have s1_6 : w20.cell? (⟨w7.heap.size, 6, none⟩) = some (.bool false) := (cells8' hb120).2.2.2.2.2.2.1
  have s1_7 : w20.cell? (⟨w7.heap.size, 7, none⟩) = some (.int .i64 ((L : Int) + 23)) := (cells8' hb120).2.2.2.2.2.2.2
  have s2_6 : w20.cell? (⟨w11.heap.size, 6, none⟩) = some (.bool false) := (cells8' hb220).2.2.2.2.2.2.1
  have s3_0 : w20.cell? (⟨w14.heap.size, 0, none⟩) = some (.int .i64 0) := (cells8' hb320).1
  have s3_6 : w20.cell? (⟨w14.heap.size, 6, none⟩) = some (.bool false) := (cells8' hb320).2.2.2.2.2.2.1
  have s4_0 : w20.cell? (⟨w18.heap.size, 0, none⟩) = some (.int .i64 (-1)) := (cells8' hb420).1
  have s4_6 : w20.cell? (⟨w18.heap.size, 6, none⟩) = some (.bool false) := (cells8' hb420).2.2.2.2.2.2.1
  have s4_7 : w20.cell? (⟨w18.heap.size, 7, none⟩) = some (.int .i64 11) := (cells8' hb420).2.2.2.2.2.2.2
  have se0_0 : w20.cell? (ze0) = some (.slice qae0 0 qce0) := (by have h_ := hce0.1; simpa [Addr.add] using h_)
  have se1_6 : w20.cell? (⟨ze0.block, ze0.off + 13, none⟩) = some (.slice gae1 1 gce1) := (by have h_ := hce1.2.2.2.2.2.2; simpa [Addr.add] using h_)
  have se2_2 : w20.cell? (⟨ze2.block, ze2.off + 2, none⟩) = some (.int .i64 8) := (by have h_ := hce2.2.2.1; simpa [Addr.add] using h_)
  have se3_3 : w20.cell? (⟨ze2.block, ze2.off + 10, none⟩) = some (.int .i64 1) := (by have h_ := hce3.2.2.2.1; simpa [Addr.add] using h_)
  have se2_0 : w20.cell? (ze2) = some (.slice qae2 1 qce2) := (by have h_ := hce2.1; simpa [Addr.add] using h_)
  have se4_2 : w20.cell? (⟨ze4.block, ze4.off + 2, none⟩) = some (.int .i64 8) := (by have h_ := hce4.2.2.1; simpa [Addr.add] using h_)
  have se5_3 : w20.cell? (⟨ze4.block, ze4.off + 10, none⟩) = some (.int .i64 8) := (by have h_ := hce5.2.2.2.1; simpa [Addr.add] using h_)
  have se6_2 : w20.cell? (⟨ze6.block, ze6.off + 2, none⟩) = some (.int .i64 8) := (by have h_ := hce6.2.2.1; simpa [Addr.add] using h_)
  have se7_2 : w20.cell? (⟨ze7.block, ze7.off + 2, none⟩) = some (.int .i64 0) := (by have h_ := hce7.2.2.1; simpa [Addr.add] using h_)
  have se7_3 : w20.cell? (⟨ze7.block, ze7.off + 3, none⟩) = some (.int .i64 0) := (by have h_ := hce7.2.2.2.1; simpa [Addr.add] using h_)
  have se7_4 : w20.cell? (⟨ze7.block, ze7.off + 4, none⟩) = some (.int .i64 1) := (by have h_ := hce7.2.2.2.2.1; simpa [Addr.add] using h_)
  have se7_5 : w20.cell? (⟨ze7.block, ze7.off + 5, none⟩) = some (.int .i64 0) := (by have h_ := hce7.2.2.2.2.2.1; simpa [Addr.add] using h_)
  have sf0_6 : w20.cell? (⟨zf0.block, zf0.off + 6, none⟩) = some (.bool true) := (by have h_ := hcf0.2.2.2.2.2.2.1; simpa [Addr.add] using h_)
  have sf1_0 : w20.cell? (⟨zf0.block, zf0.off + 8, none⟩) = some (.int .i64 (-1)) := (by have h_ := hcf1.1; simpa [Addr.add] using h_)
  have se8_6 : w20.cell? (⟨ze8.block, ze8.off + 13, none⟩) = some (.slice gae8 1 gce8) := (by have h_ := hce8.2.2.2.2.2.2; simpa [Addr.add] using h_)
  have u1 : FIs w20 (fun _ => True) tf0 F5 := ht020.f
  have u2 : FSl w20 (fun _ => True) gae1 1 gce1 [F5] := hne1.g
  have HT := hT20
  clear hce0 hce1 hce2 hce3 hce4 hce5 hce6 hce7 hce8 hcf0 hcf1 hne0 hne1 hne2 hne3 hne4 hne5 hne6 hne7 hne8 hnf0 hnf1 ha020 ha120 ha220 ha320 ha420 ho20 hr20 ht020 ht120 ht220 ht320 ht420 hb020 hb120 hb220 hb320 hb420
  have q5 : sameC ⟨0, 0, 1, 0⟩ ⟨0, 0, 1, 0⟩ = true := by decide +kernel
  go_upto_if 89 with fail
  iterate 4 (first | go_values | go_skip | go_guarded | go_step | go_upon | go_back)
  simp only [List.append]
  go_upto_region 10 with fail
  refine region_let ?_
  intro l10
  have hns : Region.noSelect l10.toArray = true := by kernel_rfl
  have hall : allFree .any l10.toArray = true := by kernel_rfl
  refine wp_region_held_drew (S := (fun W => W.cell? (⟨w3.heap.size, 0, none⟩) = some (.int .i64 0) ∧ W.cell? (⟨w3.heap.size, 1, none⟩) = some (.bool tf0.x) ∧ W.cell? (⟨w3.heap.size, 2, none⟩) = some (.int .i64 tf0.i) ∧ W.cell? (⟨w3.heap.size, 3, none⟩) = some (.bool tf0.r) ∧ W.cell? (⟨w3.heap.size, 4, none⟩) = some (.int .i64 tf0.n) ∧ W.cell? (⟨w3.heap.size, 5, none⟩) = some (.slice tf0.a tf0.m tf0.c) ∧ W.cell? (⟨w3.heap.size, 6, none⟩) = some (.bool true) ∧ W.cell? (⟨w3.heap.size, 7, none⟩) = some (.int .i64 ((L : Int) + 3)) ∧ W.cell? (⟨w7.heap.size, 6, none⟩) = some (.bool false) ∧ W.cell? (⟨w7.heap.size, 7, none⟩) = some (.int .i64 ((L : Int) + 23)) ∧ W.cell? (⟨w11.heap.size, 6, none⟩) = some (.bool false) ∧ W.cell? (⟨w14.heap.size, 0, none⟩) = some (.int .i64 0) ∧ W.cell? (⟨w14.heap.size, 6, none⟩) = some (.bool false) ∧ W.cell? (⟨w18.heap.size, 0, none⟩) = some (.int .i64 (-1)) ∧ W.cell? (⟨w18.heap.size, 6, none⟩) = some (.bool false) ∧ W.cell? (⟨w18.heap.size, 7, none⟩) = some (.int .i64 11) ∧ W.cell? (ze0) = some (.slice qae0 0 qce0) ∧ W.cell? (⟨ze0.block, ze0.off + 13, none⟩) = some (.slice gae1 1 gce1) ∧ W.cell? (⟨ze2.block, ze2.off + 2, none⟩) = some (.int .i64 8) ∧ W.cell? (⟨ze2.block, ze2.off + 10, none⟩) = some (.int .i64 1) ∧ W.cell? (ze2) = some (.slice qae2 1 qce2) ∧ W.cell? (⟨ze4.block, ze4.off + 2, none⟩) = some (.int .i64 8) ∧ W.cell? (⟨ze4.block, ze4.off + 10, none⟩) = some (.int .i64 8) ∧ W.cell? (⟨ze6.block, ze6.off + 2, none⟩) = some (.int .i64 8) ∧ W.cell? (⟨ze7.block, ze7.off + 2, none⟩) = some (.int .i64 0) ∧ W.cell? (⟨ze7.block, ze7.off + 3, none⟩) = some (.int .i64 0) ∧ W.cell? (⟨ze7.block, ze7.off + 4, none⟩) = some (.int .i64 1) ∧ W.cell? (⟨ze7.block, ze7.off + 5, none⟩) = some (.int .i64 0) ∧ W.cell? (⟨zf0.block, zf0.off + 6, none⟩) = some (.bool true) ∧ W.cell? (⟨zf0.block, zf0.off + 8, none⟩) = some (.int .i64 (-1)) ∧ W.cell? (⟨ze8.block, ze8.off + 13, none⟩) = some (.slice gae8 1 gce8))) (by kernel_rfl) (by exact ⟨(hcell_to s0_0 (below_drew1 _)), (hcell_to s0_1 (below_drew1 _)), (hcell_to s0_2 (below_drew1 _)), (hcell_to s0_3 (below_drew1 _)), (hcell_to s0_4 (below_drew1 _)), (hcell_to s0_5 (below_drew1 _)), (hcell_to s0_6 (below_drew1 _)), (hcell_to s0_7 (below_drew1 _)), (hcell_to s1_6 (below_drew1 _)), (hcell_to s1_7 (below_drew1 _)), (hcell_to s2_6 (below_drew1 _)), (hcell_to s3_0 (below_drew1 _)), (hcell_to s3_6 (below_drew1 _)), (hcell_to s4_0 (below_drew1 _)), (hcell_to s4_6 (below_drew1 _)), (hcell_to s4_7 (below_drew1 _)), (hcell_to se0_0 (below_drew1 _)), (hcell_to se1_6 (below_drew1 _)), (hcell_to se2_2 (below_drew1 _)), (hcell_to se3_3 (below_drew1 _)), (hcell_to se2_0 (below_drew1 _)), (hcell_to se4_2 (below_drew1 _)), (hcell_to se5_3 (below_drew1 _)), (hcell_to se6_2 (below_drew1 _)), (hcell_to se7_2 (below_drew1 _)), (hcell_to se7_3 (below_drew1 _)), (hcell_to se7_4 (below_drew1 _)), (hcell_to se7_5 (below_drew1 _)), (hcell_to sf0_6 (below_drew1 _)), (hcell_to sf1_0 (below_drew1 _)), (hcell_to se8_6 (below_drew1 _))⟩) (fun hHeld_ => ?_)
  refine wpAnyH_takeL (i := 0) (v := ?v0_z) 90 hns hall (op_at10 rfl) rfl (by kernel_rfl) (by kernel_rfl) (fun _ _ _ h => h) (Or.inl ⟨by kernel_rfl, ?hy0_z⟩) (by assumption) ?rest0_z
  case hy0_z => (intro W_ hS_; (try dsimp only at hS_); go_simp; (try (with_reducible rfl)))
  try simp only [Act.put, siA, scZ, scS]
  refine wpAnyH_takeL (i := 1) (v := ?v1_z) 91 hns hall (op_at10 rfl) rfl (by kernel_rfl) (by kernel_rfl) (fun _ _ _ h => h) (Or.inl ⟨by kernel_rfl, ?hy1_z⟩) (by assumption) ?rest1_z
  case hy1_z => (intro W_ hS_; (try dsimp only at hS_); go_simp; (try (with_reducible rfl)))
  try simp only [Act.put, siA, scZ, scS]
  refine wpAnyH_takeL (i := 2) (v := ?v2_z) 92 hns hall (op_at10 rfl) rfl (by kernel_rfl) (by kernel_rfl) (fun _ _ _ h => h) (Or.inl ⟨by kernel_rfl, ?hy2_z⟩) (by assumption) ?rest2_z
  case hy2_z => (intro W_ hS_; (try dsimp only at hS_); go_simp; (try (with_reducible rfl)))
  try simp only [Act.put, siA, scZ, scS]
  refine wpAnyH_takeL (i := 3) (v := ?v3_z) 93 hns hall (op_at10 rfl) rfl (by kernel_rfl) (by kernel_rfl) (fun _ _ _ h => h) (Or.inl ⟨by kernel_rfl, ?hy3_z⟩) (by assumption) ?rest3_z
  case hy3_z => (intro W_ hS_; (try dsimp only at hS_); go_simp; (try (with_reducible rfl)))
  try simp only [Act.put, siA, scZ, scS]
  refine wpAnyH_takeL (i := 4) (v := ?v4_z) 94 hns hall (op_at10 rfl) rfl (by kernel_rfl) (by kernel_rfl) (fun _ _ _ h => h) (Or.inl ⟨by kernel_rfl, ?hy4_z⟩) (by assumption) ?rest4_z
  case hy4_z => (intro W_ hS_; (try dsimp only at hS_); go_simp; (try (with_reducible rfl)))
  try simp only [Act.put, siA, scZ, scS]
  refine wpAnyH_takeL (i := 5) (v := ?v5_z) 95 hns hall (op_at10 rfl) rfl (by kernel_rfl) (by kernel_rfl) (fun _ _ _ h => h) (Or.inl ⟨by kernel_rfl, ?hy5_z⟩) (by assumption) ?rest5_z
  case hy5_z => (intro W_ hS_; (try dsimp only at hS_); go_simp; (try (with_reducible rfl)))
  try simp only [Act.put, siA, scZ, scS]
  refine wpAnyH_takeL (i := 6) (v := ?v6_z) 96 hns hall (op_at10 rfl) rfl (by kernel_rfl) (by kernel_rfl) (fun _ _ _ h => h) (Or.inl ⟨by kernel_rfl, ?hy6_z⟩) (by assumption) ?rest6_z
  case hy6_z => (intro W_ hS_; (try dsimp only at hS_); go_simp; (try (with_reducible rfl)))
  try simp only [Act.put, siA, scZ, scS]
  refine wpAnyH_ready (rs := [7]) (by kernel_rfl) (by simp) ?_
  refine AllReadyH.cons (op_at10 rfl) (fun K_ hK_ => ?_) AllReadyH.nil
  go_simp
  refine (refFrSame_c (FIs.to u1 (below_drew1 _)) (fis_lit (P := fun _ => True) false 5 false 0) true (by decide)).mono ?_; rintro e wr7 ⟨rfl, hBr7⟩
  go_wp2_with fail
  refine hK_.out _ _ (by exact ⟨(hcell_to (hcell_to s0_0 (below_drew1 _)) hBr7), (hcell_to (hcell_to s0_1 (below_drew1 _)) hBr7), (hcell_to (hcell_to s0_2 (below_drew1 _)) hBr7), (hcell_to (hcell_to s0_3 (below_drew1 _)) hBr7), (hcell_to (hcell_to s0_4 (below_drew1 _)) hBr7), (hcell_to (hcell_to s0_5 (below_drew1 _)) hBr7), (hcell_to (hcell_to s0_6 (below_drew1 _)) hBr7), (hcell_to (hcell_to s0_7 (below_drew1 _)) hBr7), (hcell_to (hcell_to s1_6 (below_drew1 _)) hBr7), (hcell_to (hcell_to s1_7 (below_drew1 _)) hBr7), (hcell_to (hcell_to s2_6 (below_drew1 _)) hBr7), (hcell_to (hcell_to s3_0 (below_drew1 _)) hBr7), (hcell_to (hcell_to s3_6 (below_drew1 _)) hBr7), (hcell_to (hcell_to s4_0 (below_drew1 _)) hBr7), (hcell_to (hcell_to s4_6 (below_drew1 _)) hBr7), (hcell_to (hcell_to s4_7 (below_drew1 _)) hBr7), (hcell_to (hcell_to se0_0 (below_drew1 _)) hBr7), (hcell_to (hcell_to se1_6 (below_drew1 _)) hBr7), (hcell_to (hcell_to se2_2 (below_drew1 _)) hBr7), (hcell_to (hcell_to se3_3 (below_drew1 _)) hBr7), (hcell_to (hcell_to se2_0 (below_drew1 _)) hBr7), (hcell_to (hcell_to se4_2 (below_drew1 _)) hBr7), (hcell_to (hcell_to se5_3 (below_drew1 _)) hBr7), (hcell_to (hcell_to se6_2 (below_drew1 _)) hBr7), (hcell_to (hcell_to se7_2 (below_drew1 _)) hBr7), (hcell_to (hcell_to se7_3 (below_drew1 _)) hBr7), (hcell_to (hcell_to se7_4 (below_drew1 _)) hBr7), (hcell_to (hcell_to se7_5 (below_drew1 _)) hBr7), (hcell_to (hcell_to sf0_6 (below_drew1 _)) hBr7), (hcell_to (hcell_to sf1_0 (below_drew1 _)) hBr7), (hcell_to (hcell_to se8_6 (below_drew1 _)) hBr7)⟩) (fun hHeld_7 => ?_)
  clear hK_
  try simp only [Act.put, siA, scZ, scS]
  refine wpAnyH_takeL (i := 8) (v := ?v8_z) 98 hns hall (op_at10 rfl) rfl (by kernel_rfl) (by kernel_rfl) (fun _ _ _ h => h) (Or.inl ⟨by kernel_rfl, ?hy8_z⟩) (by assumption) ?rest8_z
  case hy8_z => (intro W_ hS_; (try dsimp only at hS_); go_simp; (try (with_reducible rfl)))
  try simp only [Act.put, siA, scZ, scS]
  refine wpAnyH_takeL (i := 9) (v := ?v9_z) 99 hns hall (op_at10 rfl) rfl (by kernel_rfl) (by kernel_rfl) (fun _ _ _ h => h) (Or.inl ⟨by kernel_rfl, ?hy9_z⟩) (by assumption) ?rest9_z
  case hy9_z => (intro W_ hS_; (try dsimp only at hS_); go_simp; (try (with_reducible rfl)))
  try simp only [Act.put, siA, scZ, scS]
  refine wpAnyH_takeL (i := 10) (v := ?v10_z) 100 hns hall (op_at10 rfl) rfl (by kernel_rfl) (by kernel_rfl) (fun _ _ _ h => h) (Or.inl ⟨by kernel_rfl, ?hy10_z⟩) (by assumption) ?rest10_z
  case hy10_z => (intro W_ hS_; (try dsimp only at hS_); go_simp; (try (with_reducible rfl)))
  try simp only [Act.put, siA, scZ, scS]
  refine wpAnyH_takeL (i := 11) (v := ?v11_z) 101 hns hall (op_at10 rfl) rfl (by kernel_rfl) (by kernel_rfl) (fun _ _ _ h => h) (Or.inl ⟨by kernel_rfl, ?hy11_z⟩) (by assumption) ?rest11_z
  case hy11_z => (intro W_ hS_; (try dsimp only at hS_); go_simp; (try (with_reducible rfl)))
  try simp only [Act.put, siA, scZ, scS]
  refine wpAnyH_takeL (i := 12) (v := ?v12_z) 102 hns hall (op_at10 rfl) rfl (by kernel_rfl) (by kernel_rfl) (fun _ _ _ h => h) (Or.inl ⟨by kernel_rfl, ?hy12_z⟩) (by assumption) ?rest12_z
  case hy12_z => (intro W_ hS_; (try dsimp only at hS_); go_simp; (try (with_reducible rfl)))
  try simp only [Act.put, siA, scZ, scS]
  refine wpAnyH_takeL (i := 13) (v := ?v13_z) 103 hns hall (op_at10 rfl) rfl (by kernel_rfl) (by kernel_rfl) (fun _ _ _ h => h) (Or.inl ⟨by kernel_rfl, ?hy13_z⟩) (by assumption) ?rest13_z
  case hy13_z => (intro W_ hS_; (try dsimp only at hS_); go_simp; (try (with_reducible rfl)))
  try simp only [Act.put, siA, scZ, scS]
  refine wpAnyH_takeL (i := 14) (v := ?v14_z) 104 hns hall (op_at10 rfl) rfl (by kernel_rfl) (by kernel_rfl) (fun _ _ _ h => h) (Or.inl ⟨by kernel_rfl, ?hy14_z⟩) (by assumption) ?rest14_z
  case hy14_z => (intro W_ hS_; (try dsimp only at hS_); go_simp; (try (with_reducible rfl)))
  try simp only [Act.put, siA, scZ, scS]
  refine wpAnyH_takeL (i := 15) (v := ?v15_z) 105 hns hall (op_at10 rfl) rfl (by kernel_rfl) (by kernel_rfl) (fun _ _ _ h => h) (Or.inl ⟨by kernel_rfl, ?hy15_z⟩) (by assumption) ?rest15_z
  case hy15_z => (intro W_ hS_; (try dsimp only at hS_); go_simp; (try (with_reducible rfl)))
  try simp only [Act.put, siA, scZ, scS]
  refine wpAnyH_takeL (i := 16) (v := ?v16_z) 106 hns hall (op_at10 rfl) rfl (by kernel_rfl) (by kernel_rfl) (fun _ _ _ h => h) (Or.inl ⟨by kernel_rfl, ?hy16_z⟩) (by assumption) ?rest16_z
  case hy16_z => (intro W_ hS_; (try dsimp only at hS_); go_simp; (try (with_reducible rfl)))
  try simp only [Act.put, siA, scZ, scS]
  refine wpAnyH_takeL (i := 17) (v := ?v17_z) 107 hns hall (op_at10 rfl) rfl (by kernel_rfl) (by kernel_rfl) (fun _ _ _ h => h) (Or.inl ⟨by kernel_rfl, ?hy17_z⟩) (by assumption) ?rest17_z
  case hy17_z => (intro W_ hS_; (try dsimp only at hS_); go_simp; (try (with_reducible rfl)))
  try simp only [Act.put, siA, scZ, scS]
  refine wpAnyH_takeL (i := 18) (v := ?v18_z) 108 hns hall (op_at10 rfl) rfl (by kernel_rfl) (by kernel_rfl) (fun _ _ _ h => h) (Or.inl ⟨by kernel_rfl, ?hy18_z⟩) (by assumption) ?rest18_z
  case hy18_z => (intro W_ hS_; (try dsimp only at hS_); go_simp; (try (with_reducible rfl)))
  try simp only [Act.put, siA, scZ, scS]
  refine wpAnyH_takeL (i := 19) (v := ?v19_z) 109 hns hall (op_at10 rfl) rfl (by kernel_rfl) (by kernel_rfl) (fun _ _ _ h => h) (Or.inl ⟨by kernel_rfl, ?hy19_z⟩) (by assumption) ?rest19_z
  case hy19_z => (intro W_ hS_; (try dsimp only at hS_); go_simp; (try (with_reducible rfl)))
  try simp only [Act.put, siA, scZ, scS]
  refine wpAnyH_takeL (i := 20) (v := ?v20_z) 110 hns hall (op_at10 rfl) rfl (by kernel_rfl) (by kernel_rfl) (fun _ _ _ h => h) (Or.inl ⟨by kernel_rfl, ?hy20_z⟩) (by assumption) ?rest20_z
  case hy20_z => (intro W_ hS_; (try dsimp only at hS_); go_simp; (try (with_reducible rfl)))
  try simp only [Act.put, siA, scZ, scS]
  refine wpAnyH_takeL (i := 21) (v := ?v21_z) 111 hns hall (op_at10 rfl) rfl (by kernel_rfl) (by kernel_rfl) (fun _ _ _ h => h) (Or.inl ⟨by kernel_rfl, ?hy21_z⟩) (by assumption) ?rest21_z
  case hy21_z => (intro W_ hS_; (try dsimp only at hS_); go_simp; (try (with_reducible rfl)))
  try simp only [Act.put, siA, scZ, scS]
  refine wpAnyH_takeL (i := 22) (v := ?v22_z) 112 hns hall (op_at10 rfl) rfl (by kernel_rfl) (by kernel_rfl) (fun _ _ _ h => h) (Or.inl ⟨by kernel_rfl, ?hy22_z⟩) (by assumption) ?rest22_z
  case hy22_z => (intro W_ hS_; (try dsimp only at hS_); go_simp; (try (with_reducible rfl)))
  try simp only [Act.put, siA, scZ, scS]
  refine wpAnyH_takeL (i := 23) (v := ?v23_z) 113 hns hall (op_at10 rfl) rfl (by kernel_rfl) (by kernel_rfl) (fun _ _ _ h => h) (Or.inl ⟨by kernel_rfl, ?hy23_z⟩) (by assumption) ?rest23_z
  case hy23_z => (intro W_ hS_; (try dsimp only at hS_); go_simp; (try (with_reducible rfl)))
  try simp only [Act.put, siA, scZ, scS]
  refine wpAnyH_takeL (i := 24) (v := ?v24_z) 114 hns hall (op_at10 rfl) rfl (by kernel_rfl) (by kernel_rfl) (fun _ _ _ h => h) (Or.inl ⟨by kernel_rfl, ?hy24_z⟩) (by assumption) ?rest24_z
  case hy24_z => (intro W_ hS_; (try dsimp only at hS_); go_simp; (try (with_reducible rfl)))
  try simp only [Act.put, siA, scZ, scS]
  refine wpAnyH_takeL (i := 25) (v := ?v25_z) 115 hns hall (op_at10 rfl) rfl (by kernel_rfl) (by kernel_rfl) (fun _ _ _ h => h) (Or.inl ⟨by kernel_rfl, ?hy25_z⟩) (by assumption) ?rest25_z
  case hy25_z => (intro W_ hS_; (try dsimp only at hS_); go_simp; (try (with_reducible rfl)))
  try simp only [Act.put, siA, scZ, scS]
  refine wpAnyH_takeL (i := 26) (v := ?v26_z) 116 hns hall (op_at10 rfl) rfl (by kernel_rfl) (by kernel_rfl) (fun _ _ _ h => h) (Or.inl ⟨by kernel_rfl, ?hy26_z⟩) (by assumption) ?rest26_z
  case hy26_z => (intro W_ hS_; (try dsimp only at hS_); go_simp; (try (with_reducible rfl)))
  try simp only [Act.put, siA, scZ, scS]
  refine wpAnyH_takeL (i := 27) (v := ?v27_z) 117 hns hall (op_at10 rfl) rfl (by kernel_rfl) (by kernel_rfl) (fun _ _ _ h => h) (Or.inl ⟨by kernel_rfl, ?hy27_z⟩) (by assumption) ?rest27_z
  case hy27_z => (intro W_ hS_; (try dsimp only at hS_); go_simp; (try (with_reducible rfl)))
  try simp only [Act.put, siA, scZ, scS]
  refine wpAnyH_takeL (i := 28) (v := ?v28_z) 118 hns hall (op_at10 rfl) rfl (by kernel_rfl) (by kernel_rfl) (fun _ _ _ h => h) (Or.inl ⟨by kernel_rfl, ?hy28_z⟩) (by assumption) ?rest28_z
  case hy28_z => (intro W_ hS_; (try dsimp only at hS_); go_simp; (try (with_reducible rfl)))
  try simp only [Act.put, siA, scZ, scS]
  refine wpAnyH_takeL (i := 29) (v := ?v29_z) 119 hns hall (op_at10 rfl) rfl (by kernel_rfl) (by kernel_rfl) (fun _ _ _ h => h) (Or.inl ⟨by kernel_rfl, ?hy29_z⟩) (by assumption) ?rest29_z
  case hy29_z => (intro W_ hS_; (try dsimp only at hS_); go_simp; (try (with_reducible rfl)))
  try simp only [Act.put, siA, scZ, scS]
  refine wpAnyH_takeL (i := 30) (v := ?v30_z) 120 hns hall (op_at10 rfl) rfl (by kernel_rfl) (by kernel_rfl) (fun _ _ _ h => h) (Or.inl ⟨by kernel_rfl, ?hy30_z⟩) (by assumption) ?rest30_z
  case hy30_z => (intro W_ hS_; (try dsimp only at hS_); go_simp; (try (with_reducible rfl)))
  try simp only [Act.put, siA, scZ, scS]
  refine wpAnyH_takeL (i := 31) (v := ?v31_z) 121 hns hall (op_at10 rfl) rfl (by kernel_rfl) (by kernel_rfl) (fun _ _ _ h => h) (Or.inl ⟨by kernel_rfl, ?hy31_z⟩) (by assumption) ?rest31_z
  case hy31_z => (intro W_ hS_; (try dsimp only at hS_); go_simp; (try (with_reducible rfl)))
  try simp only [Act.put, siA, scZ, scS]
  refine wpAnyH_takeL (i := 32) (v := ?v32_z) 122 hns hall (op_at10 rfl) rfl (by kernel_rfl) (by kernel_rfl) (fun _ _ _ h => h) (Or.inl ⟨by kernel_rfl, ?hy32_z⟩) (by assumption) ?rest32_z
  case hy32_z => (intro W_ hS_; (try dsimp only at hS_); go_simp; (try (with_reducible rfl)))
  try simp only [Act.put, siA, scZ, scS]
  refine wpAnyH_takeL (i := 33) (v := ?v33_z) 123 hns hall (op_at10 rfl) rfl (by kernel_rfl) (by kernel_rfl) (fun _ _ _ h => h) (Or.inl ⟨by kernel_rfl, ?hy33_z⟩) (by assumption) ?rest33_z
  case hy33_z => (intro W_ hS_; (try dsimp only at hS_); go_simp; (try (with_reducible rfl)))
  try simp only [Act.put, siA, scZ, scS]
  refine wpAnyH_ready (rs := [34]) (by kernel_rfl) (by simp) ?_
  refine AllReadyH.cons (op_at10 rfl) (fun K_ hK_ => ?_) AllReadyH.nil
  go_wp2_with fail
  refine hK_.out _ _ (by exact ⟨(hcell_to (hcell_to (hcell_to s0_0 (below_drew1 _)) hBr7) (below_alloc1 _ _)), (hcell_to (hcell_to (hcell_to s0_1 (below_drew1 _)) hBr7) (below_alloc1 _ _)), (hcell_to (hcell_to (hcell_to s0_2 (below_drew1 _)) hBr7) (below_alloc1 _ _)), (hcell_to (hcell_to (hcell_to s0_3 (below_drew1 _)) hBr7) (below_alloc1 _ _)), (hcell_to (hcell_to (hcell_to s0_4 (below_drew1 _)) hBr7) (below_alloc1 _ _)), (hcell_to (hcell_to (hcell_to s0_5 (below_drew1 _)) hBr7) (below_alloc1 _ _)), (hcell_to (hcell_to (hcell_to s0_6 (below_drew1 _)) hBr7) (below_alloc1 _ _)), (hcell_to (hcell_to (hcell_to s0_7 (below_drew1 _)) hBr7) (below_alloc1 _ _)), (hcell_to (hcell_to (hcell_to s1_6 (below_drew1 _)) hBr7) (below_alloc1 _ _)), (hcell_to (hcell_to (hcell_to s1_7 (below_drew1 _)) hBr7) (below_alloc1 _ _)), (hcell_to (hcell_to (hcell_to s2_6 (below_drew1 _)) hBr7) (below_alloc1 _ _)), (hcell_to (hcell_to (hcell_to s3_0 (below_drew1 _)) hBr7) (below_alloc1 _ _)), (hcell_to (hcell_to (hcell_to s3_6 (below_drew1 _)) hBr7) (below_alloc1 _ _)), (hcell_to (hcell_to (hcell_to s4_0 (below_drew1 _)) hBr7) (below_alloc1 _ _)), (hcell_to (hcell_to (hcell_to s4_6 (below_drew1 _)) hBr7) (below_alloc1 _ _)), (hcell_to (hcell_to (hcell_to s4_7 (below_drew1 _)) hBr7) (below_alloc1 _ _)), (hcell_to (hcell_to (hcell_to se0_0 (below_drew1 _)) hBr7) (below_alloc1 _ _)), (hcell_to (hcell_to (hcell_to se1_6 (below_drew1 _)) hBr7) (below_alloc1 _ _)), (hcell_to (hcell_to (hcell_to se2_2 (below_drew1 _)) hBr7) (below_alloc1 _ _)), (hcell_to (hcell_to (hcell_to se3_3 (below_drew1 _)) hBr7) (below_alloc1 _ _)), (hcell_to (hcell_to (hcell_to se2_0 (below_drew1 _)) hBr7) (below_alloc1 _ _)), (hcell_to (hcell_to (hcell_to se4_2 (below_drew1 _)) hBr7) (below_alloc1 _ _)), (hcell_to (hcell_to (hcell_to se5_3 (below_drew1 _)) hBr7) (below_alloc1 _ _)), (hcell_to (hcell_to (hcell_to se6_2 (below_drew1 _)) hBr7) (below_alloc1 _ _)), (hcell_to (hcell_to (hcell_to se7_2 (below_drew1 _)) hBr7) (below_alloc1 _ _)), (hcell_to (hcell_to (hcell_to se7_3 (below_drew1 _)) hBr7) (below_alloc1 _ _)), (hcell_to (hcell_to (hcell_to se7_4 (below_drew1 _)) hBr7) (below_alloc1 _ _)), (hcell_to (hcell_to (hcell_to se7_5 (below_drew1 _)) hBr7) (below_alloc1 _ _)), (hcell_to (hcell_to (hcell_to sf0_6 (below_drew1 _)) hBr7) (below_alloc1 _ _)), (hcell_to (hcell_to (hcell_to sf1_0 (below_drew1 _)) hBr7) (below_alloc1 _ _)), (hcell_to (hcell_to (hcell_to se8_6 (below_drew1 _)) hBr7) (below_alloc1 _ _))⟩) (fun hHeld_34 => ?_)
  clear hK_
  try simp only [Act.put, siA, scZ, scS]
  refine wpAnyH_ready (rs := [35]) (by kernel_rfl) (by simp) ?_
  refine AllReadyH.cons (op_at10 rfl) (fun K_ hK_ => ?_) AllReadyH.nil
  go_simp
  refine (sameAll_c (FSl.to (FSl.to (FSl.to u2 (below_drew1 _)) hBr7) (below_alloc1 _ _)) (fsl5 _) true (by decide)).mono ?_; rintro e wr35 ⟨rfl, hBr35⟩
  go_wp2_with fail
  refine hK_.out _ _ (by exact ⟨(hcell_to (hcell_to (hcell_to (hcell_to s0_0 (below_drew1 _)) hBr7) (below_alloc1 _ _)) hBr35), (hcell_to (hcell_to (hcell_to (hcell_to s0_1 (below_drew1 _)) hBr7) (below_alloc1 _ _)) hBr35), (hcell_to (hcell_to (hcell_to (hcell_to s0_2 (below_drew1 _)) hBr7) (below_alloc1 _ _)) hBr35), (hcell_to (hcell_to (hcell_to (hcell_to s0_3 (below_drew1 _)) hBr7) (below_alloc1 _ _)) hBr35), (hcell_to (hcell_to (hcell_to (hcell_to s0_4 (below_drew1 _)) hBr7) (below_alloc1 _ _)) hBr35), (hcell_to (hcell_to (hcell_to (hcell_to s0_5 (below_drew1 _)) hBr7) (below_alloc1 _ _)) hBr35), (hcell_to (hcell_to (hcell_to (hcell_to s0_6 (below_drew1 _)) hBr7) (below_alloc1 _ _)) hBr35), (hcell_to (hcell_to (hcell_to (hcell_to s0_7 (below_drew1 _)) hBr7) (below_alloc1 _ _)) hBr35), (hcell_to (hcell_to (hcell_to (hcell_to s1_6 (below_drew1 _)) hBr7) (below_alloc1 _ _)) hBr35), (hcell_to (hcell_to (hcell_to (hcell_to s1_7 (below_drew1 _)) hBr7) (below_alloc1 _ _)) hBr35), (hcell_to (hcell_to (hcell_to (hcell_to s2_6 (below_drew1 _)) hBr7) (below_alloc1 _ _)) hBr35), (hcell_to (hcell_to (hcell_to (hcell_to s3_0 (below_drew1 _)) hBr7) (below_alloc1 _ _)) hBr35), (hcell_to (hcell_to (hcell_to (hcell_to s3_6 (below_drew1 _)) hBr7) (below_alloc1 _ _)) hBr35), (hcell_to (hcell_to (hcell_to (hcell_to s4_0 (below_drew1 _)) hBr7) (below_alloc1 _ _)) hBr35), (hcell_to (hcell_to (hcell_to (hcell_to s4_6 (below_drew1 _)) hBr7) (below_alloc1 _ _)) hBr35), (hcell_to (hcell_to (hcell_to (hcell_to s4_7 (below_drew1 _)) hBr7) (below_alloc1 _ _)) hBr35), (hcell_to (hcell_to (hcell_to (hcell_to se0_0 (below_drew1 _)) hBr7) (below_alloc1 _ _)) hBr35), (hcell_to (hcell_to (hcell_to (hcell_to se1_6 (below_drew1 _)) hBr7) (below_alloc1 _ _)) hBr35), (hcell_to (hcell_to (hcell_to (hcell_to se2_2 (below_drew1 _)) hBr7) (below_alloc1 _ _)) hBr35), (hcell_to (hcell_to (hcell_to (hcell_to se3_3 (below_drew1 _)) hBr7) (below_alloc1 _ _)) hBr35), (hcell_to (hcell_to (hcell_to (hcell_to se2_0 (below_drew1 _)) hBr7) (below_alloc1 _ _)) hBr35), (hcell_to (hcell_to (hcell_to (hcell_to se4_2 (below_drew1 _)) hBr7) (below_alloc1 _ _)) hBr35), (hcell_to (hcell_to (hcell_to (hcell_to se5_3 (below_drew1 _)) hBr7) (below_alloc1 _ _)) hBr35), (hcell_to (hcell_to (hcell_to (hcell_to se6_2 (below_drew1 _)) hBr7) (below_alloc1 _ _)) hBr35), (hcell_to (hcell_to (hcell_to (hcell_to se7_2 (below_drew1 _)) hBr7) (below_alloc1 _ _)) hBr35), (hcell_to (hcell_to (hcell_to (hcell_to se7_3 (below_drew1 _)) hBr7) (below_alloc1 _ _)) hBr35), (hcell_to (hcell_to (hcell_to (hcell_to se7_4 (below_drew1 _)) hBr7) (below_alloc1 _ _)) hBr35), (hcell_to (hcell_to (hcell_to (hcell_to se7_5 (below_drew1 _)) hBr7) (below_alloc1 _ _)) hBr35), (hcell_to (hcell_to (hcell_to (hcell_to sf0_6 (below_drew1 _)) hBr7) (below_alloc1 _ _)) hBr35), (hcell_to (hcell_to (hcell_to (hcell_to sf1_0 (below_drew1 _)) hBr7) (below_alloc1 _ _)) hBr35), (hcell_to (hcell_to (hcell_to (hcell_to se8_6 (below_drew1 _)) hBr7) (below_alloc1 _ _)) hBr35)⟩) (fun hHeld_35 => ?_)
  clear hK_
  try simp only [Act.put, siA, scZ, scS]
  refine wpAnyH_takeL (i := 36) (v := ?v36_z) 126 hns hall (op_at10 rfl) rfl (by kernel_rfl) (by kernel_rfl) (fun _ _ _ h => h) (Or.inl ⟨by kernel_rfl, ?hy36_z⟩) (by assumption) ?rest36_z
  case hy36_z => (intro W_ hS_; (try dsimp only at hS_); go_simp; (try (with_reducible rfl)))
  try simp only [Act.put, siA, scZ, scS]
  refine wpAnyH_takeL (i := 37) (v := ?v37_z) 127 hns hall (op_at10 rfl) rfl (by kernel_rfl) (by kernel_rfl) (fun _ _ _ h => h) (Or.inl ⟨by kernel_rfl, ?hy37_z⟩) (by assumption) ?rest37_z
  case hy37_z => (intro W_ hS_; (try dsimp only at hS_); go_simp; (try (with_reducible rfl)))
  try simp only [Act.put, siA, scZ, scS]
  refine wpAnyH_takeL (i := 38) (v := ?v38_z) 128 hns hall (op_at10 rfl) rfl (by kernel_rfl) (by kernel_rfl) (fun _ _ _ h => h) (Or.inl ⟨by kernel_rfl, ?hy38_z⟩) (by assumption) ?rest38_z
  case hy38_z => (intro W_ hS_; (try dsimp only at hS_); go_simp; (try (with_reducible rfl)))
  try simp only [Act.put, siA, scZ, scS]
  refine wpAnyH_takeL (i := 39) (v := ?v39_z) 129 hns hall (op_at10 rfl) rfl (by kernel_rfl) (by kernel_rfl) (fun _ _ _ h => h) (Or.inl ⟨by kernel_rfl, ?hy39_z⟩) (by assumption) ?rest39_z
  case hy39_z => (intro W_ hS_; (try dsimp only at hS_); go_simp; (try (with_reducible rfl)))
  try simp only [Act.put, siA, scZ, scS]
  refine wpAnyH_takeL (i := 40) (v := ?v40_z) 130 hns hall (op_at10 rfl) rfl (by kernel_rfl) (by kernel_rfl) (fun _ _ _ h => h) (Or.inl ⟨by kernel_rfl, ?hy40_z⟩) (by assumption) ?rest40_z
  case hy40_z => (intro W_ hS_; (try dsimp only at hS_); go_simp; (try (with_reducible rfl)))
  try simp only [Act.put, siA, scZ, scS]
  refine wpAnyH_takeL (i := 41) (v := ?v41_z) 131 hns hall (op_at10 rfl) rfl (by kernel_rfl) (by kernel_rfl) (fun _ _ _ h => h) (Or.inl ⟨by kernel_rfl, ?hy41_z⟩) (by assumption) ?rest41_z
  case hy41_z => (intro W_ hS_; (try dsimp only at hS_); go_simp; (try (with_reducible rfl)))
  try simp only [Act.put, siA, scZ, scS]
  refine wpAnyH_takeL (i := 42) (v := ?v42_z) 132 hns hall (op_at10 rfl) rfl (by kernel_rfl) (by kernel_rfl) (fun _ _ _ h => h) (Or.inl ⟨by kernel_rfl, ?hy42_z⟩) (by assumption) ?rest42_z
  case hy42_z => (intro W_ hS_; (try dsimp only at hS_); go_simp; (try (with_reducible rfl)))
  try simp only [Act.put, siA, scZ, scS]
  refine wpAnyH_takeL (i := 43) (v := ?v43_z) 133 hns hall (op_at10 rfl) rfl (by kernel_rfl) (by kernel_rfl) (fun _ _ _ h => h) (Or.inl ⟨by kernel_rfl, ?hy43_z⟩) (by assumption) ?rest43_z
  case hy43_z => (intro W_ hS_; (try dsimp only at hS_); go_simp; (try (with_reducible rfl)))
  try simp only [Act.put, siA, scZ, scS]
  refine wpAnyH_takeL (i := 44) (v := ?v44_z) 134 hns hall (op_at10 rfl) rfl (by kernel_rfl) (by kernel_rfl) (fun _ _ _ h => h) (Or.inl ⟨by kernel_rfl, ?hy44_z⟩) (by assumption) ?rest44_z
  case hy44_z => (intro W_ hS_; (try dsimp only at hS_); go_simp; (try (with_reducible rfl)))
  try simp only [Act.put, siA, scZ, scS]
  refine wpAnyH_takeL (i := 45) (v := ?v45_z) 135 hns hall (op_at10 rfl) rfl (by kernel_rfl) (by kernel_rfl) (fun _ _ _ h => h) (Or.inl ⟨by kernel_rfl, ?hy45_z⟩) (by assumption) ?rest45_z
  case hy45_z => (intro W_ hS_; (try dsimp only at hS_); go_simp; (try (with_reducible rfl)))
  try simp only [Act.put, siA, scZ, scS]
  refine wpAnyH_takeL (i := 46) (v := ?v46_z) 136 hns hall (op_at10 rfl) rfl (by kernel_rfl) (by kernel_rfl) (fun _ _ _ h => h) (Or.inl ⟨by kernel_rfl, ?hy46_z⟩) (by assumption) ?rest46_z
  case hy46_z => (intro W_ hS_; (try dsimp only at hS_); go_simp; (try (with_reducible rfl)))
  try simp only [Act.put, siA, scZ, scS]
  refine wpAnyH_takeL (i := 47) (v := ?v47_z) 137 hns hall (op_at10 rfl) rfl (by kernel_rfl) (by kernel_rfl) (fun _ _ _ h => h) (Or.inl ⟨by kernel_rfl, ?hy47_z⟩) (by assumption) ?rest47_z
  case hy47_z => (intro W_ hS_; (try dsimp only at hS_); go_simp; (try (with_reducible rfl)))
  try simp only [Act.put, siA, scZ, scS]
  refine wpAnyH_takeL (i := 48) (v := ?v48_z) 138 hns hall (op_at10 rfl) rfl (by kernel_rfl) (by kernel_rfl) (fun _ _ _ h => h) (Or.inl ⟨by kernel_rfl, ?hy48_z⟩) (by assumption) ?rest48_z
  case hy48_z => (intro W_ hS_; (try dsimp only at hS_); go_simp; (try (with_reducible rfl)))
  try simp only [Act.put, siA, scZ, scS]
  refine wpAnyH_takeL (i := 49) (v := ?v49_z) 139 hns hall (op_at10 rfl) rfl (by kernel_rfl) (by kernel_rfl) (fun _ _ _ h => h) (Or.inl ⟨by kernel_rfl, ?hy49_z⟩) (by assumption) ?rest49_z
  case hy49_z => (intro W_ hS_; (try dsimp only at hS_); go_simp; (try (with_reducible rfl)))
  try simp only [Act.put, siA, scZ, scS]
  refine wpAnyH_takeL (i := 50) (v := ?v50_z) 140 hns hall (op_at10 rfl) rfl (by kernel_rfl) (by kernel_rfl) (fun _ _ _ h => h) (Or.inl ⟨by kernel_rfl, ?hy50_z⟩) (by assumption) ?rest50_z
  case hy50_z => (intro W_ hS_; (try dsimp only at hS_); go_simp; (try (with_reducible rfl)))
  try simp only [Act.put, siA, scZ, scS]
  refine wpAnyH_takeL (i := 51) (v := ?v51_z) 141 hns hall (op_at10 rfl) rfl (by kernel_rfl) (by kernel_rfl) (fun _ _ _ h => h) (Or.inl ⟨by kernel_rfl, ?hy51_z⟩) (by assumption) ?rest51_z
  case hy51_z => (intro W_ hS_; (try dsimp only at hS_); go_simp; (try (with_reducible rfl)))
  try simp only [Act.put, siA, scZ, scS]
  refine wpAnyH_takeL (i := 52) (v := ?v52_z) 142 hns hall (op_at10 rfl) rfl (by kernel_rfl) (by kernel_rfl) (fun _ _ _ h => h) (Or.inl ⟨by kernel_rfl, ?hy52_z⟩) (by assumption) ?rest52_z
  case hy52_z => (intro W_ hS_; (try dsimp only at hS_); go_simp; (try (with_reducible rfl)))
  try simp only [Act.put, siA, scZ, scS]
  refine wpAnyH_takeL (i := 53) (v := ?v53_z) 143 hns hall (op_at10 rfl) rfl (by kernel_rfl) (by kernel_rfl) (fun _ _ _ h => h) (Or.inl ⟨by kernel_rfl, ?hy53_z⟩) (by assumption) ?rest53_z
  case hy53_z => (intro W_ hS_; (try dsimp only at hS_); go_simp; (try (with_reducible rfl)))
  try simp only [Act.put, siA, scZ, scS]
  refine wpAnyH_takeL (i := 54) (v := ?v54_z) 144 hns hall (op_at10 rfl) rfl (by kernel_rfl) (by kernel_rfl) (fun _ _ _ h => h) (Or.inl ⟨by kernel_rfl, ?hy54_z⟩) (by assumption) ?rest54_z
  case hy54_z => (intro W_ hS_; (try dsimp only at hS_); go_simp; (try (with_reducible rfl)))
  try simp only [Act.put, siA, scZ, scS]
  refine wpAnyH_takeL (i := 55) (v := ?v55_z) 145 hns hall (op_at10 rfl) rfl (by kernel_rfl) (by kernel_rfl) (fun _ _ _ h => h) (Or.inl ⟨by kernel_rfl, ?hy55_z⟩) (by assumption) ?rest55_z
  case hy55_z => (intro W_ hS_; (try dsimp only at hS_); go_simp; (try (with_reducible rfl)))
  try simp only [Act.put, siA, scZ, scS]
  refine wpAnyH_takeL (i := 56) (v := ?v56_z) 146 hns hall (op_at10 rfl) rfl (by kernel_rfl) (by kernel_rfl) (fun _ _ _ h => h) (Or.inl ⟨by kernel_rfl, ?hy56_z⟩) (by assumption) ?rest56_z
  case hy56_z => (intro W_ hS_; (try dsimp only at hS_); go_simp; (try (with_reducible rfl)))
  try simp only [Act.put, siA, scZ, scS]
  refine wpAnyH_takeL (i := 57) (v := ?v57_z) 147 hns hall (op_at10 rfl) rfl (by kernel_rfl) (by kernel_rfl) (fun _ _ _ h => h) (Or.inl ⟨by kernel_rfl, ?hy57_z⟩) (by assumption) ?rest57_z
  case hy57_z => (intro W_ hS_; (try dsimp only at hS_); go_simp; (try (with_reducible rfl)))
  try simp only [Act.put, siA, scZ, scS]
  refine wpAnyH_takeL (i := 58) (v := ?v58_z) 148 hns hall (op_at10 rfl) rfl (by kernel_rfl) (by kernel_rfl) (fun _ _ _ h => h) (Or.inl ⟨by kernel_rfl, ?hy58_z⟩) (by assumption) ?rest58_z
  case hy58_z => (intro W_ hS_; (try dsimp only at hS_); go_simp; (try (with_reducible rfl)))
  try simp only [Act.put, siA, scZ, scS]
  refine wpAnyH_takeL (i := 59) (v := ?v59_z) 149 hns hall (op_at10 rfl) rfl (by kernel_rfl) (by kernel_rfl) (fun _ _ _ h => h) (Or.inl ⟨by kernel_rfl, ?hy59_z⟩) (by assumption) ?rest59_z
  case hy59_z => (intro W_ hS_; (try dsimp only at hS_); go_simp; (try (with_reducible rfl)))
  try simp only [Act.put, siA, scZ, scS]
  refine wpAnyH_takeL (i := 60) (v := ?v60_z) 150 hns hall (op_at10 rfl) rfl (by kernel_rfl) (by kernel_rfl) (fun _ _ _ h => h) (Or.inl ⟨by kernel_rfl, ?hy60_z⟩) (by assumption) ?rest60_z
  case hy60_z => (intro W_ hS_; (try dsimp only at hS_); go_simp; (try (with_reducible rfl)))
  try simp only [Act.put, siA, scZ, scS]
  refine wpAnyH_takeL (i := 61) (v := ?v61_z) 151 hns hall (op_at10 rfl) rfl (by kernel_rfl) (by kernel_rfl) (fun _ _ _ h => h) (Or.inl ⟨by kernel_rfl, ?hy61_z⟩) (by assumption) ?rest61_z
  case hy61_z => (intro W_ hS_; (try dsimp only at hS_); go_simp; (try (with_reducible rfl)))
  try simp only [Act.put, siA, scZ, scS]
  refine wpAnyH_takeL (i := 62) (v := ?v62_z) 152 hns hall (op_at10 rfl) rfl (by kernel_rfl) (by kernel_rfl) (fun _ _ _ h => h) (Or.inl ⟨by kernel_rfl, ?hy62_z⟩) (by assumption) ?rest62_z
  case hy62_z => (intro W_ hS_; (try dsimp only at hS_); go_simp; (try (with_reducible rfl)))
  try simp only [Act.put, siA, scZ, scS]
  refine wpAnyH_takeL (i := 63) (v := ?v63_z) 153 hns hall (op_at10 rfl) rfl (by kernel_rfl) (by kernel_rfl) (fun _ _ _ h => h) (Or.inl ⟨by kernel_rfl, ?hy63_z⟩) (by assumption) ?rest63_z
  case hy63_z => (intro W_ hS_; (try dsimp only at hS_); go_simp; (try (with_reducible rfl)))
  try simp only [Act.put, siA, scZ, scS]
  refine wpAnyH_takeL (i := 64) (v := ?v64_z) 154 hns hall (op_at10 rfl) rfl (by kernel_rfl) (by kernel_rfl) (fun _ _ _ h => h) (Or.inl ⟨by kernel_rfl, ?hy64_z⟩) (by assumption) ?rest64_z
  case hy64_z => (intro W_ hS_; (try dsimp only at hS_); go_simp; (try (with_reducible rfl)))
  try simp only [Act.put, siA, scZ, scS]
  refine wpAnyH_takeL (i := 65) (v := ?v65_z) 155 hns hall (op_at10 rfl) rfl (by kernel_rfl) (by kernel_rfl) (fun _ _ _ h => h) (Or.inl ⟨by kernel_rfl, ?hy65_z⟩) (by assumption) ?rest65_z
  case hy65_z => (intro W_ hS_; (try dsimp only at hS_); go_simp; (try (with_reducible rfl)))
  try simp only [Act.put, siA, scZ, scS]
  refine wpAnyH_takeL (i := 66) (v := ?v66_z) 156 hns hall (op_at10 rfl) rfl (by kernel_rfl) (by kernel_rfl) (fun _ _ _ h => h) (Or.inl ⟨by kernel_rfl, ?hy66_z⟩) (by assumption) ?rest66_z
  case hy66_z => (intro W_ hS_; (try dsimp only at hS_); go_simp; (try (with_reducible rfl)))
  try simp only [Act.put, siA, scZ, scS]
  refine wpAnyH_takeL (i := 67) (v := ?v67_z) 157 hns hall (op_at10 rfl) rfl (by kernel_rfl) (by kernel_rfl) (fun _ _ _ h => h) (Or.inl ⟨by kernel_rfl, ?hy67_z⟩) (by assumption) ?rest67_z
  case hy67_z => (intro W_ hS_; (try dsimp only at hS_); go_simp; (try (with_reducible rfl)))
  try simp only [Act.put, siA, scZ, scS]
  refine wpAnyH_takeL (i := 68) (v := ?v68_z) 158 hns hall (op_at10 rfl) rfl (by kernel_rfl) (by kernel_rfl) (fun _ _ _ h => h) (Or.inl ⟨by kernel_rfl, ?hy68_z⟩) (by assumption) ?rest68_z
  case hy68_z => (intro W_ hS_; (try dsimp only at hS_); go_simp; (try (with_reducible rfl)))
  try simp only [Act.put, siA, scZ, scS]
  refine wpAnyH_takeL (i := 69) (v := ?v69_z) 159 hns hall (op_at10 rfl) rfl (by kernel_rfl) (by kernel_rfl) (fun _ _ _ h => h) (Or.inl ⟨by kernel_rfl, ?hy69_z⟩) (by assumption) ?rest69_z
  case hy69_z => (intro W_ hS_; (try dsimp only at hS_); go_simp; (try (with_reducible rfl)))
  try simp only [Act.put, siA, scZ, scS]
  refine wpAnyH_takeL (i := 70) (v := ?v70_z) 160 hns hall (op_at10 rfl) rfl (by kernel_rfl) (by kernel_rfl) (fun _ _ _ h => h) (Or.inl ⟨by kernel_rfl, ?hy70_z⟩) (by assumption) ?rest70_z
  case hy70_z => (intro W_ hS_; (try dsimp only at hS_); go_simp; (try (with_reducible rfl)))
  try simp only [Act.put, siA, scZ, scS]
  refine wpAnyH_takeL (i := 71) (v := ?v71_z) 161 hns hall (op_at10 rfl) rfl (by kernel_rfl) (by kernel_rfl) (fun _ _ _ h => h) (Or.inl ⟨by kernel_rfl, ?hy71_z⟩) (by assumption) ?rest71_z
  case hy71_z => (intro W_ hS_; (try dsimp only at hS_); go_simp; (try (with_reducible rfl)))
  try simp only [Act.put, siA, scZ, scS]
  refine wpAnyH_takeL (i := 72) (v := ?v72_z) 162 hns hall (op_at10 rfl) rfl (by kernel_rfl) (by kernel_rfl) (fun _ _ _ h => h) (Or.inl ⟨by kernel_rfl, ?hy72_z⟩) (by assumption) ?rest72_z
  case hy72_z => (intro W_ hS_; (try dsimp only at hS_); go_simp; (try (with_reducible rfl)))
  try simp only [Act.put, siA, scZ, scS]
  refine wpAnyH_takeL (i := 73) (v := ?v73_z) 163 hns hall (op_at10 rfl) rfl (by kernel_rfl) (by kernel_rfl) (fun _ _ _ h => h) (Or.inl ⟨by kernel_rfl, ?hy73_z⟩) (by assumption) ?rest73_z
  case hy73_z => (intro W_ hS_; (try dsimp only at hS_); go_simp; (try (with_reducible rfl)))
  try simp only [Act.put, siA, scZ, scS]
  refine wpAnyH_takeL (i := 74) (v := ?v74_z) 164 hns hall (op_at10 rfl) rfl (by kernel_rfl) (by kernel_rfl) (fun _ _ _ h => h) (Or.inl ⟨by kernel_rfl, ?hy74_z⟩) (by assumption) ?rest74_z
  case hy74_z => (intro W_ hS_; (try dsimp only at hS_); go_simp; (try (with_reducible rfl)))
  try simp only [Act.put, siA, scZ, scS]
  refine wpAnyH_takeL (i := 75) (v := ?v75_z) 165 hns hall (op_at10 rfl) rfl (by kernel_rfl) (by kernel_rfl) (fun _ _ _ h => h) (Or.inl ⟨by kernel_rfl, ?hy75_z⟩) (by assumption) ?rest75_z
  case hy75_z => (intro W_ hS_; (try dsimp only at hS_); go_simp; (try (with_reducible rfl)))
  try simp only [Act.put, siA, scZ, scS]
  refine wpAnyH_takeL (i := 76) (v := ?v76_z) 166 hns hall (op_at10 rfl) rfl (by kernel_rfl) (by kernel_rfl) (fun _ _ _ h => h) (Or.inl ⟨by kernel_rfl, ?hy76_z⟩) (by assumption) ?rest76_z
  case hy76_z => (intro W_ hS_; (try dsimp only at hS_); go_simp; (try (with_reducible rfl)))
  try simp only [Act.put, siA, scZ, scS]
  refine wpAnyH_takeL (i := 77) (v := ?v77_z) 167 hns hall (op_at10 rfl) rfl (by kernel_rfl) (by kernel_rfl) (fun _ _ _ h => h) (Or.inl ⟨by kernel_rfl, ?hy77_z⟩) (by assumption) ?rest77_z
  case hy77_z => (intro W_ hS_; (try dsimp only at hS_); go_simp; (try (with_reducible rfl)))
  try simp only [Act.put, siA, scZ, scS]
  refine wpAnyH_takeL (i := 78) (v := ?v78_z) 168 hns hall (op_at10 rfl) rfl (by kernel_rfl) (by kernel_rfl) (fun _ _ _ h => h) (Or.inl ⟨by kernel_rfl, ?hy78_z⟩) (by assumption) ?rest78_z
  case hy78_z => (intro W_ hS_; (try dsimp only at hS_); go_simp; (try (with_reducible rfl)))
  try simp only [Act.put, siA, scZ, scS]
  refine wpAnyH_takeL (i := 79) (v := ?v79_z) 169 hns hall (op_at10 rfl) rfl (by kernel_rfl) (by kernel_rfl) (fun _ _ _ h => h) (Or.inl ⟨by kernel_rfl, ?hy79_z⟩) (by assumption) ?rest79_z
  case hy79_z => (intro W_ hS_; (try dsimp only at hS_); go_simp; (try (with_reducible rfl)))
  try simp only [Act.put, siA, scZ, scS]
  refine wpAnyH_takeL (i := 80) (v := ?v80_z) 170 hns hall (op_at10 rfl) rfl (by kernel_rfl) (by kernel_rfl) (fun _ _ _ h => h) (Or.inl ⟨by kernel_rfl, ?hy80_z⟩) (by assumption) ?rest80_z
  case hy80_z => (intro W_ hS_; (try dsimp only at hS_); go_simp; (try (with_reducible rfl)))
  try simp only [Act.put, siA, scZ, scS]
  refine wpAnyH_takeL (i := 81) (v := ?v81_z) 171 hns hall (op_at10 rfl) rfl (by kernel_rfl) (by kernel_rfl) (fun _ _ _ h => h) (Or.inl ⟨by kernel_rfl, ?hy81_z⟩) (by assumption) ?rest81_z
  case hy81_z => (intro W_ hS_; (try dsimp only at hS_); go_simp; (try (with_reducible rfl)))
  try simp only [Act.put, siA, scZ, scS]
  refine wpAnyH_takeL (i := 82) (v := ?v82_z) 172 hns hall (op_at10 rfl) rfl (by kernel_rfl) (by kernel_rfl) (fun _ _ _ h => h) (Or.inl ⟨by kernel_rfl, ?hy82_z⟩) (by assumption) ?rest82_z
  case hy82_z => (intro W_ hS_; (try dsimp only at hS_); go_simp; (try (with_reducible rfl)))
  try simp only [Act.put, siA, scZ, scS]
  refine wpAnyH_takeL (i := 83) (v := ?v83_z) 173 hns hall (op_at10 rfl) rfl (by kernel_rfl) (by kernel_rfl) (fun _ _ _ h => h) (Or.inl ⟨by kernel_rfl, ?hy83_z⟩) (by assumption) ?rest83_z
  case hy83_z => (intro W_ hS_; (try dsimp only at hS_); go_simp; (try (with_reducible rfl)))
  try simp only [Act.put, siA, scZ, scS]
  refine wpAnyH_takeL (i := 84) (v := ?v84_z) 174 hns hall (op_at10 rfl) rfl (by kernel_rfl) (by kernel_rfl) (fun _ _ _ h => h) (Or.inl ⟨by kernel_rfl, ?hy84_z⟩) (by assumption) ?rest84_z
  case hy84_z => (intro W_ hS_; (try dsimp only at hS_); go_simp; (try (with_reducible rfl)))
  try simp only [Act.put, siA, scZ, scS]
  refine wpAnyH_takeL (i := 85) (v := ?v85_z) 175 hns hall (op_at10 rfl) rfl (by kernel_rfl) (by kernel_rfl) (fun _ _ _ h => h) (Or.inl ⟨by kernel_rfl, ?hy85_z⟩) (by assumption) ?rest85_z
  case hy85_z => (intro W_ hS_; (try dsimp only at hS_); go_simp; (try (with_reducible rfl)))
  try simp only [Act.put, siA, scZ, scS]
  refine wpAnyH_takeL (i := 86) (v := ?v86_z) 176 hns hall (op_at10 rfl) rfl (by kernel_rfl) (by kernel_rfl) (fun _ _ _ h => h) (Or.inl ⟨by kernel_rfl, ?hy86_z⟩) (by assumption) ?rest86_z
  case hy86_z => (intro W_ hS_; (try dsimp only at hS_); go_simp; (try (with_reducible rfl)))
  try simp only [Act.put, siA, scZ, scS]
  refine wpAnyH_takeL (i := 87) (v := ?v87_z) 177 hns hall (op_at10 rfl) rfl (by kernel_rfl) (by kernel_rfl) (fun _ _ _ h => h) (Or.inl ⟨by kernel_rfl, ?hy87_z⟩) (by assumption) ?rest87_z
  case hy87_z => (intro W_ hS_; (try dsimp only at hS_); go_simp; (try (with_reducible rfl)))
  try simp only [Act.put, siA, scZ, scS]
  refine wpAnyH_takeL (i := 88) (v := ?v88_z) 178 hns hall (op_at10 rfl) rfl (by kernel_rfl) (by kernel_rfl) (fun _ _ _ h => h) (Or.inl ⟨by kernel_rfl, ?hy88_z⟩) (by assumption) ?rest88_z
  case hy88_z => (intro W_ hS_; (try dsimp only at hS_); go_simp; (try (with_reducible rfl)))
  try simp only [Act.put, siA, scZ, scS]
  refine wpAnyH_takeL (i := 89) (v := ?v89_z) 179 hns hall (op_at10 rfl) rfl (by kernel_rfl) (by kernel_rfl) (fun _ _ _ h => h) (Or.inl ⟨by kernel_rfl, ?hy89_z⟩) (by assumption) ?rest89_z
  case hy89_z => (intro W_ hS_; (try dsimp only at hS_); go_simp; (try (with_reducible rfl)))
  try simp only [Act.put, siA, scZ, scS]
  refine wpAnyH_takeL (i := 90) (v := ?v90_z) 180 hns hall (op_at10 rfl) rfl (by kernel_rfl) (by kernel_rfl) (fun _ _ _ h => h) (Or.inl ⟨by kernel_rfl, ?hy90_z⟩) (by assumption) ?rest90_z
  case hy90_z => (intro W_ hS_; (try dsimp only at hS_); go_simp; (try (with_reducible rfl)))
  try simp only [Act.put, siA, scZ, scS]
  refine wpAnyH_takeL (i := 91) (v := ?v91_z) 181 hns hall (op_at10 rfl) rfl (by kernel_rfl) (by kernel_rfl) (fun _ _ _ h => h) (Or.inl ⟨by kernel_rfl, ?hy91_z⟩) (by assumption) ?rest91_z
  case hy91_z => (intro W_ hS_; (try dsimp only at hS_); go_simp; (try (with_reducible rfl)))
  try simp only [Act.put, siA, scZ, scS]
  refine wpAnyH_takeL (i := 92) (v := ?v92_z) 182 hns hall (op_at10 rfl) rfl (by kernel_rfl) (by kernel_rfl) (fun _ _ _ h => h) (Or.inl ⟨by kernel_rfl, ?hy92_z⟩) (by assumption) ?rest92_z
  case hy92_z => (intro W_ hS_; (try dsimp only at hS_); go_simp; (try (with_reducible rfl)))
  try simp only [Act.put, siA, scZ, scS]
  refine wpAnyH_takeL (i := 93) (v := ?v93_z) 183 hns hall (op_at10 rfl) rfl (by kernel_rfl) (by kernel_rfl) (fun _ _ _ h => h) (Or.inl ⟨by kernel_rfl, ?hy93_z⟩) (by assumption) ?rest93_z
  case hy93_z => (intro W_ hS_; (try dsimp only at hS_); go_simp; (try (with_reducible rfl)))
  try simp only [Act.put, siA, scZ, scS]
  refine wpAnyH_takeL (i := 94) (v := ?v94_z) 184 hns hall (op_at10 rfl) rfl (by kernel_rfl) (by kernel_rfl) (fun _ _ _ h => h) (Or.inl ⟨by kernel_rfl, ?hy94_z⟩) (by assumption) ?rest94_z
  case hy94_z => (intro W_ hS_; (try dsimp only at hS_); go_simp; (try (with_reducible rfl)))
  try simp only [Act.put, siA, scZ, scS]
  refine wpAnyH_takeL (i := 95) (v := ?v95_z) 185 hns hall (op_at10 rfl) rfl (by kernel_rfl) (by kernel_rfl) (fun _ _ _ h => h) (Or.inl ⟨by kernel_rfl, ?hy95_z⟩) (by assumption) ?rest95_z
  case hy95_z => (intro W_ hS_; (try dsimp only at hS_); go_simp; (try (with_reducible rfl)))
  try simp only [Act.put, siA, scZ, scS]
  refine wpAnyH_takeL (i := 96) (v := ?v96_z) 186 hns hall (op_at10 rfl) rfl (by kernel_rfl) (by kernel_rfl) (fun _ _ _ h => h) (Or.inl ⟨by kernel_rfl, ?hy96_z⟩) (by assumption) ?rest96_z
  case hy96_z => (intro W_ hS_; (try dsimp only at hS_); go_simp; (try (with_reducible rfl)))
  try simp only [Act.put, siA, scZ, scS]
  refine wpAnyH_takeL (i := 97) (v := ?v97_z) 187 hns hall (op_at10 rfl) rfl (by kernel_rfl) (by kernel_rfl) (fun _ _ _ h => h) (Or.inl ⟨by kernel_rfl, ?hy97_z⟩) (by assumption) ?rest97_z
  case hy97_z => (intro W_ hS_; (try dsimp only at hS_); go_simp; (try (with_reducible rfl)))
  try simp only [Act.put, siA, scZ, scS]
  refine wpAnyH_takeL (i := 98) (v := ?v98_z) 188 hns hall (op_at10 rfl) rfl (by kernel_rfl) (by kernel_rfl) (fun _ _ _ h => h) (Or.inl ⟨by kernel_rfl, ?hy98_z⟩) (by assumption) ?rest98_z
  case hy98_z => (intro W_ hS_; (try dsimp only at hS_); go_simp; (try (with_reducible rfl)))
  try simp only [Act.put, siA, scZ, scS]
  refine wpAnyH_takeL (i := 99) (v := ?v99_z) 189 hns hall (op_at10 rfl) rfl (by kernel_rfl) (by kernel_rfl) (fun _ _ _ h => h) (Or.inl ⟨by kernel_rfl, ?hy99_z⟩) (by assumption) ?rest99_z
  case hy99_z => (intro W_ hS_; (try dsimp only at hS_); go_simp; (try (with_reducible rfl)))
  try simp only [Act.put, siA, scZ, scS]
  refine wpAnyH_takeL (i := 100) (v := ?v100_z) 190 hns hall (op_at10 rfl) rfl (by kernel_rfl) (by kernel_rfl) (fun _ _ _ h => h) (Or.inl ⟨by kernel_rfl, ?hy100_z⟩) (by assumption) ?rest100_z
  case hy100_z => (intro W_ hS_; (try dsimp only at hS_); go_simp; (try (with_reducible rfl)))
  try simp only [Act.put, siA, scZ, scS]
  refine wpAnyH_takeL (i := 101) (v := ?v101_z) 191 hns hall (op_at10 rfl) rfl (by kernel_rfl) (by kernel_rfl) (fun _ _ _ h => h) (Or.inl ⟨by kernel_rfl, ?hy101_z⟩) (by assumption) ?rest101_z
  case hy101_z => (intro W_ hS_; (try dsimp only at hS_); go_simp; (try (with_reducible rfl)))
  try simp only [Act.put, siA, scZ, scS]
  refine wpAnyH_takeL (i := 102) (v := ?v102_z) 192 hns hall (op_at10 rfl) rfl (by kernel_rfl) (by kernel_rfl) (fun _ _ _ h => h) (Or.inl ⟨by kernel_rfl, ?hy102_z⟩) (by assumption) ?rest102_z
  case hy102_z => (intro W_ hS_; (try dsimp only at hS_); go_simp; (try (with_reducible rfl)))
  try simp only [Act.put, siA, scZ, scS]
  refine wpAnyH_takeL (i := 103) (v := ?v103_z) 193 hns hall (op_at10 rfl) rfl (by kernel_rfl) (by kernel_rfl) (fun _ _ _ h => h) (Or.inl ⟨by kernel_rfl, ?hy103_z⟩) (by assumption) ?rest103_z
  case hy103_z => (intro W_ hS_; (try dsimp only at hS_); go_simp; (try (with_reducible rfl)))
  try simp only [Act.put, siA, scZ, scS]
  refine wpAnyH_takeL (i := 104) (v := ?v104_z) 194 hns hall (op_at10 rfl) rfl (by kernel_rfl) (by kernel_rfl) (fun _ _ _ h => h) (Or.inl ⟨by kernel_rfl, ?hy104_z⟩) (by assumption) ?rest104_z
  case hy104_z => (intro W_ hS_; (try dsimp only at hS_); go_simp; (try (with_reducible rfl)))
  try simp only [Act.put, siA, scZ, scS]
  refine wpAnyH_takeL (i := 105) (v := ?v105_z) 195 hns hall (op_at10 rfl) rfl (by kernel_rfl) (by kernel_rfl) (fun _ _ _ h => h) (Or.inl ⟨by kernel_rfl, ?hy105_z⟩) (by assumption) ?rest105_z
  case hy105_z => (intro W_ hS_; (try dsimp only at hS_); go_simp; (try (with_reducible rfl)))
  try simp only [Act.put, siA, scZ, scS]
  refine wpAnyH_takeL (i := 106) (v := ?v106_z) 196 hns hall (op_at10 rfl) rfl (by kernel_rfl) (by kernel_rfl) (fun _ _ _ h => h) (Or.inl ⟨by kernel_rfl, ?hy106_z⟩) (by assumption) ?rest106_z
  case hy106_z => (intro W_ hS_; (try dsimp only at hS_); go_simp; (try (with_reducible rfl)))
  try simp only [Act.put, siA, scZ, scS]
  refine wpAnyH_takeL (i := 107) (v := ?v107_z) 197 hns hall (op_at10 rfl) rfl (by kernel_rfl) (by kernel_rfl) (fun _ _ _ h => h) (Or.inl ⟨by kernel_rfl, ?hy107_z⟩) (by assumption) ?rest107_z
  case hy107_z => (intro W_ hS_; (try dsimp only at hS_); go_simp; (try (with_reducible rfl)))
  try simp only [Act.put, siA, scZ, scS]
  refine wpAnyH_takeL (i := 108) (v := ?v108_z) 198 hns hall (op_at10 rfl) rfl (by kernel_rfl) (by kernel_rfl) (fun _ _ _ h => h) (Or.inl ⟨by kernel_rfl, ?hy108_z⟩) (by assumption) ?rest108_z
  case hy108_z => (intro W_ hS_; (try dsimp only at hS_); go_simp; (try (with_reducible rfl)))
  try simp only [Act.put, siA, scZ, scS]
  refine wpAnyH_takeL (i := 109) (v := ?v109_z) 199 hns hall (op_at10 rfl) rfl (by kernel_rfl) (by kernel_rfl) (fun _ _ _ h => h) (Or.inl ⟨by kernel_rfl, ?hy109_z⟩) (by assumption) ?rest109_z
  case hy109_z => (intro W_ hS_; (try dsimp only at hS_); go_simp; (try (with_reducible rfl)))
  try simp only [Act.put, siA, scZ, scS]
  refine wpAnyH_takeL (i := 110) (v := ?v110_z) 200 hns hall (op_at10 rfl) rfl (by kernel_rfl) (by kernel_rfl) (fun _ _ _ h => h) (Or.inl ⟨by kernel_rfl, ?hy110_z⟩) (by assumption) ?rest110_z
  case hy110_z => (intro W_ hS_; (try dsimp only at hS_); go_simp; (try (with_reducible rfl)))
  try simp only [Act.put, siA, scZ, scS]
  refine wpAnyH_takeL (i := 111) (v := ?v111_z) 201 hns hall (op_at10 rfl) rfl (by kernel_rfl) (by kernel_rfl) (fun _ _ _ h => h) (Or.inl ⟨by kernel_rfl, ?hy111_z⟩) (by assumption) ?rest111_z
  case hy111_z => (intro W_ hS_; (try dsimp only at hS_); go_simp; (try (with_reducible rfl)))
  try simp only [Act.put, siA, scZ, scS]
  refine wpAnyH_takeL (i := 112) (v := ?v112_z) 202 hns hall (op_at10 rfl) rfl (by kernel_rfl) (by kernel_rfl) (fun _ _ _ h => h) (Or.inl ⟨by kernel_rfl, ?hy112_z⟩) (by assumption) ?rest112_z
  case hy112_z => (intro W_ hS_; (try dsimp only at hS_); go_simp; (try (with_reducible rfl)))
  try simp only [Act.put, siA, scZ, scS]
  refine wpAnyH_takeL (i := 113) (v := ?v113_z) 203 hns hall (op_at10 rfl) rfl (by kernel_rfl) (by kernel_rfl) (fun _ _ _ h => h) (Or.inl ⟨by kernel_rfl, ?hy113_z⟩) (by assumption) ?rest113_z
  case hy113_z => (intro W_ hS_; (try dsimp only at hS_); go_simp; (try (with_reducible rfl)))
  try simp only [Act.put, siA, scZ, scS]
  refine wpAnyH_takeL (i := 114) (v := ?v114_z) 204 hns hall (op_at10 rfl) rfl (by kernel_rfl) (by kernel_rfl) (fun _ _ _ h => h) (Or.inl ⟨by kernel_rfl, ?hy114_z⟩) (by assumption) ?rest114_z
  case hy114_z => (intro W_ hS_; (try dsimp only at hS_); go_simp; (try (with_reducible rfl)))
  try simp only [Act.put, siA, scZ, scS]
  refine wpAnyH_takeL (i := 115) (v := ?v115_z) 205 hns hall (op_at10 rfl) rfl (by kernel_rfl) (by kernel_rfl) (fun _ _ _ h => h) (Or.inl ⟨by kernel_rfl, ?hy115_z⟩) (by assumption) ?rest115_z
  case hy115_z => (intro W_ hS_; (try dsimp only at hS_); go_simp; (try (with_reducible rfl)))
  try simp only [Act.put, siA, scZ, scS]
  refine wpAnyH_takeL (i := 116) (v := ?v116_z) 206 hns hall (op_at10 rfl) rfl (by kernel_rfl) (by kernel_rfl) (fun _ _ _ h => h) (Or.inl ⟨by kernel_rfl, ?hy116_z⟩) (by assumption) ?rest116_z
  case hy116_z => (intro W_ hS_; (try dsimp only at hS_); go_simp; (try (with_reducible rfl)))
  try simp only [Act.put, siA, scZ, scS]
  refine wpAnyH_takeL (i := 117) (v := ?v117_z) 207 hns hall (op_at10 rfl) rfl (by kernel_rfl) (by kernel_rfl) (fun _ _ _ h => h) (Or.inl ⟨by kernel_rfl, ?hy117_z⟩) (by assumption) ?rest117_z
  case hy117_z => (intro W_ hS_; (try dsimp only at hS_); go_simp; (try (with_reducible rfl)))
  try simp only [Act.put, siA, scZ, scS]
  refine wpAnyH_takeL (i := 118) (v := ?v118_z) 208 hns hall (op_at10 rfl) rfl (by kernel_rfl) (by kernel_rfl) (fun _ _ _ h => h) (Or.inl ⟨by kernel_rfl, ?hy118_z⟩) (by assumption) ?rest118_z
  case hy118_z => (intro W_ hS_; (try dsimp only at hS_); go_simp; (try (with_reducible rfl)))
  try simp only [Act.put, siA, scZ, scS]
  refine wpAnyH_takeL (i := 119) (v := ?v119_z) 209 hns hall (op_at10 rfl) rfl (by kernel_rfl) (by kernel_rfl) (fun _ _ _ h => h) (Or.inl ⟨by kernel_rfl, ?hy119_z⟩) (by assumption) ?rest119_z
  case hy119_z => (intro W_ hS_; (try dsimp only at hS_); go_simp; (try (with_reducible rfl)))
  try simp only [Act.put, siA, scZ, scS]
  refine wpAnyH_takeL (i := 120) (v := ?v120_z) 210 hns hall (op_at10 rfl) rfl (by kernel_rfl) (by kernel_rfl) (fun _ _ _ h => h) (Or.inl ⟨by kernel_rfl, ?hy120_z⟩) (by assumption) ?rest120_z
  case hy120_z => (intro W_ hS_; (try dsimp only at hS_); go_simp; (try (with_reducible rfl)))
  try simp only [Act.put, siA, scZ, scS]
  refine wpAnyH_takeL (i := 121) (v := ?v121_z) 211 hns hall (op_at10 rfl) rfl (by kernel_rfl) (by kernel_rfl) (fun _ _ _ h => h) (Or.inl ⟨by kernel_rfl, ?hy121_z⟩) (by assumption) ?rest121_z
  case hy121_z => (intro W_ hS_; (try dsimp only at hS_); go_simp; (try (with_reducible rfl)))
  try simp only [Act.put, siA, scZ, scS]
  refine wpAnyH_takeL (i := 122) (v := ?v122_z) 212 hns hall (op_at10 rfl) rfl (by kernel_rfl) (by kernel_rfl) (fun _ _ _ h => h) (Or.inl ⟨by kernel_rfl, ?hy122_z⟩) (by assumption) ?rest122_z
  case hy122_z => (intro W_ hS_; (try dsimp only at hS_); go_simp; (try (with_reducible rfl)))
  try simp only [Act.put, siA, scZ, scS]
  refine wpAnyH_takeL (i := 123) (v := ?v123_z) 213 hns hall (op_at10 rfl) rfl (by kernel_rfl) (by kernel_rfl) (fun _ _ _ h => h) (Or.inl ⟨by kernel_rfl, ?hy123_z⟩) (by assumption) ?rest123_z
  case hy123_z => (intro W_ hS_; (try dsimp only at hS_); go_simp; (try (with_reducible rfl)))
  try simp only [Act.put, siA, scZ, scS]
  refine wpAnyH_takeL (i := 124) (v := ?v124_z) 214 hns hall (op_at10 rfl) rfl (by kernel_rfl) (by kernel_rfl) (fun _ _ _ h => h) (Or.inl ⟨by kernel_rfl, ?hy124_z⟩) (by assumption) ?rest124_z
  case hy124_z => (intro W_ hS_; (try dsimp only at hS_); go_simp; (try (with_reducible rfl)))
  try simp only [Act.put, siA, scZ, scS]
  refine wpAnyH_takeL (i := 125) (v := ?v125_z) 215 hns hall (op_at10 rfl) rfl (by kernel_rfl) (by kernel_rfl) (fun _ _ _ h => h) (Or.inl ⟨by kernel_rfl, ?hy125_z⟩) (by assumption) ?rest125_z
  case hy125_z => (intro W_ hS_; (try dsimp only at hS_); go_simp; (try (with_reducible rfl)))
  try simp only [Act.put, siA, scZ, scS]
  refine wpAnyH_takeL (i := 126) (v := ?v126_z) 216 hns hall (op_at10 rfl) rfl (by kernel_rfl) (by kernel_rfl) (fun _ _ _ h => h) (Or.inl ⟨by kernel_rfl, ?hy126_z⟩) (by assumption) ?rest126_z
  case hy126_z => (intro W_ hS_; (try dsimp only at hS_); go_simp; (try (with_reducible rfl)))
  try simp only [Act.put, siA, scZ, scS]
  refine wpAnyH_takeL (i := 127) (v := ?v127_z) 217 hns hall (op_at10 rfl) rfl (by kernel_rfl) (by kernel_rfl) (fun _ _ _ h => h) (Or.inl ⟨by kernel_rfl, ?hy127_z⟩) (by assumption) ?rest127_z
  case hy127_z => (intro W_ hS_; (try dsimp only at hS_); go_simp; (try (with_reducible rfl)))
  try simp only [Act.put, siA, scZ, scS]
  refine wpAnyH_takeL (i := 128) (v := ?v128_z) 218 hns hall (op_at10 rfl) rfl (by kernel_rfl) (by kernel_rfl) (fun _ _ _ h => h) (Or.inl ⟨by kernel_rfl, ?hy128_z⟩) (by assumption) ?rest128_z
  case hy128_z => (intro W_ hS_; (try dsimp only at hS_); go_simp; (try (with_reducible rfl)))
  try simp only [Act.put, siA, scZ, scS]
  refine wpAnyH_takeL (i := 129) (v := ?v129_z) 219 hns hall (op_at10 rfl) rfl (by kernel_rfl) (by kernel_rfl) (fun _ _ _ h => h) (Or.inl ⟨by kernel_rfl, ?hy129_z⟩) (by assumption) ?rest129_z
  case hy129_z => (intro W_ hS_; (try dsimp only at hS_); go_simp; (try (with_reducible rfl)))
  try simp only [Act.put, siA, scZ, scS]
  refine wpAnyH_takeL (i := 130) (v := ?v130_z) 220 hns hall (op_at10 rfl) rfl (by kernel_rfl) (by kernel_rfl) (fun _ _ _ h => h) (Or.inl ⟨by kernel_rfl, ?hy130_z⟩) (by assumption) ?rest130_z
  case hy130_z => (intro W_ hS_; (try dsimp only at hS_); go_simp; (try (with_reducible rfl)))
  try simp only [Act.put, siA, scZ, scS]
  refine wpAnyH_takeL (i := 131) (v := ?v131_z) 221 hns hall (op_at10 rfl) rfl (by kernel_rfl) (by kernel_rfl) (fun _ _ _ h => h) (Or.inl ⟨by kernel_rfl, ?hy131_z⟩) (by assumption) ?rest131_z
  case hy131_z => (intro W_ hS_; (try dsimp only at hS_); go_simp; (try (with_reducible rfl)))
  try simp only [Act.put, siA, scZ, scS]
  refine wpAnyH_ready (rs := [132]) (by kernel_rfl) (by simp) ?_
  refine AllReadyH.cons (op_at10 rfl) (fun K_ hK_ => ?_) AllReadyH.nil
  go_simp
  refine (refNew_lit _).mono ?_; rintro e wr132 ⟨rfl, hBr132⟩
  go_wp2_with fail
  refine hK_.out _ _ (by exact ⟨(hcell_to (hcell_to (hcell_to (hcell_to (hcell_to s0_0 (below_drew1 _)) hBr7) (below_alloc1 _ _)) hBr35) hBr132), (hcell_to (hcell_to (hcell_to (hcell_to (hcell_to s0_1 (below_drew1 _)) hBr7) (below_alloc1 _ _)) hBr35) hBr132), (hcell_to (hcell_to (hcell_to (hcell_to (hcell_to s0_2 (below_drew1 _)) hBr7) (below_alloc1 _ _)) hBr35) hBr132), (hcell_to (hcell_to (hcell_to (hcell_to (hcell_to s0_3 (below_drew1 _)) hBr7) (below_alloc1 _ _)) hBr35) hBr132), (hcell_to (hcell_to (hcell_to (hcell_to (hcell_to s0_4 (below_drew1 _)) hBr7) (below_alloc1 _ _)) hBr35) hBr132), (hcell_to (hcell_to (hcell_to (hcell_to (hcell_to s0_5 (below_drew1 _)) hBr7) (below_alloc1 _ _)) hBr35) hBr132), (hcell_to (hcell_to (hcell_to (hcell_to (hcell_to s0_6 (below_drew1 _)) hBr7) (below_alloc1 _ _)) hBr35) hBr132), (hcell_to (hcell_to (hcell_to (hcell_to (hcell_to s0_7 (below_drew1 _)) hBr7) (below_alloc1 _ _)) hBr35) hBr132), (hcell_to (hcell_to (hcell_to (hcell_to (hcell_to s1_6 (below_drew1 _)) hBr7) (below_alloc1 _ _)) hBr35) hBr132), (hcell_to (hcell_to (hcell_to (hcell_to (hcell_to s1_7 (below_drew1 _)) hBr7) (below_alloc1 _ _)) hBr35) hBr132), (hcell_to (hcell_to (hcell_to (hcell_to (hcell_to s2_6 (below_drew1 _)) hBr7) (below_alloc1 _ _)) hBr35) hBr132), (hcell_to (hcell_to (hcell_to (hcell_to (hcell_to s3_0 (below_drew1 _)) hBr7) (below_alloc1 _ _)) hBr35) hBr132), (hcell_to (hcell_to (hcell_to (hcell_to (hcell_to s3_6 (below_drew1 _)) hBr7) (below_alloc1 _ _)) hBr35) hBr132), (hcell_to (hcell_to (hcell_to (hcell_to (hcell_to s4_0 (below_drew1 _)) hBr7) (below_alloc1 _ _)) hBr35) hBr132), (hcell_to (hcell_to (hcell_to (hcell_to (hcell_to s4_6 (below_drew1 _)) hBr7) (below_alloc1 _ _)) hBr35) hBr132), (hcell_to (hcell_to (hcell_to (hcell_to (hcell_to s4_7 (below_drew1 _)) hBr7) (below_alloc1 _ _)) hBr35) hBr132), (hcell_to (hcell_to (hcell_to (hcell_to (hcell_to se0_0 (below_drew1 _)) hBr7) (below_alloc1 _ _)) hBr35) hBr132), (hcell_to (hcell_to (hcell_to (hcell_to (hcell_to se1_6 (below_drew1 _)) hBr7) (below_alloc1 _ _)) hBr35) hBr132), (hcell_to (hcell_to (hcell_to (hcell_to (hcell_to se2_2 (below_drew1 _)) hBr7) (below_alloc1 _ _)) hBr35) hBr132), (hcell_to (hcell_to (hcell_to (hcell_to (hcell_to se3_3 (below_drew1 _)) hBr7) (below_alloc1 _ _)) hBr35) hBr132), (hcell_to (hcell_to (hcell_to (hcell_to (hcell_to se2_0 (below_drew1 _)) hBr7) (below_alloc1 _ _)) hBr35) hBr132), (hcell_to (hcell_to (hcell_to (hcell_to (hcell_to se4_2 (below_drew1 _)) hBr7) (below_alloc1 _ _)) hBr35) hBr132), (hcell_to (hcell_to (hcell_to (hcell_to (hcell_to se5_3 (below_drew1 _)) hBr7) (below_alloc1 _ _)) hBr35) hBr132), (hcell_to (hcell_to (hcell_to (hcell_to (hcell_to se6_2 (below_drew1 _)) hBr7) (below_alloc1 _ _)) hBr35) hBr132), (hcell_to (hcell_to (hcell_to (hcell_to (hcell_to se7_2 (below_drew1 _)) hBr7) (below_alloc1 _ _)) hBr35) hBr132), (hcell_to (hcell_to (hcell_to (hcell_to (hcell_to se7_3 (below_drew1 _)) hBr7) (below_alloc1 _ _)) hBr35) hBr132), (hcell_to (hcell_to (hcell_to (hcell_to (hcell_to se7_4 (below_drew1 _)) hBr7) (below_alloc1 _ _)) hBr35) hBr132), (hcell_to (hcell_to (hcell_to (hcell_to (hcell_to se7_5 (below_drew1 _)) hBr7) (below_alloc1 _ _)) hBr35) hBr132), (hcell_to (hcell_to (hcell_to (hcell_to (hcell_to sf0_6 (below_drew1 _)) hBr7) (below_alloc1 _ _)) hBr35) hBr132), (hcell_to (hcell_to (hcell_to (hcell_to (hcell_to sf1_0 (below_drew1 _)) hBr7) (below_alloc1 _ _)) hBr35) hBr132), (hcell_to (hcell_to (hcell_to (hcell_to (hcell_to se8_6 (below_drew1 _)) hBr7) (below_alloc1 _ _)) hBr35) hBr132)⟩) (fun hHeld_132 => ?_)
  clear hK_
  try simp only [Act.put, siA, scZ, scS]
  refine wpAnyH_takeL (i := 133) (v := ?v133_z) 223 hns hall (op_at10 rfl) rfl (by kernel_rfl) (by kernel_rfl) (fun _ _ _ h => h) (Or.inl ⟨by kernel_rfl, ?hy133_z⟩) (by assumption) ?rest133_z
  case hy133_z => (intro W_ hS_; (try dsimp only at hS_); go_simp; (try (with_reducible rfl)))
  try simp only [Act.put, siA, scZ, scS]
  refine wpAnyH_takeL (i := 134) (v := ?v134_z) 224 hns hall (op_at10 rfl) rfl (by kernel_rfl) (by kernel_rfl) (fun _ _ _ h => h) (Or.inl ⟨by kernel_rfl, ?hy134_z⟩) (by assumption) ?rest134_z
  case hy134_z => (intro W_ hS_; (try dsimp only at hS_); go_simp; (try (with_reducible rfl)))
  try simp only [Act.put, siA, scZ, scS]
  refine wpAnyH_takeL (i := 135) (v := ?v135_z) 225 hns hall (op_at10 rfl) rfl (by kernel_rfl) (by kernel_rfl) (fun _ _ _ h => h) (Or.inl ⟨by kernel_rfl, ?hy135_z⟩) (by assumption) ?rest135_z
  case hy135_z => (intro W_ hS_; (try dsimp only at hS_); go_simp; (try (with_reducible rfl)))
  try simp only [Act.put, siA, scZ, scS]
  refine wpAnyH_takeL (i := 136) (v := ?v136_z) 226 hns hall (op_at10 rfl) rfl (by kernel_rfl) (by kernel_rfl) (fun _ _ _ h => h) (Or.inl ⟨by kernel_rfl, ?hy136_z⟩) (by assumption) ?rest136_z
  case hy136_z => (intro W_ hS_; (try dsimp only at hS_); go_simp; (try (with_reducible rfl)))
  try simp only [Act.put, siA, scZ, scS]
  refine wpAnyH_takeL (i := 137) (v := ?v137_z) 227 hns hall (op_at10 rfl) rfl (by kernel_rfl) (by kernel_rfl) (fun _ _ _ h => h) (Or.inl ⟨by kernel_rfl, ?hy137_z⟩) (by assumption) ?rest137_z
  case hy137_z => (intro W_ hS_; (try dsimp only at hS_); go_simp; (try (with_reducible rfl)))
  try simp only [Act.put, siA, scZ, scS]
  refine wpAnyH_takeL (i := 138) (v := ?v138_z) 228 hns hall (op_at10 rfl) rfl (by kernel_rfl) (by kernel_rfl) (fun _ _ _ h => h) (Or.inl ⟨by kernel_rfl, ?hy138_z⟩) (by assumption) ?rest138_z
  case hy138_z => (intro W_ hS_; (try dsimp only at hS_); go_simp; (try (with_reducible rfl)))
  try simp only [Act.put, siA, scZ, scS]
  refine wpAnyH_takeL (i := 139) (v := ?v139_z) 229 hns hall (op_at10 rfl) rfl (by kernel_rfl) (by kernel_rfl) (fun _ _ _ h => h) (Or.inl ⟨by kernel_rfl, ?hy139_z⟩) (by assumption) ?rest139_z
  case hy139_z => (intro W_ hS_; (try dsimp only at hS_); go_simp; (try (with_reducible rfl)))
  try simp only [Act.put, siA, scZ, scS]
  refine wpAnyH_takeL (i := 140) (v := ?v140_z) 230 hns hall (op_at10 rfl) rfl (by kernel_rfl) (by kernel_rfl) (fun _ _ _ h => h) (Or.inl ⟨by kernel_rfl, ?hy140_z⟩) (by assumption) ?rest140_z
  case hy140_z => (intro W_ hS_; (try dsimp only at hS_); go_simp; (try (with_reducible rfl)))
  try simp only [Act.put, siA, scZ, scS]
  refine wpAnyH_takeL (i := 141) (v := ?v141_z) 231 hns hall (op_at10 rfl) rfl (by kernel_rfl) (by kernel_rfl) (fun _ _ _ h => h) (Or.inl ⟨by kernel_rfl, ?hy141_z⟩) (by assumption) ?rest141_z
  case hy141_z => (intro W_ hS_; (try dsimp only at hS_); go_simp; (try (with_reducible rfl)))
  try simp only [Act.put, siA, scZ, scS]
  refine wpAnyH_takeL (i := 142) (v := ?v142_z) 232 hns hall (op_at10 rfl) rfl (by kernel_rfl) (by kernel_rfl) (fun _ _ _ h => h) (Or.inl ⟨by kernel_rfl, ?hy142_z⟩) (by assumption) ?rest142_z
  case hy142_z => (intro W_ hS_; (try dsimp only at hS_); go_simp; (try (with_reducible rfl)))
  try simp only [Act.put, siA, scZ, scS]
  refine wpAnyH_takeL (i := 143) (v := ?v143_z) 233 hns hall (op_at10 rfl) rfl (by kernel_rfl) (by kernel_rfl) (fun _ _ _ h => h) (Or.inl ⟨by kernel_rfl, ?hy143_z⟩) (by assumption) ?rest143_z
  case hy143_z => (intro W_ hS_; (try dsimp only at hS_); go_simp; (try (with_reducible rfl)))
  try simp only [Act.put, siA, scZ, scS]
  refine wpAnyH_takeL (i := 144) (v := ?v144_z) 234 hns hall (op_at10 rfl) rfl (by kernel_rfl) (by kernel_rfl) (fun _ _ _ h => h) (Or.inl ⟨by kernel_rfl, ?hy144_z⟩) (by assumption) ?rest144_z
  case hy144_z => (intro W_ hS_; (try dsimp only at hS_); go_simp; (try (with_reducible rfl)))
  try simp only [Act.put, siA, scZ, scS]
  refine wpAnyH_takeL (i := 145) (v := ?v145_z) 235 hns hall (op_at10 rfl) rfl (by kernel_rfl) (by kernel_rfl) (fun _ _ _ h => h) (Or.inl ⟨by kernel_rfl, ?hy145_z⟩) (by assumption) ?rest145_z
  case hy145_z => (intro W_ hS_; (try dsimp only at hS_); go_simp; (try (with_reducible rfl)))
  try simp only [Act.put, siA, scZ, scS]
  refine wpAnyH_takeL (i := 146) (v := ?v146_z) 236 hns hall (op_at10 rfl) rfl (by kernel_rfl) (by kernel_rfl) (fun _ _ _ h => h) (Or.inl ⟨by kernel_rfl, ?hy146_z⟩) (by assumption) ?rest146_z
  case hy146_z => (intro W_ hS_; (try dsimp only at hS_); go_simp; (try (with_reducible rfl)))
  try simp only [Act.put, siA, scZ, scS]
  refine wpAnyH_takeL (i := 147) (v := ?v147_z) 237 hns hall (op_at10 rfl) rfl (by kernel_rfl) (by kernel_rfl) (fun _ _ _ h => h) (Or.inl ⟨by kernel_rfl, ?hy147_z⟩) (by assumption) ?rest147_z
  case hy147_z => (intro W_ hS_; (try dsimp only at hS_); go_simp; (try (with_reducible rfl)))
  try simp only [Act.put, siA, scZ, scS]
  refine wpAnyH_takeL (i := 148) (v := ?v148_z) 238 hns hall (op_at10 rfl) rfl (by kernel_rfl) (by kernel_rfl) (fun _ _ _ h => h) (Or.inl ⟨by kernel_rfl, ?hy148_z⟩) (by assumption) ?rest148_z
  case hy148_z => (intro W_ hS_; (try dsimp only at hS_); go_simp; (try (with_reducible rfl)))
  try simp only [Act.put, siA, scZ, scS]
  refine wpAnyH_takeL (i := 149) (v := ?v149_z) 239 hns hall (op_at10 rfl) rfl (by kernel_rfl) (by kernel_rfl) (fun _ _ _ h => h) (Or.inl ⟨by kernel_rfl, ?hy149_z⟩) (by assumption) ?rest149_z
  case hy149_z => (intro W_ hS_; (try dsimp only at hS_); go_simp; (try (with_reducible rfl)))
  try simp only [Act.put, siA, scZ, scS]
  refine wpAnyH_takeL (i := 150) (v := ?v150_z) 240 hns hall (op_at10 rfl) rfl (by kernel_rfl) (by kernel_rfl) (fun _ _ _ h => h) (Or.inl ⟨by kernel_rfl, ?hy150_z⟩) (by assumption) ?rest150_z
  case hy150_z => (intro W_ hS_; (try dsimp only at hS_); go_simp; (try (with_reducible rfl)))
  try simp only [Act.put, siA, scZ, scS]
  refine wpAnyH_takeL (i := 151) (v := ?v151_z) 241 hns hall (op_at10 rfl) rfl (by kernel_rfl) (by kernel_rfl) (fun _ _ _ h => h) (Or.inl ⟨by kernel_rfl, ?hy151_z⟩) (by assumption) ?rest151_z
  case hy151_z => (intro W_ hS_; (try dsimp only at hS_); go_simp; (try (with_reducible rfl)))
  try simp only [Act.put, siA, scZ, scS]
  refine wpAnyH_takeL (i := 152) (v := ?v152_z) 242 hns hall (op_at10 rfl) rfl (by kernel_rfl) (by kernel_rfl) (fun _ _ _ h => h) (Or.inl ⟨by kernel_rfl, ?hy152_z⟩) (by assumption) ?rest152_z
  case hy152_z => (intro W_ hS_; (try dsimp only at hS_); go_simp; (try (with_reducible rfl)))
  try simp only [Act.put, siA, scZ, scS]
  refine wpAnyH_takeL (i := 153) (v := ?v153_z) 243 hns hall (op_at10 rfl) rfl (by kernel_rfl) (by kernel_rfl) (fun _ _ _ h => h) (Or.inl ⟨by kernel_rfl, ?hy153_z⟩) (by assumption) ?rest153_z
  case hy153_z => (intro W_ hS_; (try dsimp only at hS_); go_simp; (try (with_reducible rfl)))
  try simp only [Act.put, siA, scZ, scS]
  refine wpAnyH_takeL (i := 154) (v := ?v154_z) 244 hns hall (op_at10 rfl) rfl (by kernel_rfl) (by kernel_rfl) (fun _ _ _ h => h) (Or.inl ⟨by kernel_rfl, ?hy154_z⟩) (by assumption) ?rest154_z
  case hy154_z => (intro W_ hS_; (try dsimp only at hS_); go_simp; (try (with_reducible rfl)))
  try simp only [Act.put, siA, scZ, scS]
  refine wpAnyH_takeL (i := 155) (v := ?v155_z) 245 hns hall (op_at10 rfl) rfl (by kernel_rfl) (by kernel_rfl) (fun _ _ _ h => h) (Or.inl ⟨by kernel_rfl, ?hy155_z⟩) (by assumption) ?rest155_z
  case hy155_z => (intro W_ hS_; (try dsimp only at hS_); go_simp; (try (with_reducible rfl)))
  try simp only [Act.put, siA, scZ, scS]
  refine wpAnyH_takeL (i := 156) (v := ?v156_z) 0 hns hall (op_at10 rfl) rfl (by kernel_rfl) (by kernel_rfl) (fun _ _ _ h => h) (Or.inl ⟨by kernel_rfl, ?hy156_z⟩) (by assumption) ?rest156_z
  case hy156_z => (intro W_ hS_; (try dsimp only at hS_); go_simp; (try (with_reducible rfl)))
  try simp only [Act.put, siA, scZ, scS]
  refine wpAnyH_done (by kernel_rfl) ?_ _
  go_wp2_with fail
  go_ret
  exact ⟨rfl, (below_then (below_then (below_then (below_then (below_then HT (below_drew1 _)) hBr7) (below_alloc1 _ _)) hBr35) hBr132)⟩
end Go.Proofs.YtcifjccojmfpaaaGreat

namespace Go.Proofs.YtcifjccojmfpaaaGreat
open Go.RowKit
set_option linter.unusedVariables false
set_option linter.unusedSimpArgs false
def offTo (Ns : List NC) : Nat → List Nat
  | 0 => []
  | k + 1 => offTo Ns k ++ if hasN (nd Ns k) then [k] else []
def offN (Ns : List NC) : List Nat := offTo Ns Ns.length
def offF (Ns : List NC) (l : List Nat) : List FC := l.map fun i => nextF (nd Ns i)
def offI (l : List Nat) : List Int := l.map fun (i : Nat) => Int.ofNat i
theorem off_le (Ns : List NC) (k : Nat) : (offTo Ns k).length ≤ k := by
  induction k with
  | zero => exact Nat.le_refl _
  | succ k ih => rw [offTo, List.length_append]; split <;> simp <;> omega
theorem off_mem {Ns : List NC} : ∀ {k i : Nat}, i ∈ offTo Ns k ↔ i < k ∧ hasN (nd Ns i) = true
  | 0, i => by simp [offTo]
  | k + 1, i => by
    have ih := off_mem (Ns := Ns) (k := k) (i := i)
    rw [offTo, List.mem_append, ih]
    cases h : hasN (nd Ns k) with
    | true =>
      simp only [if_true, List.mem_singleton]
      constructor
      · rintro (⟨h1, h2⟩ | rfl)
        · exact ⟨by omega, h2⟩
        · exact ⟨by omega, h⟩
      · rintro ⟨h1, h2⟩
        by_cases e : i = k
        · exact .inr e
        · exact .inl ⟨by omega, h2⟩
    | false =>
      simp only [Bool.false_eq_true, if_false, List.not_mem_nil, or_false]
      constructor
      · rintro ⟨h1, h2⟩; exact ⟨by omega, h2⟩
      · rintro ⟨h1, h2⟩
        by_cases e : i = k
        · subst e; rw [h] at h2; cases h2
        · exact ⟨by omega, h2⟩
theorem off_pre (Ns : List NC) {a k : Nat} (h : a ≤ k) : ∃ r, offTo Ns k = offTo Ns a ++ r := by
  induction k with
  | zero => obtain rfl : a = 0 := by omega
            exact ⟨[], by simp⟩
  | succ k ih =>
    by_cases e : a = k + 1
    · subst e; exact ⟨[], by simp⟩
    · obtain ⟨r, hr⟩ := ih (by omega)
      exact ⟨r ++ if hasN (nd Ns k) then [k] else [], by rw [offTo, hr]; simp⟩
theorem off_at (Ns : List NC) {a k : Nat} (h : a < k) (ha : hasN (nd Ns a) = true) : (offTo Ns k)[(offTo Ns a).length]? = some a := by
  obtain ⟨r, hr⟩ := off_pre Ns (show a + 1 ≤ k from h)
  rw [hr, offTo, ha]
  simp
theorem off_front (Ns : List NC) {a k j b : Nat} (h : a ≤ k) (hj : j < (offTo Ns a).length) (hb : (offTo Ns k)[j]? = some b) : b < a ∧ hasN (nd Ns b) = true := by
  obtain ⟨r, hr⟩ := off_pre Ns h
  rw [hr, List.getElem?_append_left hj] at hb
  exact off_mem.1 (List.mem_of_getElem? hb)
theorem off_lt {Ns : List NC} {k j b : Nat} (hb : (offTo Ns k)[j]? = some b) : b < k ∧ hasN (nd Ns b) = true := off_mem.1 (List.mem_of_getElem? hb)
theorem rank_eqB (F G : FC) : (!lessC F G && !lessC G F) = decide (rankC G = rankC F) := by
  unfold lessC
  rcases lexB_tri (rankC F) (rankC G) with h | h | h
  · rw [h, lexB_irr]; simp
  · rw [h, decide_eq_false (fun e => by rw [e, lexB_irr] at h; cases h)]; rfl
  · rw [h, decide_eq_false (fun e => by rw [e, lexB_irr] at h; cases h)]; simp
theorem along_rank {Ns : List NC} (hw : 0 ≤ winN Ns) {b : Nat} (hb : hasN (nd Ns b) = true) : alongN Ns b = decide (rankC (nextF (nd Ns b)) = rankC (winF Ns)) := by
  unfold alongN
  rw [decide_eq_true hw, hb, Bool.true_and, Bool.true_and, rank_eqB]
def winPos (Ns : List NC) : Int := if winN Ns < 0 then -1 else ((offTo Ns (winN Ns).toNat).length : Int)
theorem win_least {w : World} {P : Nat → Prop} {Ns : List NC} {fs : List FV} (h : FsIs w P fs (offF Ns (offN Ns))) (hok : OkNs Ns) :
    (∀ f ∈ fs, FOk f) ∧ ∃ (W : List Int) (q : Nat), LeastE W (ranks fs) ∧ W.length = q ∧ q ≤ 32 ∧ winOf W (ranks fs) = winPos Ns := by
  have hlen : fs.length = (offN Ns).length := by rw [h.1]; simp [offF]
  have hat : ∀ (j : Nat) (f : FV), fs[j]? = some f → ∃ b, (offN Ns)[j]? = some b ∧ FIs w P f (nextF (nd Ns b)) := by
    intro j f hf
    have hj : j < (offN Ns).length := by rw [← hlen]; exact (List.getElem?_eq_some_iff.1 hf).1
    exact ⟨_, List.getElem?_eq_getElem hj, h.2 j f _ hf (by simp [offF, List.getElem?_eq_getElem hj])⟩
  have hfok : ∀ f ∈ fs, FOk f := by
    intro f hf
    obtain ⟨j, hj⟩ := List.getElem?_of_mem hf
    obtain ⟨b, hb, hi⟩ := hat j f hj
    obtain ⟨h1, h2⟩ := off_lt hb
    exact fok_of hi (okC_of (next_right (hok.at_ h1) h2))
  refine ⟨hfok, ?_⟩
  rcases winN_cases Ns with ⟨h1, h2⟩ | ⟨a, ha, h1, h2, h3, h4⟩
  · have h0 : fs = [] := by
      apply List.eq_nil_of_length_eq_zero
      rw [hlen]
      apply Nat.eq_zero_of_not_pos
      intro hp
      obtain ⟨h5, h6⟩ := off_lt (List.getElem?_eq_getElem hp : (offN Ns)[0]? = _)
      rw [h2 _ h5] at h6; cases h6
    subst h0
    obtain ⟨W, q, g1, g2, g3⟩ := least_fs [] (by simp)
    exact ⟨W, q, g1, g2, g3, by rw [show ranks [] = [] from rfl, winOf_none]; unfold winPos; rw [h1]; rfl⟩
  · have hpos := off_at Ns ha h2
    have hj0 : (offTo Ns a).length < fs.length := by rw [hlen]; exact (List.getElem?_eq_some_iff.1 hpos).1
    obtain ⟨f0, hf0⟩ : ∃ f, fs[(offTo Ns a).length]? = some f := ⟨_, List.getElem?_eq_getElem hj0⟩
    obtain ⟨b, hb, hi0⟩ := hat _ f0 hf0
    obtain rfl : a = b := Option.some.inj (hpos.symm.trans hb)
    have hoka : okC (nextF (nd Ns a)) := okC_of (next_right (hok.at_ ha) h2)
    have hmin : ∀ f ∈ fs, lessB (rankF f) (rankF f0) = false := by
      intro f hf
      obtain ⟨j, hj⟩ := List.getElem?_of_mem hf
      obtain ⟨b, hb, hi⟩ := hat j f hj
      obtain ⟨g1, g2⟩ := off_lt hb
      rw [rankF_eq hi, rankF_eq hi0, less6_eq (okC_of (next_right (hok.at_ g1) g2)) hoka]
      exact h4 b g1 g2
    refine ⟨rankF f0, _, least_of fs hfok f0 (List.mem_of_getElem? hf0) hmin, rfl, rankF_le _, ?_⟩
    have hp : winPos Ns = ((offTo Ns a).length : Int) := by unfold winPos; rw [h1, if_neg (by omega), Int.toNat_natCast]
    rw [hp]
    refine winOf_at (by simp [ranks, hf0]) (fun j hj e => ?_)
    simp only [ranks, List.getElem?_map, Option.map_eq_some_iff] at e
    obtain ⟨f, hf, e⟩ := e
    obtain ⟨b, hb, hi⟩ := hat j f hf
    obtain ⟨g1, g2⟩ := off_front Ns (Nat.le_of_lt ha) hj hb
    -- an earlier one is no twin: the first of the least wins
    rcases winTo_spec Ns Ns.length with ⟨k1, _⟩ | ⟨a', _, k1, _, _, k5⟩
    · unfold winN at h1; omega
    · have : a' = a := by unfold winN at h1; omega
      subst this
      have := k5 b g1 g2
      unfold lessC at this
      rw [rankF_eq hi, rankF_eq hi0] at e
      rw [e, lexB_irr] at this; cases this
theorem winPos_at {Ns : List NC} (h : 0 ≤ winN Ns) : ∃ a i : Nat, winN Ns = a ∧ a < Ns.length ∧ winPos Ns = i ∧ (offN Ns)[i]? = some a ∧ hasN (nd Ns a) = true ∧ winF Ns = nextF (nd Ns a) := by
  rcases winN_cases Ns with ⟨h1, h2⟩ | ⟨a, ha, h1, h2, h3, h4⟩
  · omega
  · exact ⟨a, _, h1, ha, by unfold winPos; rw [h1, if_neg (by omega), Int.toNat_natCast], off_at Ns ha h2, h2, h3⟩
theorem winF_none {Ns : List NC} (h : winN Ns < 0) : winF Ns = zeroF := by
  rcases winN_cases Ns with ⟨h1, h2⟩ | ⟨a, ha, h1, h2, h3, h4⟩
  · have : hasN (nd Ns 0) = false := by
      cases hl : Ns with
      | nil => rfl
      | cons N l => rw [← hl]; exact h2 0 (by rw [hl]; simp)
    unfold winF
    rw [h1, show ((-1 : Int)).toNat = 0 from rfl]
    unfold nextF
    rw [this]; rfl
  · omega
def alongs (Ns : List NC) : List Bool := (List.range Ns.length).map (alongN Ns)
theorem alongs_len (Ns : List NC) : (alongs Ns).length = Ns.length := by simp [alongs]
theorem alongs_at {Ns : List NC} {i : Nat} (h : i < Ns.length) : (alongs Ns).getD i false = alongN Ns i := by simp [alongs, List.getD, h]
def sendTo (Ns : List NC) (j : Nat) : List Bool := (List.range Ns.length).map fun i => alongN Ns i && decide (i ∈ (offN Ns).take j)
theorem sendTo_len (Ns : List NC) (j : Nat) : (sendTo Ns j).length = Ns.length := by simp [sendTo]
theorem sendTo_zero (Ns : List NC) : sendTo Ns 0 = List.replicate Ns.length false := by
  apply List.ext_getElem
  · simp [sendTo]
  · intro i h1 h2; simp [sendTo]
theorem alongs_none {Ns : List NC} (h : winN Ns < 0) : alongs Ns = List.replicate Ns.length false := by
  apply List.ext_getElem
  · simp [alongs]
  · intro i h1 h2
    simp only [alongs, List.getElem_map, List.getElem_range, List.getElem_replicate]
    unfold alongN
    rw [decide_eq_false (by omega)]; rfl
theorem sendTo_step {Ns : List NC} {j b : Nat} (hb : (offN Ns)[j]? = some b) : sendTo Ns (j + 1) = if alongN Ns b then (sendTo Ns j).set b true else sendTo Ns j := by
  have ht : (offN Ns).take (j + 1) = (offN Ns).take j ++ [b] := by rw [List.take_add_one, hb]; rfl
  have hbl := (off_lt hb).1
  split
  · rename_i hal
    apply List.ext_getElem
    · simp [sendTo]
    · intro i h1 h2
      have hi : i < Ns.length := by simpa [sendTo] using h1
      rw [List.getElem_set]
      split
      · rename_i e; subst e
        simp [sendTo, ht, hal]
      · rename_i e
        simp [sendTo, ht]
        rw [show decide (i = b) = false from decide_eq_false (fun h => e h.symm), Bool.or_false]
  · rename_i hal
    apply List.ext_getElem
    · simp [sendTo]
    · intro i h1 h2
      simp only [sendTo, List.getElem_map, List.getElem_range, ht]
      by_cases e : i = b
      · subst e
        rw [show alongN Ns i = false by simpa using hal]; rfl
      · congr 1
        simp [e]
theorem sendTo_end (Ns : List NC) : sendTo Ns (offN Ns).length = alongs Ns := by
  apply List.ext_getElem
  · simp [sendTo, alongs]
  · intro i h1 h2
    have hi : i < Ns.length := by simpa [sendTo] using h1
    simp only [sendTo, alongs, List.getElem_map, List.getElem_range, List.take_length]
    cases h : alongN Ns i with
    | false => rfl
    | true =>
      have : hasN (nd Ns i) = true := by
        unfold alongN at h
        simp only [Bool.and_eq_true] at h
        exact h.2.1
      rw [decide_eq_true (by unfold offN; exact off_mem.2 ⟨hi, this⟩)]; rfl
def unlikeAt (Ns : List NC) (b : Nat) : Bool := alongN Ns b && !sameF (nextF (nd Ns b)) (winF Ns)
def unlikeTo (Ns : List NC) : Nat → Bool
  | 0 => false
  | j + 1 => unlikeTo Ns j || unlikeAt Ns ((offN Ns).getD j 0)
def corrAt (Ns : List NC) (H : List Int) (i : Nat) : Bool := if alongN Ns i then inH H i else (inH H i && decide ((nd Ns i).k.s = 1))
def corrTo (Ns : List NC) (H : List Int) : Nat → Bool
  | 0 => false
  | k + 1 => corrTo Ns H k || corrAt Ns H k
theorem hitTo_iff {Ns : List NC} {H : List Int} : ∀ {k : Nat}, hitTo Ns H k = true ↔ ∃ i, i < k ∧ hitAt Ns H i = true
  | 0 => by simp [hitTo]
  | k + 1 => by
    rw [hitTo, Bool.or_eq_true, hitTo_iff]
    constructor
    · rintro (⟨i, h1, h2⟩ | h)
      · exact ⟨i, by omega, h2⟩
      · exact ⟨k, by omega, h⟩
    · rintro ⟨i, h1, h2⟩
      by_cases e : i = k
      · subst e; exact .inr h2
      · exact .inl ⟨i, by omega, h2⟩
theorem corrTo_iff {Ns : List NC} {H : List Int} : ∀ {k : Nat}, corrTo Ns H k = true ↔ ∃ i, i < k ∧ corrAt Ns H i = true
  | 0 => by simp [corrTo]
  | k + 1 => by
    rw [corrTo, Bool.or_eq_true, corrTo_iff]
    constructor
    · rintro (⟨i, h1, h2⟩ | h)
      · exact ⟨i, by omega, h2⟩
      · exact ⟨k, by omega, h⟩
    · rintro ⟨i, h1, h2⟩
      by_cases e : i = k
      · subst e; exact .inr h2
      · exact .inl ⟨i, by omega, h2⟩
theorem unlikeTo_iff {Ns : List NC} : ∀ {k : Nat}, unlikeTo Ns k = true ↔ ∃ j, j < k ∧ unlikeAt Ns ((offN Ns).getD j 0) = true
  | 0 => by simp [unlikeTo]
  | k + 1 => by
    rw [unlikeTo, Bool.or_eq_true, unlikeTo_iff]
    constructor
    · rintro (⟨i, h1, h2⟩ | h)
      · exact ⟨i, by omega, h2⟩
      · exact ⟨k, by omega, h⟩
    · rintro ⟨i, h1, h2⟩
      by_cases e : i = k
      · subst e; exact .inr h2
      · exact .inl ⟨i, by omega, h2⟩
theorem dist_eq (Ns : List NC) (H : List Int) : (unlikeTo Ns (offN Ns).length || corrTo Ns H Ns.length) = hitN Ns H := by
  have key : (unlikeTo Ns (offN Ns).length || corrTo Ns H Ns.length) = true ↔ hitN Ns H = true := by
    unfold hitN
    rw [Bool.or_eq_true, unlikeTo_iff, corrTo_iff, hitTo_iff]
    constructor
    · rintro (⟨j, h1, h2⟩ | ⟨i, h1, h2⟩)
      · have hb : (offN Ns)[j]? = some ((offN Ns).getD j 0) := by simp [List.getD, List.getElem?_eq_getElem h1]
        refine ⟨_, (off_lt hb).1, ?_⟩
        unfold unlikeAt at h2
        rw [Bool.and_eq_true] at h2
        unfold hitAt
        rw [if_pos h2.1, h2.2, Bool.true_or]
      · refine ⟨i, h1, ?_⟩
        unfold corrAt at h2
        unfold hitAt
        split at h2
        · rename_i e; rw [if_pos e, h2, Bool.or_true]
        · rename_i e; rw [if_neg e, h2]
    · rintro ⟨i, h1, h2⟩
      unfold hitAt at h2
      split at h2
      · rename_i e
        rw [Bool.or_eq_true] at h2
        rcases h2 with h2 | h2
        · have hh : hasN (nd Ns i) = true := by
            have e' := e
            unfold alongN at e'
            simp only [Bool.and_eq_true] at e'
            exact e'.2.1
          have hp := off_at Ns h1 hh
          refine .inl ⟨(offTo Ns i).length, (List.getElem?_eq_some_iff.1 hp).1, ?_⟩
          have hg : (offN Ns).getD (offTo Ns i).length 0 = i := by unfold offN; rw [List.getD, hp]; rfl
          rw [hg]
          unfold unlikeAt
          rw [e, h2]; rfl
        · exact .inr ⟨i, h1, by unfold corrAt; rw [if_pos e, h2]⟩
      · rename_i e
        exact .inr ⟨i, h1, by unfold corrAt; rw [if_neg e, h2]⟩
  cases h1 : (unlikeTo Ns (offN Ns).length || corrTo Ns H Ns.length) <;> cases h2 : hitN Ns H <;> simp_all
theorem corrTo_mono {Ns : List NC} {H : List Int} {k n : Nat} (h : k ≤ n) (e : corrTo Ns H k = true) : corrTo Ns H n = true := by
  obtain ⟨i, h1, h2⟩ := corrTo_iff.1 e
  exact corrTo_iff.2 ⟨i, by omega, h2⟩
def spoiltN (Ns : List NC) (H : List Int) (F : FC) (D : Bool) (i : Nat) : NC :=
  if alongN Ns i then (if decide ((nd Ns i).k.s = 2) && !D then nd Ns i else sentN (nd Ns i) false) else heardN (nd Ns i) F false (inH H i && decide ((nd Ns i).k.s = 1))
def passedN (Ns : List NC) (H : List Int) (F : FC) (i : Nat) : NC :=
  if alongN Ns i then sentN (nd Ns i) true else heardN (nd Ns i) F (!inH H i) false
theorem spoilt_eq {Ns : List NC} {H : List Int} (h : okS Ns H = false) (i : Nat) : spoiltN Ns H (winF Ns) (hitN Ns H) i = afterN Ns H i := by
  unfold spoiltN afterN
  rw [h]
  by_cases hal : alongN Ns i = true
  · rw [if_pos hal, if_pos hal]
    by_cases hs : (nd Ns i).k.s = 2
    · rw [decide_eq_true hs, decide_eq_false (fun h => h hs)]
      cases hitN Ns H <;> rfl
    · rw [decide_eq_false hs, decide_eq_true hs]
      cases hitN Ns H <;> rfl
  · rw [if_neg hal, if_neg hal]
    simp
theorem passed_eq {Ns : List NC} {H : List Int} (h : okS Ns H = true) (i : Nat) : passedN Ns H (winF Ns) i = afterN Ns H i := by
  unfold passedN afterN
  rw [h]
  by_cases hal : alongN Ns i = true
  · rw [if_pos hal, if_pos hal]; simp
  · rw [if_neg hal, if_neg hal]; simp
def mapTo (G : Nat → NC) : Nat → List NC
  | 0 => []
  | k + 1 => mapTo G k ++ [G k]
theorem mapTo_len (G : Nat → NC) (k : Nat) : (mapTo G k).length = k := by
  induction k with
  | zero => rfl
  | succ k ih => simp [mapTo, ih]
theorem mapTo_slot {Ns : List NC} {H : List Int} {G : Nat → NC} : ∀ (k : Nat), (∀ i, i < k → G i = if winN Ns < 0 then quietN (nd Ns i) else afterN Ns H i) → mapTo G k = slotTo Ns H k
  | 0, h => rfl
  | k + 1, h => by rw [mapTo, slotTo, mapTo_slot k (fun i hi => h i (by omega)), h k (by omega)]
end Go.Proofs.YtcifjccojmfpaaaGreat

namespace Go.Proofs.YtcifjccojmfpaaaGreat
open Go.RowKit
set_option linter.unusedVariables false
set_option linter.unusedSimpArgs false
theorem cell_to10 {w w' : World} {a : Addr} {v : Value} (h : w.cell? a = some v) (b : Below w.heap.size w w') : w'.cell? a = some v := by
  rw [b.cell (World.block_lt_of_cell? _ _ h)]; exact h
structure KV where
  la : Option Addr
  lm : Nat
  lc : Nat
  wa : Option Addr
  wm : Nat
  wc : Nat
  w : Int
  f : FV
  sa : Option Addr
  sm : Nat
  sc : Nat
  d : Bool
abbrev KV.v (k : KV) : Value := .agg #[.slice k.la k.lm k.lc, .slice k.wa k.wm k.wc, .int .i64 k.w, .bool k.f.x, .int .i64 k.f.i, .bool k.f.r, .int .i64 k.f.n, .slice k.f.a k.f.m k.f.c, .slice k.sa k.sm k.sc, .bool k.d]
abbrev HasK (w : World) (F : Nat) (k : KV) : Prop := w.heap[F]? = some (.cells #[.slice k.la k.lm k.lc, .slice k.wa k.wm k.wc, .int .i64 k.w, .bool k.f.x, .int .i64 k.f.i, .bool k.f.r, .int .i64 k.f.n, .slice k.f.a k.f.m k.f.c, .slice k.sa k.sm k.sc, .bool k.d] 76)
abbrev zeroKV : KV := ⟨none, 0, 0, none, 0, 0, 0, zeroFV, none, 0, 0, false⟩
theorem cellsK {w : World} {F : Nat} {a b c d e f g i j k : Value} {t : TypeId} (h : w.heap[F]? = some (.cells #[a, b, c, d, e, f, g, i, j, k] t)) :
    (w.cell? ⟨F, 0, none⟩ = some a ∧ w.cell? ⟨F, 1, none⟩ = some b ∧ w.cell? ⟨F, 2, none⟩ = some c ∧ w.cell? ⟨F, 3, none⟩ = some d ∧ w.cell? ⟨F, 4, none⟩ = some e ∧ w.cell? ⟨F, 5, none⟩ = some f ∧ w.cell? ⟨F, 6, none⟩ = some g ∧ w.cell? ⟨F, 7, none⟩ = some i ∧ w.cell? ⟨F, 8, none⟩ = some j ∧ w.cell? ⟨F, 9, none⟩ = some k) ∧
    w.frozen? ⟨F, 0, none⟩ = false ∧ w.frozen? ⟨F, 1, none⟩ = false ∧ w.frozen? ⟨F, 2, none⟩ = false ∧ w.frozen? ⟨F, 3, none⟩ = false ∧ w.frozen? ⟨F, 4, none⟩ = false ∧ w.frozen? ⟨F, 5, none⟩ = false ∧ w.frozen? ⟨F, 6, none⟩ = false ∧ w.frozen? ⟨F, 7, none⟩ = false ∧ w.frozen? ⟨F, 8, none⟩ = false ∧ w.frozen? ⟨F, 9, none⟩ = false := by
  simp [World.cell?, World.frozen?, h]
theorem cellsK' {w : World} {F : Nat} {a b c d e f g i j k : Value} {t : TypeId} (h : w.heap[F]? = some (.cells #[a, b, c, d, e, f, g, i, j, k] t)) :
    w.cell? ⟨F, 0, none⟩ = some a ∧ w.cell? ⟨F, 1, none⟩ = some b ∧ w.cell? ⟨F, 2, none⟩ = some c ∧ w.cell? ⟨F, 3, none⟩ = some d ∧ w.cell? ⟨F, 4, none⟩ = some e ∧ w.cell? ⟨F, 5, none⟩ = some f ∧ w.cell? ⟨F, 6, none⟩ = some g ∧ w.cell? ⟨F, 7, none⟩ = some i ∧ w.cell? ⟨F, 8, none⟩ = some j ∧ w.cell? ⟨F, 9, none⟩ = some k := (cellsK h).1
def set10 (w : World) (F : Nat) (a b c d e f g i j k : Value) : World := ((((((((((w.setCell ⟨F, 0, none⟩ a).setCell ⟨F, 1, none⟩ b).setCell ⟨F, 2, none⟩ c).setCell ⟨F, 3, none⟩ d).setCell ⟨F, 4, none⟩ e).setCell ⟨F, 5, none⟩ f).setCell ⟨F, 6, none⟩ g).setCell ⟨F, 7, none⟩ i).setCell ⟨F, 8, none⟩ j).setCell ⟨F, 9, none⟩ k)
theorem set10_obj {w : World} {F : Nat} {a b c d e f g i j k : Value} {t : TypeId} (h : w.heap[F]? = some (.cells #[a, b, c, d, e, f, g, i, j, k] t)) (a' b' c' d' e' f' g' i' j' k' : Value) :
    (set10 w F a' b' c' d' e' f' g' i' j' k').heap[F]? = some (.cells #[a', b', c', d', e', f', g', i', j', k'] t) := by
  simp [set10, World.setCell, Array.getElem?_modify, h]
theorem set10_grown (w : World) (F : Nat) (a b c d e f g i j k : Value) : w.grownBy (set10 w F a b c d e f g i j k) (some F) :=
  (((((((((grown_setAt w F 0 a).trans (grown_setAt _ F 1 b)).trans (grown_setAt _ F 2 c)).trans (grown_setAt _ F 3 d)).trans (grown_setAt _ F 4 e)).trans (grown_setAt _ F 5 f)).trans (grown_setAt _ F 6 g)).trans (grown_setAt _ F 7 i)).trans (grown_setAt _ F 8 j)).trans (grown_setAt _ F 9 k)
theorem load_k {w : World} {F : Nat} {t : KV} (h : HasK w F t) : (loadVar 76 ⟨F, 0, none⟩).run Tryz.prog w = .ok t.v w := by
  obtain ⟨⟨c0, c1, c2, c3, c4, c5, c6, c7, c8, c9⟩, _⟩ := cellsK h
  simp [go_sem, c0, c1, c2, c3, c4, c5, c6, c7, c8, c9]
theorem results_k {fn : Func} {p : Tmp} (hf : fn.results = #[.cell p 76]) (tmps : Array Value) {w : World} {F : Nat} {n : KV} (ht : tmps.getD p undef = .pointer (some ⟨F, 0, none⟩)) (h : HasK w F n) :
    (results fn tmps).run Tryz.prog w = .ok n.v w := by
  have hl := load_k h
  have ht' : tmps[p]?.getD undef = .pointer (some ⟨F, 0, none⟩) := by simpa using ht
  simp only [results, hf]
  simp [ht', asAddr, hl]
theorem results_t {fn : Func} {p : Tmp} (hf : fn.results = #[.cell p 36]) (tmps : Array Value) {w : World} {F : Nat} {n : TV} (ht : tmps.getD p undef = .pointer (some ⟨F, 0, none⟩)) (h : HasTo w F n) :
    (results fn tmps).run Tryz.prog w = .ok n.v w := by
  have hl := load_t h
  have ht' : tmps[p]?.getD undef = .pointer (some ⟨F, 0, none⟩) := by simpa using ht
  simp only [results, hf]
  simp [ht', asAddr, hl]
def BBlk (w : World) (L : Nat) (bs : List Bool) : Prop := w.heap[L]? = some (.cells (bs.map Value.bool).toArray 4 (0, 0))
theorem BBlk.lt {w : World} {L : Nat} {bs : List Bool} (h : BBlk w L bs) : L < w.heap.size := (Array.getElem?_eq_some_iff.1 h).1
theorem BBlk.to {w w' : World} {L : Nat} {bs : List Bool} (h : BBlk w L bs) (b : Below w.heap.size w w') : BBlk w' L bs := block_below b h
theorem BBlk.grow {w w' : World} {L X : Nat} {bs : List Bool} (h : BBlk w L bs) (g : w.grownBy w' (some X)) (hX : L ≠ X) : BBlk w' L bs := other_g g h hX
theorem BBlk.cell {w : World} {L : Nat} {bs : List Bool} (h : BBlk w L bs) {k : Nat} (hk : k < bs.length) : w.cell? ⟨L, k, none⟩ = some (.bool (bs.getD k false)) ∧ w.frozen? ⟨L, k, none⟩ = false := by
  unfold BBlk at h
  refine ⟨?_, ?_⟩
  · simp [World.cell?, h, List.getD, List.getElem?_eq_getElem hk]
  · simp [World.frozen?, h]
theorem BBlk.setc {w : World} {L : Nat} {bs : List Bool} (h : BBlk w L bs) (o : Nat) (x : Bool) : BBlk (w.setCell ⟨L, o, none⟩ (.bool x)) L (bs.set o x) := by
  unfold BBlk at *
  simp [World.setCell, Array.getElem?_modify, h, List.map_set]
theorem madeCells_bool (n : Nat) : madeCells #[Value.bool false] n = ((List.replicate n false).map Value.bool).toArray := by
  apply Array.ext
  · simp [madeCells]
  · intro i h1 h2
    simp [madeCells, Nat.mod_one]
structure KIs (w : World) (P : Nat → Prop) (k : KV) (Ns : List NC) (H : List Int) (F : FC) (bs : List Bool) : Prop where
  l : NSl w P k.la k.lm k.lc Ns
  h : Row .i64 w w.heap.size k.wa H
  hl : H.length = k.wm
  hm : k.wm ≤ 1000
  f : FIs w P k.f F
  s : ∃ L, k.sa = some ⟨L, 0, none⟩ ∧ BBlk w L bs
  sl : bs.length = k.sm
theorem KIs.to {w w' : World} {P : Nat → Prop} {k : KV} {Ns : List NC} {H : List Int} {F : FC} {bs : List Bool} (h : KIs w P k Ns H F bs) (b : Below w.heap.size w w') : KIs w' P k Ns H F bs :=
  ⟨h.l.to b, h.h.to b, h.hl, h.hm, h.f.to b, (let ⟨L, h1, h2⟩ := h.s; ⟨L, h1, h2.to b⟩), h.sl⟩
theorem KIs.mono {w : World} {P Q : Nat → Prop} {k : KV} {Ns : List NC} {H : List Int} {F : FC} {bs : List Bool} (h : KIs w P k Ns H F bs) (hq : ∀ b, b < w.heap.size → P b → Q b) : KIs w Q k Ns H F bs :=
  ⟨h.l.mono hq, h.h, h.hl, h.hm, h.f.mono hq, h.s, h.sl⟩
section
variable {V : Type} {cs : V → List Value} {sz : Nat} {t : TypeId}
def VBlk (cs : V → List Value) (t : TypeId) (w : World) (L : Nat) (vs : List V) : Prop := w.heap[L]? = some (.cells (gcells cs vs).toArray t (0, 0))
theorem VBlk.lt {w : World} {L : Nat} {vs : List V} (h : VBlk cs t w L vs) : L < w.heap.size := (Array.getElem?_eq_some_iff.1 h).1
theorem VBlk.to {w w' : World} {L : Nat} {vs : List V} (h : VBlk cs t w L vs) (b : Below w.heap.size w w') : VBlk cs t w' L vs := block_below b h
theorem VBlk.row {w : World} {L : Nat} {vs : List V} (h : VBlk cs t w L vs) : GRow cs w w.heap.size (some ⟨L, 0, none⟩) vs := by
  refine .inr ⟨_, rfl, h.lt, fun j u hu => ?_⟩
  unfold VBlk at h
  rw [add0]
  simp only [World.cell?, h]
  simpa using hu
theorem VBlk.frozen {w : World} {L : Nat} {vs : List V} (h : VBlk cs t w L vs) (o : Nat) : w.frozen? ⟨L, o, none⟩ = false := by
  unfold VBlk at h
  simp [World.frozen?, h]
theorem VBlk.some_ {w : World} {L : Nat} {vs : List V} (h : VBlk cs t w L vs) {o : Nat} (ho : o < (gcells cs vs).length) : ∃ u, w.cell? ⟨L, o, none⟩ = some u := by
  unfold VBlk at h
  exact ⟨(gcells cs vs)[o], by simp [World.cell?, h, List.getElem?_eq_getElem ho]⟩
def putAt (w : World) (L o : Nat) : List Value → World
  | [] => w
  | u :: us => putAt (w.setCell ⟨L, o, none⟩ u) L (o + 1) us
theorem putAt_grown (L : Nat) : ∀ (us : List Value) (w : World) (o : Nat), w.grownBy (putAt w L o us) (some L)
  | [], w, o => ⟨rfl, rfl, rfl, Nat.le_refl _, fun _ _ _ => rfl⟩
  | u :: us, w, o => (grown_setAt w L o u).trans (putAt_grown L us _ _)
theorem putAt_heap (L : Nat) : ∀ (us : List Value) (w : World) (o : Nat) (xs : List Value), w.heap[L]? = some (.cells xs.toArray t (0, 0)) → o + us.length ≤ xs.length →
    (putAt w L o us).heap[L]? = some (.cells (xs.take o ++ us ++ xs.drop (o + us.length)).toArray t (0, 0))
  | [], w, o, xs, h, hl => by simpa [putAt] using h
  | u :: us, w, o, xs, h, hl => by
    have hlen : o < xs.length := by simp at hl; omega
    have h1 : (w.setCell ⟨L, o, none⟩ u).heap[L]? = some (.cells (xs.set o u).toArray t (0, 0)) := by
      simp [World.setCell, Array.getElem?_modify, h]
    have ih := putAt_heap L us (w.setCell ⟨L, o, none⟩ u) (o + 1) (xs.set o u) h1 (by simp at hl ⊢; omega)
    rw [putAt, ih]
    have e1 : (xs.set o u).take (o + 1) = xs.take o ++ [u] := by
      rw [List.take_add_one, List.getElem?_set_self hlen]
      have e : (xs.take o).set o u = xs.take o := List.set_eq_of_length_le (by simp [List.length_take]; omega)
      simp [List.take_set, e]
    have e2 : (xs.set o u).drop (o + 1 + us.length) = xs.drop (o + (u :: us).length) := by
      rw [List.drop_set_of_lt (by omega)]
      congr 1; simp; omega
    rw [e1, e2]
    simp
theorem gcells_set (S : Shape cs sz) : ∀ (vs : List V) (k : Nat) (v : V), k < vs.length → (gcells cs vs).take (k * sz) ++ cs v ++ (gcells cs vs).drop (k * sz + sz) = gcells cs (vs.set k v)
  | [], k, v, h => by simp at h
  | x :: vs, 0, v, h => by
    have hl := S.len x
    simp only [gcells, List.flatMap_cons, Nat.zero_mul, List.take_zero, List.nil_append, Nat.zero_add, List.set_cons_zero]
    rw [List.drop_append, List.drop_of_length_le (by omega), hl]; simp
  | x :: vs, k + 1, v, h => by
    have hl := S.len x
    have ih := gcells_set S vs k v (by simpa using h)
    simp only [gcells, List.flatMap_cons, List.set_cons_succ] at ih ⊢
    rw [List.take_append, List.take_of_length_le (by rw [hl, Nat.succ_mul]; omega), hl, List.drop_append, List.drop_of_length_le (by rw [hl, Nat.succ_mul]; omega), hl, ← ih]
    rw [show (k + 1) * sz - sz = k * sz by rw [Nat.succ_mul]; omega, show (k + 1) * sz + sz - sz = k * sz + sz by rw [Nat.succ_mul]; omega]
    simp
theorem VBlk.put (S : Shape cs sz) {w : World} {L : Nat} {vs : List V} (h : VBlk cs t w L vs) {k : Nat} (hk : k < vs.length) (v : V) : VBlk cs t (putAt w L (k * sz) (cs v)) L (vs.set k v) := by
  have h2 := putAt_heap (t := t) L (cs v) w (k * sz) (gcells cs vs) h (by rw [gcells_len S, S.len]; have := Nat.mul_le_mul_right sz (show k + 1 ≤ vs.length from hk); rw [Nat.succ_mul] at this; omega)
  rw [S.len, gcells_set S vs k v hk] at h2
  exact h2
theorem madeCells_g (S : Shape cs sz) (z : V) (n : Nat) : madeCells (cs z).toArray (n * sz) = (gcells cs (List.replicate n z)).toArray := by
  have hl : (gcells cs (List.replicate n z)).length = n * sz := by rw [gcells_len S, List.length_replicate]
  apply Array.ext
  · simp [madeCells, hl]
  · intro i h1 h2
    have hi : i < n * sz := by simpa [madeCells] using h1
    have hp := S.pos
    have h3 : i / sz < n := Nat.div_lt_of_lt_mul (by rw [Nat.mul_comm]; exact hi)
    have h4 : i % sz < (cs z).length := by rw [S.len]; exact Nat.mod_lt _ hp
    have h5 := gcells_at S (List.replicate n z) (i / sz) z (by simp [List.getElem?_replicate, h3]) (i % sz) _ (List.getElem?_eq_getElem h4)
    rw [Nat.mul_comm, Nat.div_add_mod] at h5
    have h6 := (List.getElem?_eq_some_iff.1 h5).2
    simp only [madeCells, Array.getElem_map, Array.getElem_range, List.size_toArray, S.len]
    rw [List.getElem_toArray, h6]
    simp [h4]
theorem run_make_g (S : Shape cs sz) (z0 : V) {ts : TypeId} {bytes : Nat} (hu : Tryz.prog.underlying ts = some (.slice t)) (hi : ∃ z, (Tryz.prog.info? t).map (fun i => (i.zero, i.size, i.bytes)) = some (some z, sz, bytes) ∧ z.cells = (cs z0).toArray) (hb : bytes ≤ 1000) (n : Nat) (hn : n ≤ 1000) (w : World) :
    (Instr.makeSlice ts (.int .i64 n) (.int .i64 n)).run Tryz.prog w = .ok (.slice (some ⟨w.heap.size, 0, none⟩) n n) (w.alloc (.cells (gcells cs (List.replicate n z0)).toArray t)) := by
  obtain ⟨z, hz0, hzc⟩ := hi
  obtain ⟨i, hi, hz, hsize, hby⟩ := info_parts hz0
  have h := run_make (P := Tryz.prog) w ts t i z hu hi hz .i64 .i64 n n (by omega) (Int.le_refl _) (by rw [hby]; have : ((bytes : Int)) * n ≤ 1000 * 1000 := Int.mul_le_mul (by omega) (by omega) (by omega) (by decide); omega) (by omega)
  rw [h, Int.toNat_natCast, hsize, hzc, madeCells_g S]
end
def doneL {V : Type} (done : List V) (n : Nat) (z : V) : List V := done ++ List.replicate (n - done.length) z
theorem doneL_set {V : Type} {done : List V} {n : Nat} {z : V} (h : done.length < n) (v : V) : (doneL done n z).set done.length v = doneL (done ++ [v]) n z := by
  unfold doneL
  rw [List.set_append_right _ _ (Nat.le_refl _), Nat.sub_self, show n - done.length = (n - (done ++ [v]).length) + 1 by simp; omega, List.replicate_succ]
  simp
theorem doneL_len {V : Type} {done : List V} {n : Nat} {z : V} (h : done.length ≤ n) : (doneL done n z).length = n := by simp [doneL]; omega
theorem doneL_full {V : Type} {done : List V} {n : Nat} {z : V} (h : done.length = n) : doneL done n z = done := by simp [doneL, h]
end Go.Proofs.YtcifjccojmfpaaaGreat

namespace Go.Proofs.YtcifjccojmfpaaaGreat
open Go.RowKit
set_option linter.unusedVariables false
set_option linter.unusedSimpArgs false
def bitsL (ss : List Src) (p : Nat) : List Int := ss.filterMap fun s => s.r[p]?
theorem bitsL_snoc {ss : List Src} {k p : Nat} {s : Src} (h : ss[k]? = some s) : bitsL (ss.take (k + 1)) p = bitsL (ss.take k) p ++ (s.r[p]?).toList := by
  unfold bitsL
  rw [List.take_add_one, h, List.filterMap_append]
  cases e : s.r[p]? <;> simp [e]
theorem own_made (W : World) (n : Nat) (hn : n ≤ maxLen) : (W.alloc (.cells (madeCells #[Value.int .i64 0] n) 3)).ownsRow W.heap.size 3 1 (.slice (some ⟨W.heap.size, 0, none⟩) 0 n) 0 (([] : List Int).map (Value.int .i64)) := by
  refine ⟨rfl, .inr ⟨W.heap.size, n, _, rfl, Nat.le_refl _, World.alloc_heap_new _ _, Nat.zero_le _, hn, ?_, by simp⟩⟩
  simp [madeCells]
theorem bitsAt_any (ss : List Src) (n : Nat) (hn : ss.length = n) (G cap p : Nat) (cs : List Value) (w : World) (hS : SBlk w G cs) (hcs : ∀ (k : Nat) (s : Src), ss[k]? = some s → cs[k]? = some s.v) (hok : ∀ s ∈ ss, SrcOk w G s) (hm : n ≤ 100) (hcap : n ≤ cap) (hp : p ≤ 100) :
    Calls Tryz.prog 115 #[.slice (some ⟨G, 0, none⟩) n cap, .int .i64 p] w fun e w' => ∃ (A' : Option Addr) (c' m : Nat), e = .returned (.slice A' m c') ∧ (bitsL ss p).length = m ∧ m ≤ n ∧ Row .i64 w' w'.heap.size A' (bitsL ss p) ∧ Below w.heap.size w w' := by
  obtain ⟨i0, hi, hz0, hz1, hz2⟩ := info_parts Tryz.infoInt
  have hmk := run_make_room (P := Tryz.prog) 39 3 (.int .i64 0) 8 Tryz.underlying39 Tryz.infoInt rfl .i64 .i64 n (by omega) (by omega)
  have Hn := Lib.hid hn
  have HCS := Lib.hid hcs
  have HOK := Lib.hid hok
  clear hn hcs hok
  have hm9 : n ≤ maxLen := by unfold maxLen; omega
  go_enter Tryz.func115, Tryz.ntmps115
  go_wp2_with fail
  go_loopw [5, 15] (fun o i wr => ∃ (k m : Nat) (A' : Option Addr) (c' : Nat), k ≤ n ∧ m ≤ k ∧ i = .int .i64 k ∧ o = .slice A' m c' ∧ (bitsL (ss.take k) p).length = m ∧
      wr.ownsRow w.heap.size 3 1 (.slice A' m c') m ((bitsL (ss.take k) p).map (Value.int .i64)) ∧ Below w.heap.size w wr)
    (fun _ i _ => n - (intOf i).toNat)
  case atStart => exact ⟨0, 0, _, n, Nat.zero_le _, Nat.zero_le _, rfl, rfl, rfl, own_made w n hm9, (Below.refl _ _).alloc (Nat.le_refl _) _⟩
  case round =>
    obtain ⟨k, m, A', c', hk, hmk', rfl, rfl, hml, hown, hB⟩ := hrel
    have hsz := hB.size
    by_cases hlt : k < n
    · obtain ⟨s, hs⟩ : ∃ s, ss[k]? = some s := ⟨_, List.getElem?_eq_getElem (by rw [Hn.out]; exact hlt)⟩
      have hso := (HOK.out s (List.mem_of_getElem? hs)).to (below_grown hB _)
      have hcell := (hS.to hB).cell (HCS.out k s hs)
      have hsn := bitsL_snoc (p := p) hs
      have hsm := hso.small
      have hrow := hso.row
      have hsl := hso.len
      obtain ⟨sa, sn, sc, sr⟩ := s
      simp only [Src.v] at hcell hsm hrow hsl hsn
      by_cases hb : p < sn
      · obtain ⟨x, hx⟩ : ∃ x, sr[p]? = some x := ⟨_, List.getElem?_eq_getElem (by rw [hsl]; exact hb)⟩
        rw [hx] at hsn
        have Hs := Lib.hid (And.intro hsn (And.intro hml (And.intro hs (And.intro hsl hx))))
        clear hsn hml hs hsl hx hso
        go_wp2_with (first
          | (go_at_call 118; refine (bit_yes sr sn Hs.out.2.2.2.1 (some sa) sc _ p x Hs.out.2.2.2.2 _ hrow (by omega)).mono ?_; rintro e w' ⟨rfl, rfl⟩)
          | (at_builtin; refine wpList_append_row _ .i64 rfl _ _ 39 rfl w.heap.size 3 i0 (.int .i64 0) 8 Tryz.underlying39 hi hz0 hz1 hz2 rfl _ m (bitsL (ss.take k) p) rfl (hown.alloc _) (some ⟨wr.heap.size, 0, none⟩) 1 1 _ [x] rfl rfl (Row.lit wr .i64 [x] 3 rfl) (by unfold maxLen; omega) (by omega) (by simp; omega) ?_; intro A2 c2 w2 hown2 hc2 hB2))
        have hBB : Below w.heap.size w w2 := (hB.alloc hsz _).trans hB2
        exact ⟨⟨k + 1, m + 1, A2, c2, by omega, by omega, by go_num, rfl, by rw [Hs.out.1, List.length_append, Hs.out.2.1]; rfl, by rw [Hs.out.1]; exact hown2, hBB⟩, by simp [intOf]; omega⟩
      · have hx : sr[p]? = none := List.getElem?_eq_none (by rw [hsl]; omega)
        rw [hx] at hsn
        have Hs := Lib.hid (And.intro hsn (And.intro hml (And.intro hs (And.intro hsl hx))))
        clear hsn hml hs hsl hx hso
        go_wp2_with (go_at_call 118; refine (bit_no sn (some sa) sc p (by omega) _ (by omega)).mono ?_; rintro e w' ⟨rfl, rfl⟩)
        exact ⟨⟨k + 1, m, A', c', by omega, by omega, by go_num, rfl, by rw [Hs.out.1, List.length_append, Hs.out.2.1]; rfl, by rw [Hs.out.1]; simpa using hown, hB⟩, by simp [intOf]; omega⟩
    · obtain rfl : k = n := by omega
      have e : ss.take k = ss := List.take_of_length_le (Nat.le_of_eq Hn.out)
      rw [e] at hown hml
      have Hm := Lib.hid hml
      clear hml e
      go_wp2
      go_ret
      exact ⟨A', c', m, rfl, Hm.out, hmk', Row.own hown, hB⟩
theorem SBlk.setc {w : World} {G : Nat} {cs : List Value} (h : SBlk w G cs) (o : Nat) (v : Value) : SBlk (w.setCell ⟨G, o, none⟩ v) G (cs.set o v) := by
  show (w.setCell ⟨G, o, none⟩ v).heap[G]? = _
  rw [heap_setCell_same w G o _ _ _ h]
  simp
theorem SBlk.setcs {G : Nat} : ∀ (vs : List Value) (w : World) (cs : List Value) (o : Nat), SBlk w G cs → ∃ cs', SBlk (w.setCells G o vs) G cs' ∧ cs'.length = cs.length ∧ (∀ j, j < o → cs'[j]? = cs[j]?) ∧ w.grownBy (w.setCells G o vs) (some G)
  | [], w, cs, o, h => ⟨cs, h, rfl, fun _ _ => rfl, ⟨rfl, rfl, rfl, Nat.le_refl _, fun _ _ _ => rfl⟩⟩
  | v :: vs, w, cs, o, h => by
    obtain ⟨cs', h1, h2, h3, h4⟩ := SBlk.setcs vs (w.setCell ⟨G, o, none⟩ v) (cs.set o v) (o + 1) (h.setc o v)
    refine ⟨cs', h1, by rw [h2]; simp, fun j hj => ?_, (grown_setAt w G o v).trans h4⟩
    rw [h3 j (by omega), List.getElem?_set]
    simp; omega
theorem zero_src (w : World) : (zeroValue 119).run Tryz.prog w = .ok .nilFunc w := by
  obtain ⟨i0, hi, hz0, hz1, hz2⟩ := info_parts Tryz.infoSrc
  simp [zeroValue, typeInfo, hi, hz0]
theorem SBlk.frz {w : World} {G : Nat} {cs : List Value} (h : SBlk w G cs) (o : Nat) : w.frozen? ⟨G, o, none⟩ = false := by
  simp [World.frozen?, show w.heap[G]? = _ from h]
theorem clear_yes {w : World} {G : Nat} {cs : List Value} (h : SBlk w G cs) (ty : TypeId) (o n c : Nat) (hn : 0 < n) (hl : o + n ≤ cs.length) :
    (Builtin.clear_ #[116] ty #[.slice (some ⟨G, o, none⟩) n c]).run Tryz.prog w = .ok (.tuple #[]) (w.setCells G o (List.replicate n .nilFunc)) :=
  Lib.run_clear_slice w 116 119 ty .nilFunc Tryz.underlying116 zero_src rfl rfl G o n c hn
    (fun j hj => by rw [h.cell (k := o + j) (List.getElem?_eq_getElem (by omega))]; rfl) (fun j hj => h.frz _)
theorem clear_no (w : World) (ty : TypeId) (a : Option Addr) (c : Nat) : (Builtin.clear_ #[116] ty #[.slice a 0 c]).run Tryz.prog w = .ok (.tuple #[]) w := by
  cases a <;> simp [Builtin.clear_, run_underlying Tryz.underlying116]
def keepL (p : Nat) (x : Int) (ss : List Src) : List Src := ss.filter fun s => keepB p x s.r
theorem keepL_snoc {ss : List Src} {k p : Nat} {x : Int} {s : Src} (h : ss[k]? = some s) : keepL p x (ss.take (k + 1)) = keepL p x (ss.take k) ++ if keepB p x s.r then [s] else [] := by
  unfold keepL
  rw [List.take_add_one, h, List.filter_append]
  simp [List.filter_cons]
def Stay (ss : List Src) (n G cap p : Nat) (x : Int) (w : World) (e : Ending) (w' : World) : Prop :=
  ∃ (cs' : List Value) (m : Nat), e = .returned (.slice (some ⟨G, 0, none⟩) m cap) ∧ (keepL p x ss).length = m ∧ m ≤ n ∧ SBlk w' G cs' ∧ cs'.length = cap ∧ (∀ (k : Nat) (s : Src), (keepL p x ss)[k]? = some s → cs'[k]? = some s.v) ∧ w.grownBy w' (some G)
theorem set_get {cs : List Value} {j m : Nat} {v : Value} (h : j < m) : (cs.set m v)[j]? = cs[j]? := by
  rw [List.getElem?_set, if_neg (by omega)]
theorem set_get' {cs : List Value} {j m : Nat} {v : Value} (h : m < j) : (cs.set m v)[j]? = cs[j]? := by
  rw [List.getElem?_set, if_neg (by omega)]
structure StayAt (ss : List Src) (G cap p : Nat) (x : Int) (cs : List Value) (w wr : World) (k m : Nat) (cs' : List Value) : Prop where
  len : (keepL p x (ss.take k)).length = m
  blk : SBlk wr G cs'
  cap_ : cs'.length = cap
  kept : ∀ (j : Nat) (s : Src), (keepL p x (ss.take k))[j]? = some s → cs'[j]? = some s.v
  rest : ∀ j : Nat, k ≤ j → cs'[j]? = cs[j]?
  grown : w.grownBy wr (some G)
theorem StayAt.skip {ss : List Src} {G cap p : Nat} {x : Int} {cs : List Value} {w wr : World} {k m : Nat} {cs' : List Value} (h : StayAt ss G cap p x cs w wr k m cs') {s : Src} (hs : ss[k]? = some s) (hk : keepB p x s.r = false) : StayAt ss G cap p x cs w wr (k + 1) m cs' := by
  have e : keepL p x (ss.take (k + 1)) = keepL p x (ss.take k) := by rw [keepL_snoc hs, hk]; simp
  exact ⟨by rw [e]; exact h.len, h.blk, h.cap_, by rw [e]; exact h.kept, fun j hj => h.rest j (by omega), h.grown⟩
theorem StayAt.take_ {ss : List Src} {G cap p : Nat} {x : Int} {cs : List Value} {w wr w2 : World} {k m : Nat} {cs' : List Value} (h : StayAt ss G cap p x cs w wr k m cs') {s : Src} (hs : ss[k]? = some s) (hk : keepB p x s.r = true) (hmk : m ≤ k) (hkc : k < cap) (b : Below wr.heap.size wr w2) :
    StayAt ss G cap p x cs w (w2.setRow G (cs'.set m s.v).toArray) (k + 1) (m + 1) (cs'.set m s.v) := by
  have e : keepL p x (ss.take (k + 1)) = keepL p x (ss.take k) ++ [s] := by rw [keepL_snoc hs, hk]; simp
  refine ⟨by rw [e, List.length_append, h.len]; rfl, (h.blk.to b).set _, by rw [List.length_set]; exact h.cap_, fun j s' hj => ?_, fun j hj => ?_, (h.grown.trans (below_grown b _)).trans (grown_setRow _ _ _)⟩
  · rw [e] at hj
    rcases Nat.lt_or_ge j m with hjm | hjm
    · rw [List.getElem?_append_left (by rw [h.len]; exact hjm)] at hj
      rw [set_get hjm]
      exact h.kept j s' hj
    · rw [List.getElem?_append_right (by rw [h.len]; exact hjm), h.len] at hj
      obtain rfl : j = m := by
        have := (List.getElem?_eq_some_iff.1 hj).1
        simp at this
        omega
      simp at hj
      subst hj
      rw [List.getElem?_set, if_pos rfl, if_pos (by rw [h.cap_]; omega)]
  · rw [set_get' (by omega)]
    exact h.rest j (by omega)
theorem staying_any (ss : List Src) (n : Nat) (hn : ss.length = n) (G cap p : Nat) (x : Int) (cs : List Value) (w : World) (hS : SBlk w G cs) (hcl : cs.length = cap) (hcs : ∀ (k : Nat) (s : Src), ss[k]? = some s → cs[k]? = some s.v) (hok : ∀ s ∈ ss, SrcOk w G s) (hm : cap ≤ 100) (hcap : n ≤ cap) (hp : p ≤ 100) :
    Calls Tryz.prog 117 #[.slice (some ⟨G, 0, none⟩) n cap, .int .i64 p, .int .i64 x] w (Stay ss n G cap p x w) := by
  have Hn := Lib.hid hn
  have HCS := Lib.hid hcs
  have HOK := Lib.hid hok
  have HCL := Lib.hid hcl
  clear hn hcs hok hcl
  have hcap0 : (0 : Nat) ≤ cap := Nat.zero_le _
  go_enter Tryz.func117, Tryz.ntmps117
  go_wp2_with fail
  go_loopw [7, 16] (fun o i wr => ∃ (k m : Nat) (cs' : List Value), k ≤ n ∧ m ≤ k ∧ i = .int .i64 k ∧ o = .slice (some ⟨G, 0, none⟩) m cap ∧ StayAt ss G cap p x cs w wr k m cs')
    (fun _ i _ => n - (intOf i).toNat)
  case atStart => exact ⟨0, 0, cs, Nat.zero_le _, Nat.le_refl _, rfl, rfl, ⟨by simp [keepL], hS, HCL.out, by simp [keepL], fun _ _ => rfl, ⟨rfl, rfl, rfl, Nat.le_refl _, fun _ _ _ => rfl⟩⟩⟩
  case round =>
    obtain ⟨k, m, cs', hk, hmk, rfl, rfl, hst⟩ := hrel
    by_cases hlt : k < n
    · obtain ⟨s, hs⟩ : ∃ s, ss[k]? = some s := ⟨_, List.getElem?_eq_getElem (by rw [Hn.out]; exact hlt)⟩
      have hso := (HOK.out s (List.mem_of_getElem? hs)).to hst.grown
      have hcell := hst.blk.cell ((hst.rest k (Nat.le_refl _)).trans (HCS.out k s hs))
      have hsm := hso.small
      have hrow := hso.row
      have hsl := hso.len
      have hyes : keepB p x s.r = true → StayAt ss G cap p x cs w _ (k + 1) (m + 1) (cs'.set m s.v) := fun hkb => hst.take_ hs hkb hmk (by omega) (below_alloc1 wr (.cells #[s.v] 119))
      have hno : keepB p x s.r = false → StayAt ss G cap p x cs w wr (k + 1) m cs' := fun hkb => hst.skip hs hkb
      have hS2 : SBlk (wr.alloc (.cells #[s.v] 119)) G cs' := hst.blk.to (below_alloc1 _ _)
      have hc2 : (wr.alloc (.cells #[s.v] 119)).cell? ⟨wr.heap.size, 0, none⟩ = some s.v := by
        have := World.alloc_heap_new wr (.cells #[s.v] 119)
        simp only [World.cell?, this]
        rfl
      have hrun := fun ty => run_append_src _ ty G m cap cs' hS2 hst.cap_ (by omega) ⟨wr.heap.size, 0, none⟩ 1 _ hc2 rfl
      obtain ⟨sa, sn, sc, sr⟩ := s
      simp only [Src.v] at hcell hsm hrow hsl hrun hyes hno
      have HRun := Lib.hid hrun
      have HY := Lib.hid hyes
      have HN := Lib.hid hno
      clear hrun hyes hno hS2 hc2 hst
      by_cases hb : p < sn
      · obtain ⟨y, hy⟩ : ∃ y, sr[p]? = some y := ⟨_, List.getElem?_eq_getElem (by rw [hsl]; exact hb)⟩
        by_cases hyx : y = x
        · have hkb : keepB p x sr = true := by simp [keepB, hy, hyx]
          have hd : (y == x) = true := by simp [hyx]
          have Hs := Lib.hid (And.intro hsl (And.intro hy hkb))
          clear hsl hy hkb hs hso hyx
          go_wp2_with (first
            | (go_at_call 118; refine (bit_yes sr sn Hs.out.1 (some sa) sc _ p y Hs.out.2.1 _ hrow (by omega)).mono ?_; rintro e w' ⟨rfl, rfl⟩)
            | (at_builtin; refine Lib.wpList_append_run _ rfl _ _ _ _ rfl _ _ rfl rfl _ _ (HRun.out _) ?_))
          exact ⟨⟨k + 1, m + 1, _, by omega, by omega, by go_num, rfl, HY.out Hs.out.2.2⟩, by simp [intOf]; omega⟩
        · have hkb : keepB p x sr = false := by simp [keepB, hy, hyx]
          have hd : (y == x) = false := by simp [hyx]
          have Hs := Lib.hid (And.intro hsl (And.intro hy hkb))
          clear hsl hy hkb hs hso hyx
          go_wp2_with (first
            | (go_at_call 118; refine (bit_yes sr sn Hs.out.1 (some sa) sc _ p y Hs.out.2.1 _ hrow (by omega)).mono ?_; rintro e w' ⟨rfl, rfl⟩))
          exact ⟨⟨k + 1, m, _, by omega, by omega, by go_num, rfl, HN.out Hs.out.2.2⟩, by simp [intOf]; omega⟩
      · have hy : sr[p]? = none := List.getElem?_eq_none (by rw [hsl]; omega)
        have hkb : keepB p x sr = true := by simp [keepB, hy]
        have Hs := Lib.hid (And.intro hsl (And.intro hy hkb))
        clear hsl hy hkb hs hso
        go_wp2_with (first
          | (go_at_call 118; refine (bit_no sn (some sa) sc p (by omega) _ (by omega)).mono ?_; rintro e w' ⟨rfl, rfl⟩)
          | (at_builtin; refine Lib.wpList_append_run _ rfl _ _ _ _ rfl _ _ rfl rfl _ _ (HRun.out _) ?_))
        exact ⟨⟨k + 1, m + 1, _, by omega, by omega, by go_num, rfl, HY.out Hs.out.2.2⟩, by simp [intOf]; omega⟩
    · obtain rfl : k = n := by omega
      have e : ss.take k = ss := List.take_of_length_le (Nat.le_of_eq Hn.out)
      obtain ⟨h1, h2, h3, h4, h5, h6⟩ := hst
      rw [e] at h1 h4
      by_cases hmk2 : m = k
      · have hclr : ∀ (a : Option Addr) (c : Nat), (Builtin.clear_ #[116] 0 #[.slice a (k - m) c]).run Tryz.prog wr = .ok (.tuple #[]) wr := by
          intro a c
          rw [show k - m = 0 by omega]
          exact clear_no wr 0 a c
        have HST := Lib.hid (And.intro h1 (And.intro h2 (And.intro h3 (And.intro h4 h6))))
        clear h1 h2 h3 h4 h5 h6 e hmk2
        go_wp2_with fail
        all_goals
          go_ret
          exact ⟨cs', m, rfl, HST.out.1, hmk, HST.out.2.1, by first | exact HST.out.2.2.1 | (rw [HST.out.2.2.1]; omega), HST.out.2.2.2.1, HST.out.2.2.2.2⟩
      · have hcm : ¬ cap = m := by omega
        have hclr := clear_yes h2 0 m (k - m) (cap - m) (by omega) (by rw [h3]; omega)
        obtain ⟨cs2, g1, g2, g3, g4⟩ := SBlk.setcs (List.replicate (k - m) .nilFunc) wr cs' m h2
        obtain ⟨w2, hw2⟩ : ∃ w2, wr.setCells G m (List.replicate (k - m) .nilFunc) = w2 := ⟨_, rfl⟩
        rw [hw2] at g1 g4 hclr
        have HST := Lib.hid (And.intro h1 (And.intro (g2.trans h3) (And.intro h4 (And.intro g3 (h6.trans g4)))))
        clear h1 h2 h3 h4 h5 h6 e g2 g3 g4 hw2
        go_wp2_with fail
        go_ret
        refine ⟨cs2, m, rfl, HST.out.1, hmk, g1, HST.out.2.1, fun j s' hj => ?_, HST.out.2.2.2.2⟩
        rw [HST.out.2.2.2.1 j (by rw [← HST.out.1]; exact (List.getElem?_eq_some_iff.1 hj).1)]
        exact HST.out.2.2.1 j s' hj
theorem grown_below {w1 wr w' : World} {row : Option Nat} (h : w1.grownBy wr row) (b : Below w1.heap.size wr w') : w1.grownBy w' row :=
  ⟨b.os.trans h.os, b.tape.trans h.tape, b.output.trans h.output, Nat.le_trans h.size b.size, fun k hk hne => (b.block k hk).trans (h.block k hk hne)⟩
def cur (ss : List Src) (W : List Int) (p : Nat) : List Src := ss.filter fun s => stays W p s.r
theorem bitsL_cur (ss : List Src) (W : List Int) (p : Nat) : bitsL (cur ss W p) p = (((ss.map (·.r)).filter (stays W p)).filterMap (·[p]?)) := by
  unfold bitsL cur
  rw [List.filter_map, List.filterMap_map]
  rfl
theorem keep_cur {ss : List Src} {W : List Int} {p : Nat} {x : Int} (h : LeastE W (ss.map (·.r))) (hx : W[p]? = some x) : keepL p x (cur ss W p) = cur ss W (p + 1) := by
  unfold keepL cur
  rw [List.filter_filter]
  apply List.filter_congr
  intro s hs
  exact stays_succ hx h.rw_ (h.all s.r (List.mem_map.2 ⟨s, hs, rfl⟩))
theorem cur_zero (ss : List Src) (W : List Int) : cur ss W 0 = ss := by
  unfold cur
  rw [List.filter_eq_self]
  intro s _
  simp [stays]
structure LineAt (ss : List Src) (G n : Nat) (W : List Int) (w1 wr : World) (p m : Nat) (A' : Option Addr) (c' : Nat) (cs : List Value) : Prop where
  len : (cur ss W p).length = m
  blk : SBlk wr G cs
  cap_ : cs.length = n
  kept : ∀ (k : Nat) (s : Src), (cur ss W p)[k]? = some s → cs[k]? = some s.v
  own : wr.ownsRow w1.heap.size 3 1 (.slice A' p c') p ((W.take p).map (Value.int .i64))
  grown : w1.grownBy wr (some G)
theorem line_any (fs : List FV) (n : Nat) (hn : fs.length = n) (A : Option Addr) (c : Nat) (w : World) (h : FRow w w.heap.size A fs) (hok : ∀ f ∈ fs, FOk f) (hm : n ≤ 100) (W : List Int) (hW : LeastE W (ranks fs)) (q : Nat) (hq : W.length = q) (hq32 : q ≤ 32) :
    Calls Tryz.prog 100 #[.slice A n c] w fun e w' => ∃ A' c', e = .returned (.slice A' q c') ∧ q ≤ c' ∧ Row .i64 w' w'.heap.size A' W ∧ Below w.heap.size w w' := by
  obtain ⟨i0, hi, hz0, hz1, hz2⟩ := info_parts Tryz.infoInt
  have HW := Lib.hid (And.intro hW hq)
  clear hW hq
  go_enter Tryz.func100, Tryz.ntmps100
  go_wp2_with fail
  refine (sourcesOf_any fs n hn A c w h hok hm).mono ?_
  rintro e w1 ⟨G, ss, rfl, hG, hS, hss, hso, -, hB1⟩
  have hGlt := hS.lt
  have HSS := Lib.hid (show LeastE W (ss.map (·.r)) by rw [hss]; exact HW.out.1)
  have hlen : ss.length = n := by
    have := congrArg List.length hss
    simpa [ranks, hn] using this
  have HF := Lib.hid (And.intro hlen (And.intro hso hS))
  clear hss hso hlen hS hok hn h
  go_wp2_with fail
  go_loopw [3, 4, 5] (fun ln cm po wr => ∃ (p m : Nat) (A' : Option Addr) (c' : Nat) (cs : List Value), p ≤ q ∧ m ≤ n ∧ p ≤ c' ∧ po = .int .i64 p ∧ ln = .slice A' p c' ∧ cm = .slice (some ⟨G, 0, none⟩) m n ∧ LineAt ss G n W w1 wr p m A' c' cs)
    (fun _ _ po _ => q - (intOf po).toNat)
  case atStart =>
    refine ⟨0, n, none, 0, ss.map Src.v, Nat.zero_le _, Nat.le_refl _, Nat.le_refl _, rfl, rfl, rfl, ⟨?_, HF.out.2.2, by rw [List.length_map]; exact HF.out.1, ?_, World.ownsRow_nil _ _ _ _, ⟨rfl, rfl, rfl, Nat.le_refl _, fun _ _ _ => rfl⟩⟩⟩
    · rw [cur_zero]; exact HF.out.1
    · rw [cur_zero]
      intro k s hs
      rw [List.getElem?_map, hs]
      rfl
  case round =>
    obtain ⟨p, m, A', c', cs, hp, hmn, hpc, rfl, rfl, rfl, hl⟩ := hrel
    have hok2 : ∀ s ∈ cur ss W p, SrcOk wr G s := fun s hs => (HF.out.2.1 s (List.mem_filter.1 hs).1).to hl.grown
    have hbits := bitsL_cur ss W p
    by_cases hlt : p < q
    · obtain ⟨x, hx⟩ : ∃ x, W[p]? = some x := ⟨_, List.getElem?_eq_getElem (by rw [HW.out.2]; exact hlt)⟩
      obtain ⟨mb, hmb⟩ : ∃ mb, (bitsL (cur ss W p) p).length = mb := ⟨_, rfl⟩
      have hmb0 : 0 < mb := by
        rw [← hmb, hbits]
        exact List.length_pos_iff.2 (stays_len HSS.out (by rw [HW.out.2]; exact hlt))
      have hand : andL (bitsL (cur ss W p) p) = x := by rw [hbits]; exact and_stays HSS.out hx
      have hkeep := keep_cur HSS.out hx
      have htk := take_snoc hx
      have HX := Lib.hid (And.intro hx (And.intro hmb (And.intro hand (And.intro hkeep htk))))
      have HL := Lib.hid hl
      have HO := Lib.hid hok2
      clear hx hmb hand hkeep htk hl hok2 hbits
      have hd : ((mb : Int) == 0) = false := by simp; omega
      go_wp2_with fail
      refine (bitsAt_any (cur ss W p) m HL.out.len G n p cs wr HL.out.blk HL.out.kept HO.out (by omega) hmn (by omega)).mono ?_
      rintro e w2 ⟨A2, c2, mb', rfl, hmb2, hmbn, hr2, hB2⟩
      obtain rfl : mb = mb' := by rw [← HX.out.2.1, hmb2]
      clear hmb2
      go_wp2_with fail
      refine (and_any (bitsL (cur ss W p) p) mb HX.out.2.1 A2 c2 _ w2 hr2 (by unfold maxLen; omega) x HX.out.2.2.1).mono ?_
      rintro e w' ⟨rfl, rfl⟩
      have hown2 := own_to HL.out.own hB2
      have hs2 : w1.heap.size ≤ w2.heap.size := Nat.le_trans HL.out.grown.size hB2.size
      go_wp2_with (at_builtin; refine wpList_append_row _ .i64 rfl _ _ 39 rfl w1.heap.size 3 i0 (.int .i64 0) 8 Tryz.underlying39 hi hz0 hz1 hz2 rfl _ p (W.take p) rfl (hown2.alloc _) (some ⟨w2.heap.size, 0, none⟩) 1 1 _ [x] rfl rfl (Row.lit w2 .i64 [x] 3 rfl) (by unfold maxLen; omega) (by omega) (by simp; omega) ?_; intro A3 c3 w3 hown3 hc3 hB3)
      have hB23 : Below w1.heap.size wr w3 := ((hB2.mono HL.out.grown.size).alloc hs2 _).trans hB3
      have hS3 : SBlk w3 G cs := (hB23.block G hGlt).trans HL.out.blk
      have hg3 := grown_below HL.out.grown hB23
      have hok3 : ∀ s ∈ cur ss W p, SrcOk w3 G s := fun s hs => (HF.out.2.1 s (List.mem_filter.1 hs).1).to hg3
      have HO3 := Lib.hid hok3
      clear hok3
      refine (staying_any (cur ss W p) m HL.out.len G n p x cs w3 hS3 HL.out.cap_ HL.out.kept HO3.out hm hmn (by omega)).mono ?_
      rintro e w4 ⟨cs4, m4, rfl, hm4, hmm4, hS4, hc4, hk4, hg4⟩
      rw [HX.out.2.2.2.1] at hm4 hk4
      have hown4 := own_grown hown3 hg4 hGlt
      rw [← HX.out.2.2.2.2] at hown4
      have HE := Lib.hid (LineAt.mk hm4 hS4 hc4 hk4 hown4 (hg3.trans hg4))
      clear hm4 hS4 hc4 hk4 hown4 hg4 hown3 hown2 hS3 hg3 hB23 hB2 hB3
      go_wp2_with fail
      exact ⟨⟨p + 1, m4, A3, c3, cs4, by omega, by omega, hc3, by go_num, rfl, rfl, HE.out⟩, by simp [intOf]; omega⟩
    · obtain rfl : p = q := by omega
      have hnone : bitsL (cur ss W p) p = [] := by
        rw [hbits]
        have := stays_none HSS.out
        rw [HW.out.2] at this
        exact this
      have HX := Lib.hid hnone
      have HL := Lib.hid hl
      have HO := Lib.hid hok2
      clear hnone hl hok2 hbits
      go_wp2_with fail
      refine (bitsAt_any (cur ss W p) m HL.out.len G n p cs wr HL.out.blk HL.out.kept HO.out (by omega) hmn (by omega)).mono ?_
      rintro e w2 ⟨A2, c2, mb', rfl, hmb2, hmbn, hr2, hB2⟩
      obtain rfl : 0 = mb' := by rw [← hmb2, HX.out]; rfl
      have hown2 := own_to HL.out.own hB2
      have hg2 := grown_below HL.out.grown (hB2.mono HL.out.grown.size)
      have hB := below_of_grown' hB1 hg2 hG
      have HE := Lib.hid (And.intro hown2 hB)
      clear hmb2 hown2 hg2 hB
      go_wp2_with fail
      go_ret
      have e : W.take p = W := List.take_of_length_le (Nat.le_of_eq HW.out.2)
      have hr := HE.out.1
      rw [e] at hr
      exact ⟨A', c', rfl, hpc, Row.own hr, HE.out.2⟩
def LBlk (w : World) (L : Nat) (vs : List Int) : Prop := w.heap[L]? = some (.cells (vs.map (Value.int .i64)).toArray 3 (0, 0))
theorem LBlk.lt {w : World} {L : Nat} {vs : List Int} (h : LBlk w L vs) : L < w.heap.size := (Array.getElem?_eq_some_iff.1 h).1
theorem LBlk.cell {w : World} {L : Nat} {vs : List Int} (h : LBlk w L vs) {k : Nat} (hk : k < vs.length) : ∃ x, w.cell? ⟨L, k, none⟩ = some (.int .i64 x) ∧ w.frozen? ⟨L, k, none⟩ = false := by
  refine ⟨vs[k], ?_, ?_⟩
  · simp [World.cell?, show w.heap[L]? = _ from h, hk]
  · simp [World.frozen?, show w.heap[L]? = _ from h]
theorem LBlk.setc {w : World} {L : Nat} {vs : List Int} (h : LBlk w L vs) (o : Nat) (x : Int) : LBlk (w.setCell ⟨L, o, none⟩ (.int .i64 x)) L (vs.set o x) := by
  show (w.setCell ⟨L, o, none⟩ (.int .i64 x)).heap[L]? = _
  rw [heap_setCell_same w L o _ _ _ h]
  simp [List.map_set]
theorem LBlk.row {w : World} {L : Nat} {vs : List Int} (h : LBlk w L vs) : Row .i64 w w.heap.size (some ⟨L, 0, none⟩) vs := by
  right
  refine ⟨_, rfl, h.lt, fun k x hx => ?_⟩
  have e : (⟨L, 0, none⟩ : Addr).add k = ⟨L, k, none⟩ := by unfold Addr.add; split <;> simp_all
  rw [e]
  simp [World.cell?, show w.heap[L]? = _ from h, hx]
def lostCells (ls : List Int) (n k : Nat) : List Int := ls.take k ++ List.replicate (n - k) 0
theorem lostCells_set {ls : List Int} {n k : Nat} {x : Int} (hl : ls.length = n) (hx : ls[k]? = some x) : (lostCells ls n k).set k x = lostCells ls n (k + 1) := by
  have hk : k < n := by rw [← hl]; exact (List.getElem?_eq_some_iff.1 hx).1
  unfold lostCells
  rw [List.set_append_right _ _ (by simp; omega), List.take_add_one, hx]
  simp only [List.length_take, Nat.min_eq_left (show k ≤ ls.length by omega), Nat.sub_self, Option.toList, List.append_assoc]
  obtain ⟨m, hm⟩ : ∃ m, n - k = m + 1 := ⟨n - k - 1, by omega⟩
  rw [hm, show n - (k + 1) = m by omega, List.replicate_succ]
  simp
theorem madeCells_int (n : Nat) (ls : List Int) : madeCells #[Value.int .i64 0] n = ((lostCells ls n 0).map (Value.int .i64)).toArray := by
  apply Array.ext
  · simp [madeCells, lostCells]
  · intro i h1 h2
    simp [madeCells, lostCells, Nat.mod_one]
theorem SrcOk.far {w w' : World} {G L : Nat} {s : Src} (h : SrcOk w G s) (g : w.grownBy w' (some L)) (hL : s.ad.block ≠ L) : SrcOk w' G s := by
  refine ⟨h.len, h.small, by have := g.size; have := h.lt; omega, h.ne, ?_⟩
  rcases h.row with e | ⟨ad, e, hb, hc⟩
  · exact .inl e
  · obtain rfl := Option.some.inj e
    refine .inr ⟨_, rfl, by have := g.size; omega, fun k x hx => ?_⟩
    rw [← hc k x hx]
    exact World.cell?_of_block (by rw [addr_block]; exact g.block _ h.lt (by simp; exact hL))
theorem LBlk.step {w : World} {L n k : Nat} {ls : List Int} {x : Int} (h : LBlk w L (lostCells ls n k)) (hl : ls.length = n) (hx : ls[k]? = some x) : LBlk (w.setCell ⟨L, k, none⟩ (.int .i64 x)) L (lostCells ls n (k + 1)) := by
  have := h.setc k x
  rw [lostCells_set hl hx] at this
  exact this
theorem lost_any (fs : List FV) (n : Nat) (hn : fs.length = n) (A : Option Addr) (c : Nat) (w : World) (h : FRow w w.heap.size A fs) (hok : ∀ f ∈ fs, FOk f) (hm : n ≤ 100) (W : List Int) (hW : LeastE W (ranks fs)) (q : Nat) (hq : W.length = q) (hq32 : q ≤ 32) :
    Calls Tryz.prog 85 #[.slice A n c] w fun e w' => ∃ A', e = .returned (.slice A' n n) ∧ Row .i64 w' w'.heap.size A' ((ranks fs).map (lostOf W)) ∧ Below w.heap.size w w' := by
  have hmk := run_make_row' (P := Tryz.prog) 39 3 (.int .i64 0) 8 Tryz.underlying39 Tryz.infoInt rfl .i64 .i64 n (by omega) (by omega)
  obtain ⟨ls, hls⟩ : ∃ ls, (ranks fs).map (lostOf W) = ls := ⟨_, rfl⟩
  have hlsn : ls.length = n := by rw [← hls, List.length_map]; simp [ranks, hn]
  rw [madeCells_int n ls] at hmk
  have HW := Lib.hid (And.intro hW (And.intro hq (And.intro hls hlsn)))
  rw [hls]
  clear hW hq hls hlsn
  go_enter Tryz.func85, Tryz.ntmps85
  go_wp2_with fail
  go_step3
  go_wp2_with fail
  refine (line_any fs n hn A c w h hok hm W HW.out.1 q HW.out.2.1 hq32).mono ?_
  rintro e w1 ⟨A1, c1, rfl, hqc, hr1, hB1⟩
  obtain ⟨L, hL⟩ : ∃ L, w1.heap.size = L := ⟨_, rfl⟩
  have HL := Lib.hid hL
  obtain ⟨w2, hw2⟩ : ∃ w2, w1.alloc (.cells ((lostCells ls n 0).map (Value.int .i64)).toArray 3) = w2 := ⟨_, rfl⟩
  have hB2 := below_lits hw2
  have hLB : LBlk w2 L (lostCells ls n 0) := by rw [← hw2, ← hL]; exact World.alloc_heap_new _ _
  have HW2 := Lib.hid hw2
  have hF2 := (h.to hB1).to hB2
  clear hw2
  go_wp2_with fail
  go_step3
  go_wp2_with fail
  try rw [HW2.out]
  refine (sourcesOf_any fs n hn A c w2 hF2 hok hm).mono ?_
  rintro e w3 ⟨G, ss, rfl, hG, hS, hss, hso, hnew, hB3⟩
  have hLG : L < w2.heap.size := hLB.lt
  have hlen : ss.length = n := by
    have := congrArg List.length hss
    simpa [ranks, hn] using this
  have HF := Lib.hid (And.intro hlen (And.intro hso (And.intro hnew (And.intro hS hss))))
  clear hlen hso hnew hS hss
  have hL3 : LBlk w3 L (lostCells ls n 0) := (hB3.block L hLG).trans hLB
  go_wp2_with fail
  go_loopw [19] (fun i wr => ∃ (k : Nat), k ≤ n ∧ i = .int .i64 k ∧ LBlk wr L (lostCells ls n k) ∧ w3.grownBy wr (some L))
    (fun i _ => n - (intOf i).toNat)
  case atStart => exact ⟨0, Nat.zero_le _, rfl, hL3, ⟨rfl, rfl, rfl, Nat.le_refl _, fun _ _ _ => rfl⟩⟩
  case round =>
    obtain ⟨k, hk, rfl, hLk, hgr⟩ := hrel
    by_cases hlt : k < n
    · obtain ⟨s, hs⟩ : ∃ s, ss[k]? = some s := ⟨_, List.getElem?_eq_getElem (by rw [HF.out.1]; exact hlt)⟩
      have hmem := List.mem_of_getElem? hs
      have hne : s.ad.block ≠ L := by have := HF.out.2.2.1 s hmem; omega
      have hso := (HF.out.2.1 s hmem).far hgr hne
      have hGlt := HF.out.2.2.2.1.lt
      have hcell : wr.cell? ⟨G, k, none⟩ = some s.v := by
        have h0 : SBlk wr G (ss.map Src.v) := (hgr.block G hGlt (by simp; omega)).trans HF.out.2.2.2.1
        exact h0.cell (by rw [List.getElem?_map, hs]; rfl)
      have hline : Row .i64 wr L A1 W := by
        rw [hL] at hr1
        refine hr1.move fun p hp => ?_
        have hp1 : p.block < w1.heap.size := by omega
        exact World.cell?_of_block (((hgr.block p.block (by have := hB2.size; have := hB3.size; omega) (by simp; omega)).trans (hB3.block _ (by have := hB2.size; omega))).trans (hB2.block _ hp1))
      obtain ⟨x0, hx0, hfz⟩ := hLk.cell (k := k) (by simp [lostCells]; rw [HW.out.2.2.2]; omega)
      have hall := HW.out.1.all s.r (by rw [← HF.out.2.2.2.2]; exact List.mem_map.2 ⟨s, hmem, rfl⟩)
      have hlk : ls[k]? = some (lostOf W s.r) := by
        rw [← HW.out.2.2.1, ← HF.out.2.2.2.2]
        simp [hs]
      have hsm := hso.small
      have hrow := hso.row
      have hsl := hso.len
      obtain ⟨sa, sn, sc, sr⟩ := s
      simp only [Src.v] at hcell hsm hrow hsl hall hlk
      have HX := Lib.hid (And.intro hlk (And.intro hall hsl))
      have HLK := Lib.hid (And.intro hLk hgr)
      clear hlk hall hsl hso hs hmem hne hLk hgr
      go_wp2_with fail
      go_loop [26] (fun i => ∃ p : Nat, p ≤ q ∧ i = .int .i64 p ∧ W.take p = sr.take p) (fun i => q - (intOf i).toNat)
      case atStart => exact ⟨0, Nat.zero_le _, rfl, by simp⟩
      case round =>
        obtain ⟨p, hp, rfl, htk⟩ := hrel
        by_cases hlt2 : p < q
        · obtain ⟨ad, x, rfl, hx, hc⟩ := hline.get_ (k := p) (by rw [HW.out.2.1]; exact hlt2)
          have hb : p < sn := by
            rcases HX.out.2.1 with e | ⟨j, g1, g2, g3⟩
            · rw [← HX.out.2.2, e, HW.out.2.1]; exact hlt2
            · rcases Nat.lt_or_ge p sn with h' | h'
              · exact h'
              · exfalso
                have hj : j < p := by have := (List.getElem?_eq_some_iff.1 g3).1; rw [HX.out.2.2] at this; omega
                have := take_get htk hj
                rw [g2, g3] at this
                simp at this
          obtain ⟨y, hy⟩ : ∃ y, sr[p]? = some y := ⟨_, List.getElem?_eq_getElem (by rw [HX.out.2.2]; exact hb)⟩
          by_cases hyx : y = x
          · have hd : (y != x) = false := by simp [hyx]
            have hnext : W.take (p + 1) = sr.take (p + 1) := take_next htk (by rw [hx, hy, hyx])
            have HN := Lib.hid (And.intro hnext hy)
            clear hnext hy hyx hx htk
            go_wp2_with (go_at_call 118; refine (bit_yes sr sn HX.out.2.2 (some sa) sc _ p y HN.out.2 _ hrow (by omega)).mono ?_; rintro e w' ⟨rfl, rfl⟩)
            go_round
            case rel => exact ⟨p + 1, by omega, by go_num, HN.out.1⟩
            case measure => simp [intOf]; omega
          · have hd : (y != x) = true := by simp [hyx]
            have hlost : lostOf W sr = p := lostOf_diff htk hx hy (fun e => hyx e.symm)
            have HN := Lib.hid (And.intro hlost hy)
            clear hlost hy hyx hx htk
            go_wp2_with (go_at_call 118; refine (bit_yes sr sn HX.out.2.2 (some sa) sc _ p y HN.out.2 _ hrow (by omega)).mono ?_; rintro e w' ⟨rfl, rfl⟩)
            have hx1 := HX.out.1
            rw [HN.out.1] at hx1
            exact ⟨⟨k + 1, by omega, by go_num, HLK.out.1.step HW.out.2.2.2 hx1, HLK.out.2.trans (grown_setAt _ _ _ _)⟩, by simp [intOf]; omega⟩
        · obtain rfl : p = q := by omega
          have hlost : lostOf W sr = -1 := by
            have := stay_end HX.out.2.1 (by rw [HW.out.2.1]; exact decide_eq_true htk.symm)
            rw [this]
            exact lostOf_self W
          have HN := Lib.hid hlost
          clear hlost htk
          go_wp2_with fail
          have hx1 := HX.out.1
          rw [HN.out] at hx1
          exact ⟨⟨k + 1, by omega, by go_num, HLK.out.1.step HW.out.2.2.2 hx1, HLK.out.2.trans (grown_setAt _ _ _ _)⟩, by simp [intOf]; omega⟩
    · obtain rfl : k = n := by omega
      go_wp2_with fail
      first | go_ret | (rw [Exit.noGoto_ret]; go_ret)
      have e : lostCells ls k k = ls := by unfold lostCells; rw [List.take_of_length_le (Nat.le_of_eq HW.out.2.2.2)]; simp
      rw [e] at hLk
      refine ⟨_, rfl, hLk.row, ?_⟩
      have hB13 : Below w.heap.size w w3 := (below_then hB1 hB2).trans (hB3.mono (below_then hB1 hB2).size)
      exact below_of_grown' hB13 hgr (by rw [← hL]; exact hB1.size)
theorem win_any (fs : List FV) (n : Nat) (hn : fs.length = n) (A : Option Addr) (c : Nat) (w : World) (h : FRow w w.heap.size A fs) (hok : ∀ f ∈ fs, FOk f) (hm : n ≤ 100) (W : List Int) (hW : LeastE W (ranks fs)) (q : Nat) (hq : W.length = q) (hq32 : q ≤ 32) (z : Int) (hz : winOf W (ranks fs) = z) :
    Calls Tryz.prog 65 #[.slice A n c] w fun e w' => e = .returned (.int .i64 z) ∧ Below w.heap.size w w' := by
  obtain ⟨ls, hls⟩ : ∃ ls, (ranks fs).map (lostOf W) = ls := ⟨_, rfl⟩
  have hlsn : ls.length = n := by rw [← hls, List.length_map]; simp [ranks, hn]
  have hidx : idxI (-1) ls = z := by rw [← hz, winOf, hls]
  have HX := Lib.hid (And.intro hls (And.intro hlsn (And.intro hidx (And.intro hW hq))))
  clear hls hlsn hidx hz hW hq
  go_enter Tryz.func65, Tryz.ntmps65
  go_wp2_with fail
  refine (lost_any fs n hn A c w h hok hm W HX.out.2.2.2.1 q HX.out.2.2.2.2 hq32).mono ?_
  rw [HX.out.1]
  rintro e w1 ⟨A1, rfl, hr1, hB1⟩
  go_wp2_with fail
  refine (index_any ls (-1) n HX.out.2.1 A1 n _ w1 hr1 (by unfold maxLen; omega)).mono ?_
  rw [HX.out.2.2.1]
  rintro e w' ⟨rfl, rfl⟩
  go_wp2_with fail
  go_ret
  exact ⟨rfl, hB1⟩
end Go.Proofs.YtcifjccojmfpaaaGreat

namespace Go.Proofs.YtcifjccojmfpaaaGreat
open Go.RowKit
set_option linter.unusedVariables false
set_option linter.unusedSimpArgs false
def ICs (x : Int) : List Value := [.int .i64 x]
theorem shI : Shape ICs 1 := ⟨fun _ => rfl, fun v u hu => by simp only [ICs, List.mem_cons, List.not_mem_nil, or_false] at hu; subst hu; rfl, by decide⟩
theorem Tryz.infoI10 : GInfo 39 3 1 8 := ⟨Tryz.underlying39, ⟨.int .i64 0, by kernel_rfl, by kernel_rfl⟩, by decide⟩
theorem shF10 : Shape FV.cs 5 := ⟨fun _ => rfl, fun v u hu => by simp only [FV.cs, List.mem_cons, List.not_mem_nil, or_false] at hu; rcases hu with rfl | rfl | rfl | rfl | rfl <;> rfl, by decide⟩
theorem Tryz.infoF10 : GInfo 44 34 5 56 := ⟨Tryz.underlying44, ⟨.agg #[.bool false, .int .i64 0, .bool false, .int .i64 0, .slice none 0 0], by kernel_rfl, by kernel_rfl⟩, by decide⟩
abbrev FGOwn (w : World) (base : Nat) (A : Option Addr) (n c : Nat) (fs : List FV) : Prop := GOwn FV.cs 5 34 w base A n c fs
abbrev IGOwn (w : World) (base : Nat) (A : Option Addr) (n c : Nat) (l : List Int) : Prop := GOwn ICs 1 3 w base A n c l
theorem gcells_int (l : List Int) : gcells ICs l = l.map (Value.int .i64) := by
  induction l with
  | nil => rfl
  | cons x l ih => simp only [gcells, List.flatMap_cons, List.map_cons] at ih ⊢; rw [ih]; rfl
theorem igrow_row {w : World} {B : Nat} {A : Option Addr} {l : List Int} (h : GRow ICs w B A l) : Row .i64 w B A l := by
  rcases h with rfl | ⟨ad, e, hb, hc⟩
  · exact .inl rfl
  · refine .inr ⟨ad, e, hb, fun k x hx => hc k _ ?_⟩
    rw [gcells_int, List.getElem?_map, hx]; rfl
theorem gown_fresh {V : Type} {cs : V → List Value} {sz : Nat} {t : TypeId} {w : World} {base : Nat} {A : Option Addr} {n c : Nat} {vs : List V} (h : GOwn cs sz t w base A n c vs) : fresh base A := fun ad e => by
  subst e; exact gown_ge h _ (by simp [ownL])
def Dis (A B : Option Addr) : Prop := ∀ Y ∈ ownL A, Y ∉ ownL B
theorem Dis.nil {B : Option Addr} : Dis none B := fun Y h => by cases h
theorem Dis.symm {A B : Option Addr} (h : Dis A B) : Dis B A := fun Y h1 h2 => h Y h2 h1
theorem Dis.step {A A' B : Option Addr} {s : Nat} (h : Dis A B) (e : ownL A' = ownL A ∨ ownL A' = [s]) (hlt : ∀ Y ∈ ownL B, Y < s) : Dis A' B := fun Y h1 h2 => by
  rcases e with e | e
  · rw [e] at h1; exact h Y h1 h2
  · rw [e] at h1; simp at h1; have := hlt Y h2; omega
theorem gown_beside {V : Type} {cs : V → List Value} {sz : Nat} {t : TypeId} {w w' : World} {base : Nat} {A A1 : Option Addr} {n c n1 c1 : Nat} {vs : List V} (h : GOwn cs sz t w base A n c vs) (g : w.grownBy w' (Value.slice A1 n1 c1).ownBlock) (hd : Dis A1 A) : GOwn cs sz t w' base A n c vs :=
  h.kept g (by
    cases A with
    | none => exact .inl rfl
    | some a =>
      right
      cases A1 with
      | none => intro e; cases e
      | some b =>
        intro e
        have e' : a.block = b.block := by simpa [Value.ownBlock] using e
        exact hd b.block (by simp [ownL]) (by simp [ownL, e']))
theorem fsis_plo {w w' : World} {P : Nat → Prop} {s : Nat} {fs : List FV} {Fs : List FC} {A : Option Addr} {n c : Nat} (h : FsIs w (PLo P s) fs Fs) (g : w.grownBy w' (Value.slice A n c).ownBlock) (hs : ∀ Y ∈ ownL A, s ≤ Y) : FsIs w' (PLo P s) fs Fs := by
  cases A with
  | none => exact h.to ((Below.refl _ _).grown g (Nat.le_refl _) (fun k hk => by cases hk))
  | some a => exact h.grow (X := a.block) g (plo_not (hs _ (by simp [ownL])))
theorem fis_plo {w w' : World} {P : Nat → Prop} {s : Nat} {f : FV} {F : FC} {A : Option Addr} {n c : Nat} (h : FIs w (PLo P s) f F) (g : w.grownBy w' (Value.slice A n c).ownBlock) (hs : ∀ Y ∈ ownL A, s ≤ Y) : FIs w' (PLo P s) f F := by
  cases A with
  | none => exact h.to ((Below.refl _ _).grown g (Nat.le_refl _) (fun k hk => by cases hk))
  | some a => exact h.grow (X := a.block) g (plo_not (hs _ (by simp [ownL])))
theorem offers_c {w : World} {P : Nat → Prop} {A : Option Addr} {n c : Nat} {Ns : List NC} (h : NSl w P A n c Ns) (hok : OkNs Ns) (hm : n ≤ 8) (m : Nat) (hmm : (offN Ns).length = m) :
    Calls Tryz.prog 64 #[.slice A n c] w fun e w' => ∃ (A1 A2 : Option Addr) (c1 c2 : Nat) (fs : List FV), e = .returned (.tuple #[.slice A1 m c1, .slice A2 m c2]) ∧ FRow w' w'.heap.size A1 fs ∧ fs.length = m ∧ m ≤ c1 ∧ FsIs w' (PLo P w.heap.size) fs (offF Ns (offN Ns)) ∧ Row .i64 w' w'.heap.size A2 (offI (offN Ns)) ∧ m ≤ c2 ∧ fresh w.heap.size A1 ∧ fresh w.heap.size A2 ∧ Below w.heap.size w w' := by
  have Hok := Lib.hid hok
  have Hl := Lib.hid h.len
  have Hm := Lib.hid hmm
  have hS : NSl w (PLo P w.heap.size) A n c Ns := h.mono plo_up
  clear hok hmm h
  go_enter Tryz.func64, Tryz.ntmps64
  go_wp2_with fail
  go_loopw [4, 5, 11] (fun a b i wr => ∃ (k m1 c1 c2 : Nat) (A1 A2 : Option Addr) (fs : List FV), k ≤ n ∧ i = .int .i64 k ∧ a = .slice A1 m1 c1 ∧ b = .slice A2 m1 c2 ∧ Hid ((offTo Ns k).length = m1) ∧ FGOwn wr w.heap.size A1 m1 c1 fs ∧ IGOwn wr w.heap.size A2 m1 c2 (offI (offTo Ns k)) ∧ FsIs wr (PLo P w.heap.size) fs (offF Ns (offTo Ns k)) ∧ Dis A1 A2 ∧ Below w.heap.size w wr) (fun _ _ i _ => n - (intOf i).toNat)
  case atStart => exact ⟨0, 0, 0, 0, none, none, [], Nat.zero_le _, rfl, rfl, rfl, Lib.hid rfl, gown_nil shF10 _ _, gown_nil shI _ _, FsIs.nil, Dis.nil, Below.refl _ _⟩
  case round =>
    obtain ⟨k, m1, c1, c2, A1, A2, fs, hk, rfl, rfl, rfl, Hm1, hO50, hI50, hF50, hD, hT50⟩ := hrel
    have hmk : m1 ≤ k := by rw [← Hm1.out]; exact off_le _ _
    by_cases hlt : k < n
    · have j1 : (k : Int) < (n : Int) := by omega
      obtain ⟨ad, x, ea_, hAt50, hV50⟩ := NSl.at_ (hS.to hT50) hlt
      subst ea_
      obtain ⟨N, hN_⟩ : ∃ N_, nd Ns k = N_ := ⟨_, rfl⟩
      replace hV50 : NIs wr (PLo P w.heap.size) x N := by rw [← hN_]; exact hV50
      have HN := Lib.hid hN_
      clear hN_
      have HokN := Lib.hid (show OkN N by rw [← HN.out]; exact Hok.out.at_ (by rw [Hl.out]; exact hlt))
      have ht_ := hAt50
      obtain ⟨t0, t1, t2, t3, t4, t5, t6⟩ := ht_
      go_wp2_with fail
      clear t0 t1 t2 t3 t4 t5 t6
      obtain ⟨q, hq⟩ : ∃ q, hasN N = q := ⟨_, rfl⟩
      have Hq := Lib.hid hq
      clear hq
      obtain ⟨G, hG⟩ : ∃ G, nextF N = G := ⟨_, rfl⟩
      have HG := Lib.hid hG
      clear hG
      refine (next_c hV50 HokN.out q Hq.out G HG.out).mono ?_
      rintro e w51 ⟨g, rfl, hg_, hB51⟩
      have hT51 := below_then hT50 hB51
      have hO51 := GOwn.to hO50 hB51
      have hI51 := GOwn.to hI50 hB51
      have hF51 := FsIs.to hF50 hB51
      clear hT50 hO50 hI50 hF50 hAt50 hV50 hB51
      cases q
      · have HO := Lib.hid (show offTo Ns (k + 1) = offTo Ns k by rw [offTo, show nd Ns k = N from HN.out, Hq.out]; simp)
        have hBq : Below w51.heap.size w51 (w51.alloc (.cells #[.bool g.x, .int .i64 g.i, .bool g.r, .int .i64 g.n, .slice g.a g.m g.c] 34)) := below_alloc1 _ _
        have hTx := below_then hT51 hBq
        have hOx := GOwn.to hO51 hBq
        have hIx := GOwn.to hI51 hBq
        have hFx := FsIs.to hF51 hBq
        go_wp2_with fail
        go_round
        case measure => simp [intOf]; omega
        exact ⟨k + 1, m1, c1, c2, A1, A2, fs, by omega, by go_num, rfl, rfl, (by rw [HO.out]; exact Hm1), hOx, (by rw [HO.out]; exact hIx), (by rw [HO.out]; exact hFx), hD, hTx⟩
      · have HO := Lib.hid (show offTo Ns (k + 1) = offTo Ns k ++ [k] by rw [offTo, show nd Ns k = N from HN.out, Hq.out]; rfl)
        have hBq : Below w51.heap.size w51 ((w51.alloc (.cells #[.bool g.x, .int .i64 g.i, .bool g.r, .int .i64 g.n, .slice g.a g.m g.c] 34)).alloc (.cells #[.bool g.x, .int .i64 g.i, .bool g.r, .int .i64 g.n, .slice g.a g.m g.c] 34)) := below_then (below_alloc1 _ _) (below_alloc1 _ _)
        have hOx := GOwn.to hO51 hBq
        have hIx := GOwn.to hI51 hBq
        have hFx := FsIs.to hF51 hBq
        have hgx := FIs.to hg_ hBq
        have hTx := below_then hT51 hBq
        have hix : GOwn FV.cs 5 34 _ w.heap.size A1 m1 c1 fs := hOx
        go_wp2_with (first
          | (have hq_ := hI90; clear hq_; at_builtin; refine wpList_append_g shI Tryz.infoI10 _ rfl _ _ rfl w.heap.size A2 m1 c2 (offI (offTo Ns k)) rfl hI91 _ 1 _ _ [(k : Int)] rfl rfl (GRow.lit w90 [(k : Int)] rfl (by simp)) (by omega) (by have := hT91.size; exact this) ?_; intro A2' c2' w92 hI92 hc92 hg92 he92 hB92)
          | (at_builtin; refine wpList_append_g shF10 Tryz.infoF10 _ rfl _ _ rfl w.heap.size A1 m1 c1 fs rfl hOx _ 1 _ _ [g] rfl rfl (GRow.lit (w51.alloc (.cells #[.bool g.x, .int .i64 g.i, .bool g.r, .int .i64 g.n, .slice g.a g.m g.c] 34)) [g] rfl (by simp)) (by omega) (by have := hTx.size; exact this) ?_; intro A1' c1' w90 hO90 hc90 hg90 he90 hB90; have hI90 := gown_beside hIx hg90 hD; have hT90 : Below w.heap.size w w90 := hTx.trans hB90; have hq91 : Below w90.heap.size w90 (w90.alloc (.cells #[.int .i64 (k : Int)] 3)) := below_alloc1 _ _; have hI91 := GOwn.to hI90 hq91; have hT91 := below_then hT90 hq91)
          | fail)
        have hF90 := fsis_plo hFx hg90 (gown_ge hOx)
        have hf90 := fis_plo hgx hg90 (gown_ge hOx)
        have hD90 : Dis A1' A2 := hD.step he90 (gown_lt hIx)
        have hO92 := gown_beside (GOwn.to hO90 hq91) hg92 hD90.symm
        have hFF := fsis_plo ((hF90.append (FsIs.one hf90)).to hq91) hg92 (gown_ge hI91)
        have hD92 : Dis A1' A2' := (hD90.symm.step he92 (gown_lt (GOwn.to hO90 hq91))).symm
        have hT92 : Below w.heap.size w w92 := hT91.trans hB92
        go_round
        case measure => simp [intOf]; omega
        exact ⟨k + 1, m1 + 1, c1', c2', A1', A2', fs ++ [g], by omega, by go_num, rfl, rfl, Lib.hid (by rw [HO.out, List.length_append, Hm1.out]; rfl), hO92, (by rw [HO.out]; simpa [offI] using hI92), (by rw [HO.out, show offF Ns (offTo Ns k ++ [k]) = offF Ns (offTo Ns k) ++ [G] by unfold offF; rw [List.map_append]; simp only [List.map_cons, List.map_nil]; rw [show nd Ns k = N from HN.out, HG.out]]; exact hFF), hD92, hT92⟩
    · obtain rfl : k = n := by omega
      have j1 : ¬ (k : Int) < (k : Int) := by omega
      have e1 : offTo Ns k = offN Ns := by unfold offN; rw [Hl.out]
      rw [e1] at hI50 hF50 Hm1
      obtain rfl : m1 = m := Hm1.out.symm.trans Hm.out
      go_wp2_with fail
      go_ret2
      exact ⟨A1, A2, c1, c2, rfl, fs, FRow.own hO50, GOwn.len shF10 hO50, GOwn.cap hO50, hF50, igrow_row (GRow.own shI hI50), GOwn.cap hI50, gown_fresh hO50, gown_fresh hI50, hT50⟩
theorem win_c {w : World} {P : Nat → Prop} {A : Option Addr} {m c : Nat} {Ns : List NC} {fs : List FV} (hr : FRow w w.heap.size A fs) (hl : fs.length = m) (hm : m ≤ 100) (h : FsIs w P fs (offF Ns (offN Ns))) (hok : OkNs Ns) (z : Int) (hz : winPos Ns = z) :
    Calls Tryz.prog 65 #[.slice A m c] w fun e w' => e = .returned (.int .i64 z) ∧ Below w.heap.size w w' := by
  obtain ⟨hfok, W, q, h1, h2, h3, h4⟩ := win_least h hok
  exact win_any fs m hl A c w hr hfok hm W h1 q h2 h3 z (h4.trans hz)
end Go.Proofs.YtcifjccojmfpaaaGreat

namespace Go.Proofs.YtcifjccojmfpaaaGreat
open Go.RowKit
set_option linter.unusedVariables false
set_option linter.unusedSimpArgs false
theorem contains_c (l : List Int) (v : Int) (n : Nat) (hn : l.length = n) (A : Option Addr) (c B : Nat) (w : World) (h : Row .i64 w B A l) (hl : n ≤ 1000) (q : Bool) (hq : decide (v ∈ l) = q) :
    Calls Tryz.prog 98 #[.slice A n c, .int .i64 v] w fun e w' => e = .returned (.bool q) ∧ Below w.heap.size w w' :=
  (contains_any l v n hn A c B w h (by unfold maxLen; omega) q hq).mono (by rintro e w' ⟨h1, rfl⟩; exact ⟨h1, Below.refl _ _⟩)
theorem khit_c {w : World} {P : Nat → Prop} {k : KV} {Ns : List NC} {H : List Int} {F : FC} (h : KIs w P k Ns H F (alongs Ns)) (i : Nat) (q : Bool) (hq : inH H i = q) :
    Calls Tryz.prog 76 #[k.v, .int .i64 i] w fun e w' => e = .returned (.bool q) ∧ Below w.heap.size w w' := by
  have Hq := Lib.hid (show decide ((i : Int) ∈ H) = q from hq)
  clear hq
  obtain ⟨w0, hw0⟩ : ∃ w0, (w.alloc (.cells #[.slice k.la k.lm k.lc, .slice k.wa k.wm k.wc, .int .i64 k.w, .bool k.f.x, .int .i64 k.f.i, .bool k.f.r, .int .i64 k.f.n, .slice k.f.a k.f.m k.f.c, .slice k.sa k.sm k.sc, .bool k.d] 76)) = w0 := ⟨_, rfl⟩
  have hT0 : Below w.heap.size w w0 := by rw [← hw0]; exact below_alloc1 _ _
  have hk0 : w0.heap[w.heap.size]? = some (.cells #[.slice k.la k.lm k.lc, .slice k.wa k.wm k.wc, .int .i64 k.w, .bool k.f.x, .int .i64 k.f.i, .bool k.f.r, .int .i64 k.f.n, .slice k.f.a k.f.m k.f.c, .slice k.sa k.sm k.sc, .bool k.d] 76) := by rw [← hw0]; exact World.alloc_heap_new _ _
  have hs0 : w0.heap.size = w.heap.size + 1 := by rw [← hw0]; simp
  have Hs0 := Lib.hid hs0
  clear hs0
  obtain ⟨kc0, kc1, kc2, kc3, kc4, kc5, kc6, kc7, kc8, kc9⟩ := cellsK' hk0
  go_enter Tryz.func76, Tryz.ntmps76
  go_wp2_with fail
  clear kc0 kc1 kc2 kc3 kc4 kc5 kc6 kc7 kc8 kc9
  clear hw0
  have hZ0 := Below.refl w0.heap.size w0
  refine (contains_c H i k.wm h.hl k.wa k.wc _ w0 (h.h.to hT0) h.hm q Hq.out).mono ?_
  rintro e w1 ⟨rfl, hB1⟩
  have hT1 := below_then hT0 hB1
  have hZ1 := below_then hZ0 hB1
  clear hZ0
  have hk1 := block_below hB1 hk0
  clear hT0 hk0  hB1
  obtain ⟨kc0, kc1, kc2, kc3, kc4, kc5, kc6, kc7, kc8, kc9⟩ := cellsK' hk1
  go_wp2_with fail
  go_ret
  exact ⟨rfl, hT1⟩
theorem kobj_c {w : World} {P : Nat → Prop} {k : KV} {Ns : List NC} {H : List Int} {F : FC} (h : KIs w P k Ns H F (alongs Ns)) (i : Nat) (hi : i < k.lm) (q : Bool) (hq : (inH H i && decide ((nd Ns i).k.s = 1)) = q) :
    Calls Tryz.prog 72 #[k.v, .int .i64 i] w fun e w' => e = .returned (.bool q) ∧ Below w.heap.size w w' := by
  obtain ⟨la, lm, lc, wa, wm, wc, kw, f, sa, sm, sc, d⟩ := k
  try dsimp only at hi
  have hlm : Ns.length = lm := h.l.len
  obtain rfl : sm = lm := by have h_ : (alongs Ns).length = sm := h.sl; rw [alongs_len] at h_; omega
  have Hlm := Lib.hid hlm
  clear hlm
  obtain ⟨L, hsa, hbk⟩ := h.s
  dsimp only at hsa
  subst hsa
  have hbig : sm ≤ maxLen := h.l.big
  unfold maxLen at hbig
  obtain ⟨ad, m, ea_, hAt, hV⟩ := NSl.at_ h.l hi
  dsimp only at ea_
  subst ea_
  obtain ⟨N, hN_⟩ : ∃ N_, nd Ns i = N_ := ⟨_, rfl⟩
  replace hV : NIs w P m N := by rw [← hN_]; exact hV
  have HN := Lib.hid hN_
  clear hN_
  obtain ⟨b, hb_⟩ : ∃ b, alongN Ns i = b := ⟨_, rfl⟩
  have hsc : w.cell? ⟨L, i, none⟩ = some (.bool b) := by have h_ := (hbk.cell (k := i) (by rw [alongs_len, Hlm.out]; exact hi)).1; rw [alongs_at (by rw [Hlm.out]; exact hi), hb_] at h_; exact h_
  have Hb := Lib.hid hb_
  clear hb_ hbk
  have j1 : (i : Int) < (sm : Int) := by omega
  have hks : m.k.s = N.k.s := by rw [hV.k]
  have Hks := Lib.hid hks
  clear hks
  obtain ⟨q1, h1⟩ : ∃ q, inH H i = q := ⟨_, rfl⟩
  rw [h1, show nd Ns i = N from HN.out] at hq
  have H1 := Lib.hid h1
  clear h1
  cases q1
  · skip
    obtain rfl : false = q := hq
    obtain ⟨w0, hw0⟩ : ∃ w0, (w.alloc (.cells #[.slice (some ad) sm lc, .slice wa wm wc, .int .i64 kw, .bool f.x, .int .i64 f.i, .bool f.r, .int .i64 f.n, .slice f.a f.m f.c, .slice (some ⟨L, 0, none⟩) sm sc, .bool d] 76)) = w0 := ⟨_, rfl⟩
    have hT0 : Below w.heap.size w w0 := by rw [← hw0]; exact below_alloc1 _ _
    have hk0 : w0.heap[w.heap.size]? = some (.cells #[.slice (some ad) sm lc, .slice wa wm wc, .int .i64 kw, .bool f.x, .int .i64 f.i, .bool f.r, .int .i64 f.n, .slice f.a f.m f.c, .slice (some ⟨L, 0, none⟩) sm sc, .bool d] 76) := by rw [← hw0]; exact World.alloc_heap_new _ _
    have hs0 : w0.heap.size = w.heap.size + 1 := by rw [← hw0]; simp
    have Hs0 := Lib.hid hs0
    clear hs0
    obtain ⟨kc0, kc1, kc2, kc3, kc4, kc5, kc6, kc7, kc8, kc9⟩ := cellsK' hk0
    go_enter Tryz.func72, Tryz.ntmps72
    go_wp2_with fail
    clear kc0 kc1 kc2 kc3 kc4 kc5 kc6 kc7 kc8 kc9
    clear hw0
    have hZ0 := Below.refl w0.heap.size w0
    refine (khit_c (k := ⟨some ad, sm, lc, wa, wm, wc, kw, f, some ⟨L, 0, none⟩, sm, sc, d⟩) (h.to hT0) i false H1.out).mono ?_
    rintro e w1 ⟨rfl, hB1⟩
    have hT1 := below_then hT0 hB1
    have hZ1 := below_then hZ0 hB1
    clear hZ0
    have hk1 := block_below hB1 hk0
    clear hT0 hk0  hB1
    obtain ⟨kc0, kc1, kc2, kc3, kc4, kc5, kc6, kc7, kc8, kc9⟩ := cellsK' hk1
    go_wp2_with fail
    go_ret
    exact ⟨rfl, hT1⟩
  have hq2 : decide (N.k.s = 1) = q := hq
  have Hq := Lib.hid (show (m.k.s == 1) = q by rw [Hks.out, ← hq2]; rfl)
  clear hq hq2
  obtain ⟨w0, hw0⟩ : ∃ w0, (w.alloc (.cells #[.slice (some ad) sm lc, .slice wa wm wc, .int .i64 kw, .bool f.x, .int .i64 f.i, .bool f.r, .int .i64 f.n, .slice f.a f.m f.c, .slice (some ⟨L, 0, none⟩) sm sc, .bool d] 76)) = w0 := ⟨_, rfl⟩
  have hT0 : Below w.heap.size w w0 := by rw [← hw0]; exact below_alloc1 _ _
  have hk0 : w0.heap[w.heap.size]? = some (.cells #[.slice (some ad) sm lc, .slice wa wm wc, .int .i64 kw, .bool f.x, .int .i64 f.i, .bool f.r, .int .i64 f.n, .slice f.a f.m f.c, .slice (some ⟨L, 0, none⟩) sm sc, .bool d] 76) := by rw [← hw0]; exact World.alloc_heap_new _ _
  have hs0 : w0.heap.size = w.heap.size + 1 := by rw [← hw0]; simp
  have Hs0 := Lib.hid hs0
  clear hs0
  obtain ⟨kc0, kc1, kc2, kc3, kc4, kc5, kc6, kc7, kc8, kc9⟩ := cellsK' hk0
  go_enter Tryz.func72, Tryz.ntmps72
  go_wp2_with fail
  clear kc0 kc1 kc2 kc3 kc4 kc5 kc6 kc7 kc8 kc9
  clear hw0
  have hZ0 := Below.refl w0.heap.size w0
  refine (khit_c (k := ⟨some ad, sm, lc, wa, wm, wc, kw, f, some ⟨L, 0, none⟩, sm, sc, d⟩) (h.to hT0) i true H1.out).mono ?_
  rintro e w1 ⟨rfl, hB1⟩
  have hT1 := below_then hT0 hB1
  have hZ1 := below_then hZ0 hB1
  clear hZ0
  have hk1 := block_below hB1 hk0
  clear hT0 hk0  hB1
  have hAt1 := nat_to hAt hT1
  have ht_ := hAt1
  obtain ⟨t0, t1, t2, t3, t4, t5, t6⟩ := ht_
  obtain ⟨kc0, kc1, kc2, kc3, kc4, kc5, kc6, kc7, kc8, kc9⟩ := cellsK' hk1
  go_wp2_with fail
  clear t0 t1 t2 t3 t4 t5 t6 kc0 kc1 kc2 kc3 kc4 kc5 kc6 kc7 kc8 kc9
  go_ret
  exact ⟨ret_bool (by simpa using Hq.out), hT1⟩
theorem kcorr_c {w : World} {P : Nat → Prop} {k : KV} {Ns : List NC} {H : List Int} {F : FC} (h : KIs w P k Ns H F (alongs Ns)) (q : Bool) (hq : corrTo Ns H Ns.length = q) :
    Calls Tryz.prog 69 #[k.v] w fun e w' => e = .returned (.bool q) ∧ Below w.heap.size w w' := by
  have hi : True := trivial
  obtain ⟨la, lm, lc, wa, wm, wc, kw, f, sa, sm, sc, d⟩ := k
  try dsimp only at hi
  have hlm : Ns.length = lm := h.l.len
  obtain rfl : sm = lm := by have h_ : (alongs Ns).length = sm := h.sl; rw [alongs_len] at h_; omega
  have Hlm := Lib.hid hlm
  clear hlm
  obtain ⟨L, hsa, hbk⟩ := h.s
  dsimp only at hsa
  subst hsa
  have hbig : sm ≤ maxLen := h.l.big
  unfold maxLen at hbig
  rw [Hlm.out] at hq
  have Hq := Lib.hid hq
  clear hq hi
  obtain ⟨w0, hw0⟩ : ∃ w0, (w.alloc (.cells #[.slice la sm lc, .slice wa wm wc, .int .i64 kw, .bool f.x, .int .i64 f.i, .bool f.r, .int .i64 f.n, .slice f.a f.m f.c, .slice (some ⟨L, 0, none⟩) sm sc, .bool d] 76)) = w0 := ⟨_, rfl⟩
  have hT0 : Below w.heap.size w w0 := by rw [← hw0]; exact below_alloc1 _ _
  have hk0 : w0.heap[w.heap.size]? = some (.cells #[.slice la sm lc, .slice wa wm wc, .int .i64 kw, .bool f.x, .int .i64 f.i, .bool f.r, .int .i64 f.n, .slice f.a f.m f.c, .slice (some ⟨L, 0, none⟩) sm sc, .bool d] 76) := by rw [← hw0]; exact World.alloc_heap_new _ _
  have hs0 : w0.heap.size = w.heap.size + 1 := by rw [← hw0]; simp
  have Hs0 := Lib.hid hs0
  clear hs0
  have hlk := (Array.getElem?_eq_some_iff.1 hk0).1
  obtain ⟨kc0, kc1, kc2, kc3, kc4, kc5, kc6, kc7, kc8, kc9⟩ := cellsK' hk0
  go_enter Tryz.func69, Tryz.ntmps69
  go_wp2_with fail
  clear hlk kc0 kc1 kc2 kc3 kc4 kc5 kc6 kc7 kc8 kc9
  clear hw0
  have hZ0 := Below.refl w0.heap.size w0
  go_loopw [7] (fun i wr => ∃ (i0 : Nat), i0 ≤ sm ∧ i = .int .i64 i0 ∧ Hid (corrTo Ns H i0 = false) ∧ wr.heap[w.heap.size]? = some (.cells #[.slice la sm lc, .slice wa wm wc, .int .i64 kw, .bool f.x, .int .i64 f.i, .bool f.r, .int .i64 f.n, .slice f.a f.m f.c, .slice (some ⟨L, 0, none⟩) sm sc, .bool d] 76) ∧ Below w.heap.size w wr) (fun i _ => sm - (intOf i).toNat)
  case atStart => exact ⟨0, Nat.zero_le _, rfl, Lib.hid rfl, hk0, hT0⟩
  case round =>
    clear hk0 hT0
    obtain ⟨i, hii, rfl, Hno, hk50, hT50⟩ := hrel
    by_cases hi : i < sm
    · skip
      obtain ⟨ad, m, ea_, hAt, hV⟩ := NSl.at_ h.l hi
      dsimp only at ea_
      subst ea_
      obtain ⟨N, hN_⟩ : ∃ N_, nd Ns i = N_ := ⟨_, rfl⟩
      replace hV : NIs w P m N := by rw [← hN_]; exact hV
      have HN := Lib.hid hN_
      clear hN_
      obtain ⟨b, hb_⟩ : ∃ b, alongN Ns i = b := ⟨_, rfl⟩
      have hsc : w.cell? ⟨L, i, none⟩ = some (.bool b) := by have h_ := (hbk.cell (k := i) (by rw [alongs_len, Hlm.out]; exact hi)).1; rw [alongs_at (by rw [Hlm.out]; exact hi), hb_] at h_; exact h_
      have Hb := Lib.hid hb_
      clear hb_ hbk
      have j1 : (i : Int) < (sm : Int) := by omega
      have hks : m.k.s = N.k.s := by rw [hV.k]
      have Hks := Lib.hid hks
      clear hks
      have Hst := Lib.hid (show corrTo Ns H (i + 1) = corrAt Ns H i by rw [corrTo, Hno.out, Bool.false_or])
      have hs_ := cell_to10 hsc hT50
      obtain ⟨q1, h1⟩ : ∃ q, inH H i = q := ⟨_, rfl⟩
      have H1 := Lib.hid h1
      clear h1
      cases b
      · skip
        obtain ⟨q2, h2⟩ : ∃ q, (inH H i && decide ((nd Ns i).k.s = 1)) = q := ⟨_, rfl⟩
        have H2 := Lib.hid h2
        clear h2
        have hlk := (Array.getElem?_eq_some_iff.1 hk50).1
        obtain ⟨kc0, kc1, kc2, kc3, kc4, kc5, kc6, kc7, kc8, kc9⟩ := cellsK' hk50
        go_wp2_with fail
        clear hlk kc0 kc1 kc2 kc3 kc4 kc5 kc6 kc7 kc8 kc9
        refine (kobj_c (k := ⟨some ad, sm, lc, wa, wm, wc, kw, f, some ⟨L, 0, none⟩, sm, sc, d⟩) (h.to hT50) i hi q2 H2.out).mono ?_
        rintro e w51 ⟨rfl, hB51⟩
        have hT51 := below_then hT50 hB51
        have hk51 := block_below hB51 hk50
        clear hT50 hk50  hB51
        clear hs_
        have hs_ := cell_to10 hsc hT51
        cases q2
        · skip
          have hlk := (Array.getElem?_eq_some_iff.1 hk51).1
          obtain ⟨kc0, kc1, kc2, kc3, kc4, kc5, kc6, kc7, kc8, kc9⟩ := cellsK' hk51
          go_wp2_with fail
          clear hlk kc0 kc1 kc2 kc3 kc4 kc5 kc6 kc7 kc8 kc9
          go_round
          case measure => simp [intOf]; omega
          exact ⟨i + 1, by omega, by go_num, Lib.hid (by rw [Hst.out]; unfold corrAt; rw [if_neg (by rw [Hb.out]; decide), H2.out]), hk51, hT51⟩
        obtain rfl : true = q := by rw [← Hq.out]; exact (corrTo_mono (by omega : i + 1 ≤ sm) (by rw [Hst.out]; unfold corrAt; rw [if_neg (by rw [Hb.out]; decide), H2.out])).symm
        clear hs_
        have hlk := (Array.getElem?_eq_some_iff.1 hk51).1
        obtain ⟨kc0, kc1, kc2, kc3, kc4, kc5, kc6, kc7, kc8, kc9⟩ := cellsK' hk51
        go_wp2_with fail
        go_ret
        exact ⟨rfl, hT51⟩
      have hlk := (Array.getElem?_eq_some_iff.1 hk50).1
      obtain ⟨kc0, kc1, kc2, kc3, kc4, kc5, kc6, kc7, kc8, kc9⟩ := cellsK' hk50
      go_wp2_with fail
      clear hlk kc0 kc1 kc2 kc3 kc4 kc5 kc6 kc7 kc8 kc9
      refine (khit_c (k := ⟨some ad, sm, lc, wa, wm, wc, kw, f, some ⟨L, 0, none⟩, sm, sc, d⟩) (h.to hT50) i q1 H1.out).mono ?_
      rintro e w51 ⟨rfl, hB51⟩
      have hT51 := below_then hT50 hB51
      have hk51 := block_below hB51 hk50
      clear hT50 hk50  hB51
      clear hs_
      have hs_ := cell_to10 hsc hT51
      cases q1
      · skip
        have hlk := (Array.getElem?_eq_some_iff.1 hk51).1
        obtain ⟨kc0, kc1, kc2, kc3, kc4, kc5, kc6, kc7, kc8, kc9⟩ := cellsK' hk51
        go_wp2_with fail
        clear hlk kc0 kc1 kc2 kc3 kc4 kc5 kc6 kc7 kc8 kc9
        go_round
        case measure => simp [intOf]; omega
        exact ⟨i + 1, by omega, by go_num, Lib.hid (by rw [Hst.out]; unfold corrAt; rw [if_pos Hb.out, H1.out]), hk51, hT51⟩
      obtain rfl : true = q := by rw [← Hq.out]; exact (corrTo_mono (by omega : i + 1 ≤ sm) (by rw [Hst.out]; unfold corrAt; rw [if_pos Hb.out, H1.out])).symm
      clear hs_
      have hlk := (Array.getElem?_eq_some_iff.1 hk51).1
      obtain ⟨kc0, kc1, kc2, kc3, kc4, kc5, kc6, kc7, kc8, kc9⟩ := cellsK' hk51
      go_wp2_with fail
      go_ret
      exact ⟨rfl, hT51⟩
    obtain rfl : i = sm := by omega
    have j1 : ¬ (i : Int) < (i : Int) := by omega
    obtain rfl : false = q := by rw [← Hq.out, Hno.out]
    have hlk := (Array.getElem?_eq_some_iff.1 hk50).1
    obtain ⟨kc0, kc1, kc2, kc3, kc4, kc5, kc6, kc7, kc8, kc9⟩ := cellsK' hk50
    go_wp2_with fail
    clear hlk kc0 kc1 kc2 kc3 kc4 kc5 kc6 kc7 kc8 kc9
    go_ret
    exact ⟨rfl, hT50⟩
theorem ackTo_mono10 {Ns : List NC} {k n : Nat} (h : k ≤ n) (e : ackTo Ns k = true) : ackTo Ns n = true := by
  induction n with
  | zero => obtain rfl : k = 0 := by omega
            exact e
  | succ n ih =>
    by_cases hk : k = n + 1
    · subst hk; exact e
    · rw [ackTo, ih (by omega), Bool.true_or]
theorem kunack_c {w : World} {P : Nat → Prop} {k : KV} {Ns : List NC} {H : List Int} {F : FC} (h : KIs w P k Ns H F (alongs Ns)) (q : Bool) (hq : (!ackN Ns) = q) :
    Calls Tryz.prog 44 #[k.v] w fun e w' => e = .returned (.bool q) ∧ Below w.heap.size w w' := by
  have hi : True := trivial
  unfold ackN at hq
  obtain ⟨la, lm, lc, wa, wm, wc, kw, f, sa, sm, sc, d⟩ := k
  try dsimp only at hi
  have hlm : Ns.length = lm := h.l.len
  obtain rfl : sm = lm := by have h_ : (alongs Ns).length = sm := h.sl; rw [alongs_len] at h_; omega
  have Hlm := Lib.hid hlm
  clear hlm
  obtain ⟨L, hsa, hbk⟩ := h.s
  dsimp only at hsa
  subst hsa
  have hbig : sm ≤ maxLen := h.l.big
  unfold maxLen at hbig
  rw [Hlm.out] at hq
  have Hq := Lib.hid hq
  clear hq hi
  obtain ⟨w0, hw0⟩ : ∃ w0, (w.alloc (.cells #[.slice la sm lc, .slice wa wm wc, .int .i64 kw, .bool f.x, .int .i64 f.i, .bool f.r, .int .i64 f.n, .slice f.a f.m f.c, .slice (some ⟨L, 0, none⟩) sm sc, .bool d] 76)) = w0 := ⟨_, rfl⟩
  have hT0 : Below w.heap.size w w0 := by rw [← hw0]; exact below_alloc1 _ _
  have hk0 : w0.heap[w.heap.size]? = some (.cells #[.slice la sm lc, .slice wa wm wc, .int .i64 kw, .bool f.x, .int .i64 f.i, .bool f.r, .int .i64 f.n, .slice f.a f.m f.c, .slice (some ⟨L, 0, none⟩) sm sc, .bool d] 76) := by rw [← hw0]; exact World.alloc_heap_new _ _
  have hs0 : w0.heap.size = w.heap.size + 1 := by rw [← hw0]; simp
  have Hs0 := Lib.hid hs0
  clear hs0
  have hlk := (Array.getElem?_eq_some_iff.1 hk0).1
  obtain ⟨kc0, kc1, kc2, kc3, kc4, kc5, kc6, kc7, kc8, kc9⟩ := cellsK' hk0
  go_enter Tryz.func44, Tryz.ntmps44
  go_wp2_with fail
  clear hlk kc0 kc1 kc2 kc3 kc4 kc5 kc6 kc7 kc8 kc9
  clear hw0
  have hZ0 := Below.refl w0.heap.size w0
  go_loopw [7] (fun i wr => ∃ (i0 : Nat), i0 ≤ sm ∧ i = .int .i64 i0 ∧ Hid (ackTo Ns i0 = false) ∧ wr.heap[w.heap.size]? = some (.cells #[.slice la sm lc, .slice wa wm wc, .int .i64 kw, .bool f.x, .int .i64 f.i, .bool f.r, .int .i64 f.n, .slice f.a f.m f.c, .slice (some ⟨L, 0, none⟩) sm sc, .bool d] 76) ∧ Below w.heap.size w wr) (fun i _ => sm - (intOf i).toNat)
  case atStart => exact ⟨0, Nat.zero_le _, rfl, Lib.hid rfl, hk0, hT0⟩
  case round =>
    clear hk0 hT0
    obtain ⟨i, hii, rfl, Hno, hk50, hT50⟩ := hrel
    by_cases hi : i < sm
    · skip
      obtain ⟨ad, m, ea_, hAt, hV⟩ := NSl.at_ h.l hi
      dsimp only at ea_
      subst ea_
      obtain ⟨N, hN_⟩ : ∃ N_, nd Ns i = N_ := ⟨_, rfl⟩
      replace hV : NIs w P m N := by rw [← hN_]; exact hV
      have HN := Lib.hid hN_
      clear hN_
      obtain ⟨b, hb_⟩ : ∃ b, alongN Ns i = b := ⟨_, rfl⟩
      have hsc : w.cell? ⟨L, i, none⟩ = some (.bool b) := by have h_ := (hbk.cell (k := i) (by rw [alongs_len, Hlm.out]; exact hi)).1; rw [alongs_at (by rw [Hlm.out]; exact hi), hb_] at h_; exact h_
      have Hb := Lib.hid hb_
      clear hb_ hbk
      have j1 : (i : Int) < (sm : Int) := by omega
      have hks : m.k.s = N.k.s := by rw [hV.k]
      have Hks := Lib.hid hks
      clear hks
      have Hst := Lib.hid (show ackTo Ns (i + 1) = ackAt Ns i by rw [ackTo, Hno.out, Bool.false_or])
      have hs_ := cell_to10 hsc hT50
      cases b
      rotate_left
      · skip
        have hlk := (Array.getElem?_eq_some_iff.1 hk50).1
        obtain ⟨kc0, kc1, kc2, kc3, kc4, kc5, kc6, kc7, kc8, kc9⟩ := cellsK' hk50
        go_wp2_with fail
        clear hlk kc0 kc1 kc2 kc3 kc4 kc5 kc6 kc7 kc8 kc9
        go_round
        case measure => simp [intOf]; omega
        exact ⟨i + 1, by omega, by go_num, Lib.hid (by rw [Hst.out]; unfold ackAt; rw [Hb.out]; rfl), hk50, hT50⟩
      have hAt50 := nat_to hAt hT50
      by_cases hs : m.k.s = 3
      · skip
        have d1 : (m.k.s != 3) = false := by simp [hs]
        have d2 : (m.k.s == 3) = true := by simp [hs]
        have Hs := Lib.hid (show (nd Ns i).k.s = 3 by rw [HN.out, ← Hks.out]; exact hs)
        clear hs
        have ht_ := hAt50
        obtain ⟨t0, t1, t2, t3, t4, t5, t6⟩ := ht_
        have hlk := (Array.getElem?_eq_some_iff.1 hk50).1
        obtain ⟨kc0, kc1, kc2, kc3, kc4, kc5, kc6, kc7, kc8, kc9⟩ := cellsK' hk50
        go_wp2_with fail
        clear t0 t1 t2 t3 t4 t5 t6 hlk kc0 kc1 kc2 kc3 kc4 kc5 kc6 kc7 kc8 kc9
        go_round
        case measure => simp [intOf]; omega
        exact ⟨i + 1, by omega, by go_num, Lib.hid (by rw [Hst.out]; unfold ackAt; rw [Hs.out]; simp), hk50, hT50⟩
      have d1 : (m.k.s != 3) = true := by simp [bne, hs]
      have d2 : (m.k.s == 3) = false := by simpa using hs
      have Hs := Lib.hid (show (nd Ns i).k.s ≠ 3 by rw [HN.out, ← Hks.out]; exact hs)
      clear hs
      obtain rfl : false = q := by
        rw [← Hq.out, ackTo_mono10 (by omega : i + 1 ≤ sm) (by rw [Hst.out]; unfold ackAt; rw [Hb.out, decide_eq_true Hs.out]; rfl)]; rfl
      have ht_ := hAt50
      obtain ⟨t0, t1, t2, t3, t4, t5, t6⟩ := ht_
      have hlk := (Array.getElem?_eq_some_iff.1 hk50).1
      obtain ⟨kc0, kc1, kc2, kc3, kc4, kc5, kc6, kc7, kc8, kc9⟩ := cellsK' hk50
      go_wp2_with fail
      clear t0 t1 t2 t3 t4 t5 t6 hlk kc0 kc1 kc2 kc3 kc4 kc5 kc6 kc7 kc8 kc9
      go_ret
      exact ⟨rfl, hT50⟩
    obtain rfl : i = sm := by omega
    have j1 : ¬ (i : Int) < (i : Int) := by omega
    obtain rfl : true = q := by rw [← Hq.out, Hno.out]; rfl
    have hlk := (Array.getElem?_eq_some_iff.1 hk50).1
    obtain ⟨kc0, kc1, kc2, kc3, kc4, kc5, kc6, kc7, kc8, kc9⟩ := cellsK' hk50
    go_wp2_with fail
    clear hlk kc0 kc1 kc2 kc3 kc4 kc5 kc6 kc7 kc8 kc9
    go_ret
    exact ⟨rfl, hT50⟩
end Go.Proofs.YtcifjccojmfpaaaGreat

namespace Go.Proofs.YtcifjccojmfpaaaGreat
open Go.RowKit
set_option linter.unusedVariables false
set_option linter.unusedSimpArgs false
theorem equal_c (a b : List Int) (n m : Nat) (hn : a.length = n) (hm : b.length = m) (A A' : Option Addr) (c c' B B' : Nat) (w : World) (h : Row .i64 w B A a) (h' : Row .i64 w B' A' b) (h1 : n ≤ 1000) (h2 : m ≤ 1000) (q : Bool) (hq : decide (a = b) = q) :
    Calls Tryz.prog 67 #[.slice A n c, .slice A' m c'] w fun e w' => e = .returned (.bool q) ∧ Below w.heap.size w w' := by
  have Hn := Lib.hid hn
  have Hm := Lib.hid hm
  have Hq := Lib.hid hq
  clear hn hm hq
  by_cases hnm : n = m
  · subst hnm
    have d1 : ((n : Int) != (n : Int)) = false := by simp
    go_enter Tryz.func67, Tryz.ntmps67
    go_wp2_with fail
    go_loopw [13] (fun i wr => ∃ k : Nat, k ≤ n ∧ i = .int .i64 k ∧ Hid (a.take k = b.take k) ∧ Below w.heap.size w wr) (fun i _ => n - (intOf i).toNat)
    case atStart => exact ⟨0, Nat.zero_le _, rfl, Lib.hid (by simp), Below.refl _ _⟩
    case round =>
      obtain ⟨k, hk, rfl, Ht, hB⟩ := hrel
      by_cases hlt : k < n
      · have hlt1 : (k : Int) < (n : Int) := by omega
        have ha : ∃ ad x, A = some ad ∧ a[k]? = some x ∧ wr.cell? (ad.add k) = some (.int .i64 x) := by
          obtain ⟨ad, x, e, hx, hc⟩ := h.get_ (k := k) (by rw [Hn.out]; exact hlt)
          exact ⟨ad, x, e, hx, (hB.cell (World.block_lt_of_cell? _ _ hc)).trans hc⟩
        have hb : ∃ ad x, A' = some ad ∧ b[k]? = some x ∧ wr.cell? (ad.add k) = some (.int .i64 x) := by
          obtain ⟨ad, x, e, hx, hc⟩ := h'.get_ (k := k) (by rw [Hm.out]; exact hlt)
          exact ⟨ad, x, e, hx, (hB.cell (World.block_lt_of_cell? _ _ hc)).trans hc⟩
        obtain ⟨ad, x, rfl, hx, hc⟩ := ha
        obtain ⟨ad', y, rfl, hy, hc'⟩ := hb
        have Hx := Lib.hid hx
        have Hy := Lib.hid hy
        clear hx hy
        by_cases hxy : x = y
        · have d2 : (x != y) = false := by simp [hxy]
          have Hxy := Lib.hid hxy
          clear hxy
          go_wp2_with fail
          go_region
          go_wp2_with fail
          go_round
          case measure => simp [intOf]; omega
          exact ⟨k + 1, by omega, by go_num, Lib.hid (take_next Ht.out (by rw [Hx.out, Hy.out, Hxy.out])), below_then hB (below_drew1 _)⟩
        · have d2 : (x != y) = true := by simpa [bne] using hxy
          have Hxy := Lib.hid hxy
          clear hxy
          go_wp2_with fail
          go_region
          go_wp2_with fail
          go_ret
          exact ⟨ret_bool (by rw [← Hq.out]; symm; exact decide_eq_false (fun e => Hxy.out (by have := Hx.out; rw [e, Hy.out] at this; exact (Option.some.inj this).symm))), below_then hB (below_drew1 _)⟩
      · obtain rfl : k = n := by omega
        have hlt1 : ¬ (k : Int) < (k : Int) := by omega
        go_wp2_with fail
        go_ret
        have e : a = b := by have := Ht.out; rwa [List.take_of_length_le (Nat.le_of_eq Hn.out), List.take_of_length_le (Nat.le_of_eq Hm.out)] at this
        exact ⟨ret_bool (by rw [← Hq.out]; simp [e]), hB⟩
  · have d1 : ((n : Int) != (m : Int)) = true := by simp [bne]; omega
    have e : ¬ a = b := fun e => hnm (by rw [← Hn.out, ← Hm.out, e])
    have He := Lib.hid e
    clear hnm e
    go_enter Tryz.func67, Tryz.ntmps67
    go_wp2_with fail
    go_ret
    exact ⟨ret_bool (by rw [← Hq.out]; simp [He.out]), Below.refl _ _⟩
theorem cloneN_c {w : World} {P : Nat → Prop} {A : Option Addr} {n c : Nat} {Ns : List NC} (h : NSl w P A n c Ns) (hm : n ≤ 1000) (h1 : 1 ≤ n) (hP : ∀ b, w.heap.size ≤ b → P b) :
    Calls Tryz.prog 39 #[.slice A n c] w fun e w' => ∃ A' c', e = .returned (.slice A' n c') ∧ NSl w' P A' n c' Ns ∧ Below w.heap.size w w' := by
  have qT : ∀ (w : World) (a : Option Addr) (n c n' c' : Nat), (binOp .eql 22 (.slice a n c) (.slice none n' c')).run Tryz.prog w = .ok (.bool a.isNone) w := fun w a n c n' c' => Lib.run_eql_slice_nil w _ _ a n c n' c' Tryz.underlying22
  obtain ⟨ns, hrow, his⟩ := h.row
  obtain ⟨ad, x, rfl, _, _⟩ := h.at_ (show 0 < n by omega)
  have hlen : ns.length = n := his.1.trans h.len
  have Hh := Lib.hid his
  clear his
  go_enter Tryz.func39, Tryz.ntmps39
  go_wp2_with (at_builtin; refine wpList_append_g shN Tryz.infoN _ rfl _ _ rfl w.heap.size _ 0 0 [] rfl (gown_empty shN w _ _ rfl (Nat.le_refl _)) (some ad) n c w.heap.size ns rfl hlen (hrow.below (below_alloc1 _ _)) (by omega) (by simp) ?_; intro A3 c3 w2 hown2 hc2 hg2 he2 hB2)
  go_ret
  simp only [Nat.zero_add, List.nil_append] at hown2 hc2
  have hT : Below w.heap.size w w2 := ((Below.refl _ w).alloc (Nat.le_refl _) _).trans hB2
  exact ⟨A3, c3, rfl, NSl.own hown2 (Hh.out.imp fun _ _ y => y.to hT) hm hP, hT⟩
end Go.Proofs.YtcifjccojmfpaaaGreat

