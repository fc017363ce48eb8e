/-
  The table of the effects: the map that 'table' makes, and what is looked up in it; a step.
-/
import Derived.Test.YtbkldbckcnnafaaCnt1
namespace Go.Proofs.Ytbkldbckcnnafaa
open Go.RowKit
set_option linter.unusedVariables false
set_option linter.unusedSimpArgs false

/-- A map that lies in block B. -/
abbrev entry (k : Int) (v : Value) (n : Nat) : MapEntry := ⟨.int .i64 k, v, n⟩
abbrev fnv (f : Nat) : Value := .func (.func f) #[] #[]
abbrev clo (X : Nat) : Value := .func (.func 24) #[] #[.pointer (some ⟨X, 0, none⟩)]
def tab (X Y : Nat) : Array MapEntry := #[entry 1 (fnv 25) 0, entry 2 (fnv 26) 1, entry 3 (fnv 27) 2, entry 4 (clo X) 3, entry 5 (clo Y) 4]
/-- The table lies in block B. -/
structure HasT (w : World) (B X Y : Nat) : Prop where
  map : w.heap[B]? = some (.map (tab X Y) 5)
  one : w.heap[X]? = some (.cells #[.int .i64 1] 3)
  two : w.heap[Y]? = some (.cells #[.int .i64 8] 3)
theorem HasT.to {w w' : World} {B X Y : Nat} (h : HasT w B X Y) (b : Below w.heap.size w w') : HasT w' B X Y :=
  ⟨block_below b h.map, block_below b h.one, block_below b h.two⟩
theorem Try.underMap : Try.prog.underlying 36 = some (.map 3 40) := by kernel_rfl
theorem Try.underInt : Try.prog.underlying 3 = some (.int .i64) := by kernel_rfl

open Go.MapKept in
theorem run_put (w : World) (B : Nat) (es : Array MapEntry) (n : Nat) (h : w.heap[B]? = some (.map es n)) (k : Int) (v : Value) (hf : Instr.findNow (.int .i64) (.int .i64 k) es.toList 0 = some none) :
    ∃ w', (Instr.mapUpdate 36 (.map (some B)) (.int .i64 k) v).run Try.prog w = .ok () w' ∧ w'.heap[B]? = some (.map (es.push ⟨.int .i64 k, v, n⟩) (n + 1)) ∧ w.grownBy w' (some B) := by
  have hkey : IsKey (.int .i64) (.int .i64 k) := by simp [IsKey]
  refine ⟨ChangeMaps.setBlock w B (.map (es.push ⟨.int .i64 k, v, n⟩) (n + 1)), ?_, ChangeMaps.heap_setBlock_same h _, ⟨rfl, rfl, rfl, by simp [ChangeMaps.setBlock], fun i _ hi => ChangeMaps.heap_setBlock_other h _ (fun e => hi (by rw [e]))⟩⟩
  simp [Instr.mapUpdate, run_underlying Try.underMap, Go.MapKept.run_getObj_map h, run_checkKey Try.underInt hkey, run_findKey Try.underInt hf, run_setObj_map _ h, Result.andThen, ChangeMaps.setBlock]

/-- An entry is put into a map that the call itself makes. -/
theorem wpList_put (w : World) {ops : Array Oper} {rest : List Oper} {o : Oper} {a : Act} {Q : Exit → Act → World → Prop} (hg : o.guard = none) (m x v : Operand)
    (hop : o.op = Op.insert 36 m x v) (B : Nat) (es : Array MapEntry) (n : Nat) (k : Int) (val : Value)
    (hm : a.eval m = .map (some B)) (hx : a.eval x = .int .i64 k) (hv : a.eval v = val) (h : w.heap[B]? = some (.map es n)) (hf : Instr.findNow (.int .i64) (.int .i64 k) es.toList 0 = some none)
    (hK : ∀ w', w'.heap[B]? = some (.map (es.push ⟨.int .i64 k, val, n⟩) (n + 1)) → w.grownBy w' (some B) → wpList Try.prog ops Q rest (a.put o.dst undef) w') : wpList Try.prog ops Q (o :: rest) a w := by
  refine wpList_plain hg fun K' hK' => ?_
  obtain ⟨w', hrun, r1, r2⟩ := run_put w B es n h k val hf
  unfold Oper.wp
  simp [execOp, hop, hm, hx, hv, hrun, Result.andThen]
  exact hK' _ _ (hK w' r1 r2)

open Go.MapKept in
theorem run_look (w : World) (B : Nat) (es : Array MapEntry) (n : Nat) (h : w.heap[B]? = some (.map es n)) (k : Int) (j : Nat) (v : Value) (hf : Instr.findNow (.int .i64) (.int .i64 k) es.toList 0 = some (some (j, v))) :
    (Instr.lookup 36 (.map (some B)) (.int .i64 k) true).run Try.prog w = .ok (.tuple #[v, .bool true]) w := by
  have hkey : IsKey (.int .i64) (.int .i64 k) := by simp [IsKey]
  simp [Instr.lookup, run_underlying Try.underMap, Go.MapKept.run_getObj_map h, run_checkKey Try.underInt hkey, run_findKey Try.underInt hf, Result.andThen]
theorem Try.zeroE (w : World) : (zeroValue 40).run Try.prog w = .ok .nilFunc w := by kernel_rfl
open Go.MapKept in
theorem run_none (w : World) (B : Nat) (es : Array MapEntry) (n : Nat) (h : w.heap[B]? = some (.map es n)) (k : Int) (hf : Instr.findNow (.int .i64) (.int .i64 k) es.toList 0 = some none) :
    (Instr.lookup 36 (.map (some B)) (.int .i64 k) true).run Try.prog w = .ok (.tuple #[.nilFunc, .bool false]) w := by
  have hkey : IsKey (.int .i64) (.int .i64 k) := by simp [IsKey]
  simp [Instr.lookup, run_underlying Try.underMap, Go.MapKept.run_getObj_map h, run_checkKey Try.underInt hkey, run_findKey Try.underInt hf, Try.zeroE, Result.andThen]
theorem look1 {w : World} {B X Y : Nat} (h : HasT w B X Y) : (Instr.lookup 36 (.map (some B)) (.int .i64 1) true).run Try.prog w = .ok (.tuple #[fnv 25, .bool true]) w := run_look w B _ _ h.map 1 0 _ rfl
theorem look2 {w : World} {B X Y : Nat} (h : HasT w B X Y) : (Instr.lookup 36 (.map (some B)) (.int .i64 2) true).run Try.prog w = .ok (.tuple #[fnv 26, .bool true]) w := run_look w B _ _ h.map 2 1 _ rfl
theorem look3 {w : World} {B X Y : Nat} (h : HasT w B X Y) : (Instr.lookup 36 (.map (some B)) (.int .i64 3) true).run Try.prog w = .ok (.tuple #[fnv 27, .bool true]) w := run_look w B _ _ h.map 3 2 _ rfl
theorem look4 {w : World} {B X Y : Nat} (h : HasT w B X Y) : (Instr.lookup 36 (.map (some B)) (.int .i64 4) true).run Try.prog w = .ok (.tuple #[clo X, .bool true]) w := run_look w B _ _ h.map 4 3 _ rfl
theorem look5 {w : World} {B X Y : Nat} (h : HasT w B X Y) : (Instr.lookup 36 (.map (some B)) (.int .i64 5) true).run Try.prog w = .ok (.tuple #[clo Y, .bool true]) w := run_look w B _ _ h.map 5 4 _ rfl
theorem look0 {w : World} {B X Y : Nat} (h : HasT w B X Y) {k : Int} (hk : k ≠ 1 ∧ k ≠ 2 ∧ k ≠ 3 ∧ k ≠ 4 ∧ k ≠ 5) : (Instr.lookup 36 (.map (some B)) (.int .i64 k) true).run Try.prog w = .ok (.tuple #[.nilFunc, .bool false]) w :=
  run_none w B _ _ h.map k (by obtain ⟨h1, h2, h3, h4, h5⟩ := hk; simp only [tab, Instr.findNow, Instr.sameNow, if_true, show (k == 1) = false from by simpa using h1, show (k == 2) = false from by simpa using h2, show (k == 3) = false from by simpa using h3, show (k == 4) = false from by simpa using h4, show (k == 5) = false from by simpa using h5])

theorem other_grown {w w' : World} {F G : Nat} {o : Obj} (g : w.grownBy w' (some F)) (h : w.heap[G]? = some o) (hne : G ≠ F) : w'.heap[G]? = some o :=
  (g.block G (Array.getElem?_eq_some_iff.1 h).1 (by simpa using hne)).trans h

set_option maxRecDepth 100000 in
set_option maxHeartbeats 2000000 in
theorem table_any (w : World) :
    Calls Try.prog 21 #[] w fun e w' => ∃ B X Y, e = .returned (.map (some B)) ∧ HasT w' B X Y ∧ Below w.heap.size w w' := by
  have hmm := @run_makeMap Try.prog
  go_enter Try.func21, Try.ntmps21
  have h0 : (w.alloc (.map #[] 0)).heap[w.heap.size]? = some (.map #[] 0) := World.alloc_heap_new _ _
  go_wp2_with (first
    | (have hq_ := b2; clear hq_; refine wpList_put _ rfl _ _ _ rfl w.heap.size _ 4 5 (clo Y) rfl rfl rfl m5_ rfl ?_; intro w7 m5 g5)
    | (have hq_ := m4; clear hq_; go_at_call 23; refine (made_any 8 _).mono ?_; rintro e w6 ⟨Y, rfl, hY, bY, b2⟩; have m5_ := block_below b2 m4)
    | (have hq_ := b1; clear hq_; refine wpList_put _ rfl _ _ _ rfl w.heap.size _ 3 4 (clo X) rfl rfl rfl m4_ rfl ?_; intro w5 m4 g4)
    | (have hq_ := m3; clear hq_; go_at_call 23; refine (made_any 1 _).mono ?_; rintro e w4 ⟨X, rfl, hX, bX, b1⟩; have m4_ := block_below b1 m3)
    | (have hq_ := m2; clear hq_; refine wpList_put _ rfl _ _ _ rfl w.heap.size _ 2 3 (fnv 27) rfl rfl rfl m2 rfl ?_; intro w3 m3 g3)
    | (have hq_ := m1; clear hq_; refine wpList_put _ rfl _ _ _ rfl w.heap.size _ 1 2 (fnv 26) rfl rfl rfl m1 rfl ?_; intro w2 m2 g2)
    | (refine wpList_put _ rfl _ _ _ rfl w.heap.size _ 0 1 (fnv 25) rfl rfl rfl h0 rfl ?_; intro w1 m1 g1)
    | fail)
  go_ret
  have i1 : Below w.heap.size w w1 := below_grownF (below_alloc1 _ _) g1 (Nat.le_refl _)
  have i3 : Below w.heap.size w w3 := below_grownF (below_grownF i1 g2 (Nat.le_refl _)) g3 (Nat.le_refl _)
  have i4 : Below w.heap.size w w4 := below_then i3 b1
  have i5 : Below w.heap.size w w5 := below_grownF i4 g4 (Nat.le_refl _)
  have i6 : Below w.heap.size w w6 := below_then i5 b2
  have l3 : w.heap.size < w3.heap.size := (Array.getElem?_eq_some_iff.1 m3).1
  have l5 : w.heap.size < w5.heap.size := (Array.getElem?_eq_some_iff.1 m4).1
  refine ⟨w.heap.size, X, Y, rfl, ⟨?_, ?_, ?_⟩, below_grownF i6 g5 (Nat.le_refl _)⟩
  · exact m5
  · exact other_grownF g5 (block_below b2 (other_grownF g4 bX (by omega))) (by omega)
  · exact other_grownF g5 bY (by omega)

end Go.Proofs.Ytbkldbckcnnafaa
