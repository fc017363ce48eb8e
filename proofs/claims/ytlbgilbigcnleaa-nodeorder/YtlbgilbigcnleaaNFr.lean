/-
  Rdr · Fr · Named · Whole · Frs · Frt · Concat · Step · Rank · FrHead · Head4 · Law4 · FrMath · Ref · Fr5: what this seat needs of them.
-/
import Derived.Test.YtlbgilbigcnleaaNBi
import Derived.OwnWalkIn
import Derived.Maps.Range
import Derived.Deep.AppendLies
import Derived.Lib.AppendZeros
import Derived.Deep.RegionHeld3
namespace Go.Proofs.Ytlbgilbigcnleaa
open Go.RowKit
set_option linter.unusedVariables false
set_option linter.unusedSimpArgs false

section

variable {w w' : World} {R : Nat} {A : Option Addr} {n c : Nat} {l : List Int} {k : Nat}

theorem grown_set (w : World) (R : Nat) (v : Value) : w.grownBy (w.setCell ⟨R, 1, none⟩ v) (some R) :=
  ⟨rfl, rfl, rfl, by simp [World.setCell], fun k _ hk => Below.heap_setCell _ _ _ k (fun e => hk (by simp at e; rw [e]))⟩

theorem grown_drewN {row : Option Nat} (j : Nat) (h : w.grownBy w' row) : w.grownBy (w'.drewN j) row := ⟨h.os, h.tape, h.output, h.size, h.block⟩

theorem grown_drewN' {row : Option Nat} (j : Nat) (h : (w.drewN j).grownBy w' row) : w.grownBy w' row := ⟨h.os, h.tape, h.output, h.size, h.block⟩

theorem grown_of_below (row : Option Nat) (b : Below w.heap.size w w') : w.grownBy w' row := ⟨b.os, b.tape, b.output, b.size, fun k hk _ => b.block k hk⟩

theorem below_of_grown {B : Nat} (g : w.grownBy w' (some R)) (hB : B ≤ R) (hs : B ≤ w.heap.size) : Below B w w' := ⟨g.os, g.tape, g.output, g.size, fun k hk => g.block k (by omega) (by simp; omega)⟩

end

/-- The panic with which the reader gives up. -/
def quit (e : Int) : Ending := .panicked [{ v := .iface 34 (.int .i64 e), recovered := false }]

theorem drop_snoc {l : List Int} {k j : Nat} {x : Int} (hx : l[k + j]? = some x) : (l.drop k).take (j + 1) = (l.drop k).take j ++ [x] := by
  rw [List.take_add_one, List.getElem?_drop, hx]; rfl

/-- A frame. -/
structure Fr where
  ext : Bool
  id : Int
  rem : Bool
  len : Int
  data : List Int
deriving DecidableEq

def Fr.none_ : Fr := ⟨false, 0, false, 0, []⟩

def flag (b : Bool) : Int := if b then 1 else 0

def numAt (l : List Int) (a m : Nat) : Int := ((numOf ((l.drop a).take m) : Nat) : Int)

/-- What stands from the identifier on. -/
def namedL (l : List Int) : Except Int (Fr × Nat) :=
  if l.length < 14 then .error 40
  else if l.getD 13 0 = 0 then .ok (⟨false, numAt l 1 11, decide (l.getD 12 0 = 1), 0, []⟩, 14)
  else if l.getD 12 0 ≠ 1 then .error 42
  else if l.length < 34 then .error 40
  else if l.getD 33 0 ≠ 0 then .error 42
  else .ok (⟨true, numAt l 1 11 * 262144 + numAt l 14 18, decide (l.getD 32 0 = 1), 0, []⟩, 34)

/-- What stands behind it. -/
def tailL (l : List Int) (f : Fr) (k : Nat) : Except Int (Fr × Nat) :=
  if l.length < k + 1 then .error 40
  else if l.getD k 0 ≠ 0 then .error 42
  else if l.length < k + 5 then .error 40
  else if 8 < numAt l (k + 1) 4 then .error 41
  else if f.rem then .ok ({ f with len := numAt l (k + 1) 4 }, k + 5)
  else if l.length < k + 5 + 8 * (numAt l (k + 1) 4).toNat then .error 40
  else .ok ({ f with len := numAt l (k + 1) 4, data := joinL ((l.drop (k + 5)).take (8 * (numAt l (k + 1) 4).toNat)) }, k + 5 + 8 * (numAt l (k + 1) 4).toNat)

/-- The frame with whose head a row begins, and how many bits it has. -/
def readL (l : List Int) : Except Int (Fr × Nat) :=
  if l.length < 1 then .error 40
  else if l.getD 0 0 ≠ 0 then .error 42
  else match namedL l with
    | .error e => .error e
    | .ok (f, k) => tailL l f k

theorem getD_some {l : List Int} {k : Nat} (h : k < l.length) : l[k]? = some (l.getD k 0) := by
  rw [List.getElem?_eq_getElem h]; simp [List.getD, List.getElem?_eq_getElem h]

theorem getD_01 {l : List Int} (hr : rightB l = true) (k : Nat) : l.getD k 0 = 0 ∨ l.getD k 0 = 1 := by
  by_cases h : k < l.length
  · exact rightB_at hr (getD_some h)
  · left; simp [List.getD, List.getElem?_eq_none (Nat.le_of_not_lt h)]

theorem numAt_lt {l : List Int} (hr : rightB l = true) (a m : Nat) (h : a + m ≤ l.length) : 0 ≤ numAt l a m ∧ numAt l a m < ((2 ^ m : Nat) : Int) := by
  unfold numAt
  have := numOf_lt ((l.drop a).take m) (rightB_take (rightB_drop hr a) m)
  have e : ((l.drop a).take m).length = m := by simp; omega
  rw [e] at this
  exact ⟨by omega, by exact_mod_cast this⟩

/-- The five cells of a frame that lies in a block. -/
theorem cells5 {w : World} {F : Nat} {a b c d e : Value} {t : TypeId} (h : w.heap[F]? = some (.cells #[a, b, c, d, e] t)) :
    (w.cell? ⟨F, 0, none⟩ = some a ∧ w.cell? ⟨F, 1, none⟩ = some b ∧ w.cell? ⟨F, 2, none⟩ = some c ∧ w.cell? ⟨F, 3, none⟩ = some d ∧ w.cell? ⟨F, 4, none⟩ = some e) ∧
    w.frozen? ⟨F, 0, none⟩ = false ∧ w.frozen? ⟨F, 1, none⟩ = false ∧ w.frozen? ⟨F, 2, none⟩ = false ∧ w.frozen? ⟨F, 3, none⟩ = false ∧ w.frozen? ⟨F, 4, none⟩ = false := by
  simp [World.cell?, World.frozen?, h]

/-- A frame stored over one. -/
def set5 (w : World) (F : Nat) (a b c d e : Value) : World := ((((w.setCell ⟨F, 0, none⟩ a).setCell ⟨F, 1, none⟩ b).setCell ⟨F, 2, none⟩ c).setCell ⟨F, 3, none⟩ d).setCell ⟨F, 4, none⟩ e

theorem set5_obj {w : World} {F : Nat} {a b c d e : Value} {t : TypeId} (h : w.heap[F]? = some (.cells #[a, b, c, d, e] t)) (a' b' c' d' e' : Value) :
    (set5 w F a' b' c' d' e').heap[F]? = some (.cells #[a', b', c', d', e'] t) := by
  simp [set5, World.setCell, Array.getElem?_modify, h]

theorem grown_setAt (w : World) (F i : Nat) (v : Value) : w.grownBy (w.setCell ⟨F, i, none⟩ v) (some F) :=
  ⟨rfl, rfl, rfl, by simp [World.setCell], fun k _ hk => Below.heap_setCell _ _ _ k (fun e => hk (by simp at e; rw [e]))⟩

theorem set5_grown (w : World) (F : Nat) (a b c d e : Value) : w.grownBy (set5 w F a b c d e) (some F) :=
  ((((grown_setAt w F 0 a).trans (grown_setAt _ F 1 b)).trans (grown_setAt _ F 2 c)).trans (grown_setAt _ F 3 d)).trans (grown_setAt _ F 4 e)

theorem load_fr {w : World} {F : Nat} {x r : Bool} {i n : Int} {D : Option Addr} {m c : Nat} {t : TypeId} (h : w.heap[F]? = some (.cells #[.bool x, .int .i64 i, .bool r, .int .i64 n, .slice D m c] t)) :
    (loadVar 30 ⟨F, 0, none⟩).run Try.prog w = .ok (.agg #[.bool x, .int .i64 i, .bool r, .int .i64 n, .slice D m c]) w := by
  obtain ⟨⟨c0, c1, c2, c3, c4⟩, _⟩ := cells5 h
  simp [go_sem, c0, c1, c2, c3, c4]

theorem results_fr {fn : Func} {p : Tmp} (hf : fn.results = #[.cell p 30]) (tmps : Array Value) {w : World} {F : Nat} {x r : Bool} {i n : Int} {D : Option Addr} {m c : Nat} {t : TypeId} (ht : tmps.getD p undef = .pointer (some ⟨F, 0, none⟩)) (h : w.heap[F]? = some (.cells #[.bool x, .int .i64 i, .bool r, .int .i64 n, .slice D m c] t)) :
    (results fn tmps).run Try.prog w = .ok (.agg #[.bool x, .int .i64 i, .bool r, .int .i64 n, .slice D m c]) w := by
  have hl := load_fr h
  have ht' : tmps[p]?.getD undef = .pointer (some ⟨F, 0, none⟩) := by simpa using ht
  simp only [results, hf]
  simp [ht', asAddr, hl]

/-- The two parts of a long identifier. -/
theorem or_parts (U V : Nat) (hU : U < 2048) (hV : V < 262144) : bits .or .i64 ((U : Int) * 262144) V = (U : Int) * 262144 + V := by
  have e : ((U : Int) * 262144) = ((262144 * U : Nat) : Int) := by omega
  rw [e]
  show IntKind.i64.wrap ((BitVec.ofInt 64 ((262144 * U : Nat) : Int) ||| BitVec.ofInt 64 (V : Int)).toNat : Int) = _
  rw [BitVec.toNat_or, ofInt64 _ (by omega), ofInt64 _ (by omega), IntKind.wrap_i64]
  have h2 : 262144 * U ||| V = 262144 * U + V := by
    have := Nat.two_pow_add_eq_or_of_lt (i := 18) (b := V) (by simpa using hV) U
    simpa using this.symm
  rw [h2]
  omega

theorem set_3 {w : World} {F : Nat} {a b c d e : Value} {t : TypeId} (h : w.heap[F]? = some (.cells #[a, b, c, d, e] t)) (v : Value) : (w.setCell ⟨F, 3, none⟩ v).heap[F]? = some (.cells #[a, b, c, v, e] t) := by
  simp [World.setCell, Array.getElem?_modify, h]

theorem set_4 {w : World} {F : Nat} {a b c d e : Value} {t : TypeId} (h : w.heap[F]? = some (.cells #[a, b, c, d, e] t)) (v : Value) : (w.setCell ⟨F, 4, none⟩ v).heap[F]? = some (.cells #[a, b, c, d, v] t) := by
  simp [World.setCell, Array.getElem?_modify, h]

theorem obj_to {w w' : World} {R F : Nat} {o : Obj} (h : w.heap[F]? = some o) (g : w.grownBy w' (some R)) (hne : F ≠ R) : w'.heap[F]? = some o :=
  (g.block F (Array.getElem?_eq_some_iff.1 h).1 (by simp; omega)).trans h

theorem obj_below {w w' : World} {F : Nat} {o : Obj} (h : w.heap[F]? = some o) (b : Below w.heap.size w w') : w'.heap[F]? = some o :=
  (b.block F (Array.getElem?_eq_some_iff.1 h).1).trans h

theorem obj_alloc {w : World} {F : Nat} {o : Obj} (h : w.heap[F]? = some o) (o' : Obj) : (w.alloc o').heap[F]? = some o := obj_below h ((Below.refl _ _).alloc (Nat.le_refl _) o')

theorem namedL_ok {l : List Int} {f : Fr} {k : Nat} (h : namedL l = .ok (f, k)) : k ≤ l.length ∧ (k = 14 ∨ k = 34) ∧ f.data = [] ∧ f.len = 0 := by
  unfold namedL at h
  repeat' split at h
  all_goals first
    | (cases h; exact ⟨by omega, by omega, rfl, rfl⟩)
    | cases h

theorem dec (p : Prop) [Decidable p] : (decide p = true ∧ p) ∨ (decide p = false ∧ ¬ p) := by
  by_cases h : p <;> simp [h]

/-- A right frame? -/
def rightV (x : Bool) (i : Int) (r : Bool) (n : Int) (m : Nat) : Bool := decide (0 ≤ i ∧ i < (if x then 536870912 else 2048) ∧ 0 ≤ n ∧ n ≤ 8 ∧ (m : Int) = if r then 0 else n)

/-- Alike frames? -/
def sameV (x : Bool) (i : Int) (r : Bool) (n : Int) (a : List Int) (x' : Bool) (i' : Int) (r' : Bool) (n' : Int) (b : List Int) : Bool := decide (x = x' ∧ i = i' ∧ r = r' ∧ n = n' ∧ a = b)

abbrev frV (x : Bool) (i : Int) (r : Bool) (n : Int) (A : Option Addr) (m c : Nat) : Value := .agg #[.bool x, .int .i64 i, .bool r, .int .i64 n, .slice A m c]

theorem below_alloc_drewN {w : World} (o : Obj) (k : Nat) : Below w.heap.size w ((w.alloc o).drewN k) := below_drewN' ((Below.refl _ w).alloc (Nat.le_refl _) o) k

set_option maxRecDepth 100000 in
set_option maxHeartbeats 2000000 in
theorem frRight_at (x : Bool) (i : Int) (r : Bool) (n : Int) (A : Option Addr) (m c : Nat) (w : World) :
    Calls Try.prog 43 #[.agg #[.bool x, .int .i64 i, .bool r, .int .i64 n, .slice A m c]] w fun e w' => e = .returned (.bool (rightV x i r n m)) ∧ Below w.heap.size w w' := by
  have Hfin := Lib.hid (fun k => below_alloc_drewN (w := w) (.cells #[.bool x, .int .i64 i, .bool r, .int .i64 n, .slice A m c] 30) k)
  rcases dec (0 ≤ i) with ⟨d1, h1⟩ | ⟨d1, h1⟩
  · cases x
    · rcases dec (i < 2048) with ⟨d2, h2⟩ | ⟨d2, h2⟩
      · rcases dec (0 ≤ n) with ⟨d3, h3⟩ | ⟨d3, h3⟩
        · rcases dec (n ≤ 8) with ⟨d4, h4⟩ | ⟨d4, h4⟩
          all_goals
            cases r
            all_goals
              go_enter Try.func43, Try.ntmps43
              go_wp2_with fail
              go_quiet (fail)
              go_wp2_with fail
              go_ret
              exact ⟨ret_bool (by rw [Bool.eq_iff_iff]; simp [rightV]; omega), Hfin.out _⟩
        · cases r
          all_goals
            go_enter Try.func43, Try.ntmps43
            go_wp2_with fail
            go_quiet (fail)
            go_wp2_with fail
            go_ret
            exact ⟨ret_bool (by rw [Bool.eq_iff_iff]; simp [rightV]; omega), Hfin.out _⟩
      · cases r
        all_goals
          go_enter Try.func43, Try.ntmps43
          go_wp2_with fail
          go_quiet (fail)
          go_wp2_with fail
          go_ret
          exact ⟨ret_bool (by rw [Bool.eq_iff_iff]; simp [rightV]; omega), Hfin.out _⟩
    · rcases dec (i < 536870912) with ⟨d2, h2⟩ | ⟨d2, h2⟩
      · rcases dec (0 ≤ n) with ⟨d3, h3⟩ | ⟨d3, h3⟩
        · rcases dec (n ≤ 8) with ⟨d4, h4⟩ | ⟨d4, h4⟩
          all_goals
            cases r
            all_goals
              go_enter Try.func43, Try.ntmps43
              go_wp2_with fail
              go_quiet (fail)
              go_wp2_with fail
              go_ret
              exact ⟨ret_bool (by rw [Bool.eq_iff_iff]; simp [rightV]; omega), Hfin.out _⟩
        · cases r
          all_goals
            go_enter Try.func43, Try.ntmps43
            go_wp2_with fail
            go_quiet (fail)
            go_wp2_with fail
            go_ret
            exact ⟨ret_bool (by rw [Bool.eq_iff_iff]; simp [rightV]; omega), Hfin.out _⟩
      · cases r
        all_goals
          go_enter Try.func43, Try.ntmps43
          go_wp2_with fail
          go_quiet (fail)
          go_wp2_with fail
          go_ret
          exact ⟨ret_bool (by rw [Bool.eq_iff_iff]; simp [rightV]; omega), Hfin.out _⟩
  · cases x
    all_goals
      cases r
      all_goals
        go_enter Try.func43, Try.ntmps43
        go_wp2_with fail
        go_quiet (fail)
        go_wp2_with fail
        go_ret
        exact ⟨ret_bool (by rw [Bool.eq_iff_iff]; simp [rightV]; omega), Hfin.out _⟩

set_option maxRecDepth 100000 in
set_option maxHeartbeats 2000000 in
theorem refFrRight_at (x : Bool) (i : Int) (r : Bool) (n : Int) (A : Option Addr) (m c : Nat) (w : World) :
    Calls Try.prog 29 #[.agg #[.bool x, .int .i64 i, .bool r, .int .i64 n, .slice A m c]] w fun e w' => e = .returned (.bool (rightV x i r n m)) ∧ Below w.heap.size w w' := by
  have Hfin := Lib.hid (show Below w.heap.size w (w.alloc (.cells #[.bool x, .int .i64 i, .bool r, .int .i64 n, .slice A m c] 30)) from (Below.refl _ w).alloc (Nat.le_refl _) _)
  rcases dec (i < 0) with ⟨d1, h1⟩ | ⟨d1, h1⟩
  · cases x
    all_goals
      go_enter Try.func29, Try.ntmps29
      go_wp2_with fail
      go_ret
      exact ⟨ret_bool (by rw [Bool.eq_iff_iff]; simp [rightV]; omega), Hfin.out⟩
  · cases x
    · rcases dec (2048 ≤ i) with ⟨d2, h2⟩ | ⟨d2, h2⟩
      · go_enter Try.func29, Try.ntmps29
        go_wp2_with fail
        go_ret
        exact ⟨ret_bool (by rw [Bool.eq_iff_iff]; simp [rightV]; omega), Hfin.out⟩
      rcases dec (n < 0) with ⟨d3, h3⟩ | ⟨d3, h3⟩
      · go_enter Try.func29, Try.ntmps29
        go_wp2_with fail
        go_ret
        exact ⟨ret_bool (by rw [Bool.eq_iff_iff]; simp [rightV]; omega), Hfin.out⟩
      rcases dec (8 < n) with ⟨d4, h4⟩ | ⟨d4, h4⟩
      all_goals
        cases r
        all_goals
          go_enter Try.func29, Try.ntmps29
          go_wp2_with fail
          go_ret
          exact ⟨ret_bool (by rw [Bool.eq_iff_iff]; simp [rightV]; omega), Hfin.out⟩
    · rcases dec (536870912 ≤ i) with ⟨d2, h2⟩ | ⟨d2, h2⟩
      · go_enter Try.func29, Try.ntmps29
        go_wp2_with fail
        go_ret
        exact ⟨ret_bool (by rw [Bool.eq_iff_iff]; simp [rightV]; omega), Hfin.out⟩
      rcases dec (n < 0) with ⟨d3, h3⟩ | ⟨d3, h3⟩
      · go_enter Try.func29, Try.ntmps29
        go_wp2_with fail
        go_ret
        exact ⟨ret_bool (by rw [Bool.eq_iff_iff]; simp [rightV]; omega), Hfin.out⟩
      rcases dec (8 < n) with ⟨d4, h4⟩ | ⟨d4, h4⟩
      all_goals
        cases r
        all_goals
          go_enter Try.func29, Try.ntmps29
          go_wp2_with fail
          go_ret
          exact ⟨ret_bool (by rw [Bool.eq_iff_iff]; simp [rightV]; omega), Hfin.out⟩

theorem great_at (x : Bool) (i : Int) (r : Bool) (n : Int) (A : Option Addr) (m c : Nat) (w : World) :
    Calls Try.prog 12 #[.agg #[.bool x, .int .i64 i, .bool r, .int .i64 n, .slice A m c]] w fun e w' => e = .returned (.bool (decide (100 < m))) ∧ Below w.heap.size w w' := by
  have Hfin := Lib.hid (show Below w.heap.size w (w.alloc (.cells #[.bool x, .int .i64 i, .bool r, .int .i64 n, .slice A m c] 30)) from (Below.refl _ w).alloc (Nat.le_refl _) _)
  go_enter Try.func12, Try.ntmps12
  go_wp2_with fail
  go_ret
  exact ⟨ret_bool (by rw [Bool.eq_iff_iff]; simp; omega), Hfin.out⟩

theorem bitOf_at (b : Bool) (w : World) : Calls Try.prog 81 #[.bool b] w fun e w' => e = .returned (.int .i64 (flag b)) ∧ w = w' := by
  cases b
  all_goals
    go_enter Try.func81, Try.ntmps81
    go_wp2_with fail
    go_ret
    exact ⟨rfl, rfl⟩

theorem remote_at (x : Bool) (i : Int) (r : Bool) (n : Int) (A : Option Addr) (m c : Nat) (w : World) :
    Calls Try.prog 58 #[.agg #[.bool x, .int .i64 i, .bool r, .int .i64 n, .slice A m c]] w fun e w' => e = .returned (.int .i64 (flag r)) ∧ Below w.heap.size w w' := by
  have Hfin := Lib.hid (show Below w.heap.size w (w.alloc (.cells #[.bool x, .int .i64 i, .bool r, .int .i64 n, .slice A m c] 30)) from (Below.refl _ w).alloc (Nat.le_refl _) _)
  cases r
  all_goals
    go_enter Try.func58, Try.ntmps58
    go_wp2_with fail
    go_ret
    exact ⟨rfl, Hfin.out⟩

set_option maxRecDepth 100000 in
set_option maxHeartbeats 2000000 in
theorem refFrSame_at (x : Bool) (i : Int) (r : Bool) (n : Int) (a : List Int) (m : Nat) (hm : a.length = m) (A : Option Addr) (c : Nat) (x' : Bool) (i' : Int) (r' : Bool) (n' : Int) (b : List Int) (m' : Nat) (hm' : b.length = m') (A' : Option Addr) (c' : Nat) (w : World)
    (h : Row .u8 w w.heap.size A a) (h' : Row .u8 w w.heap.size A' b) (ha : byteB a) (hb : byteB b) (q : Bool) (hq : sameV x i r n a x' i' r' n' b = q) :
    Calls Try.prog 24 #[.agg #[.bool x, .int .i64 i, .bool r, .int .i64 n, .slice A m c], .agg #[.bool x', .int .i64 i', .bool r', .int .i64 n', .slice A' m' c']] w fun e w' => e = .returned (.bool q) ∧ Below w.heap.size w w' := by
  have Hfin := Lib.hid (show Below w.heap.size w ((w.alloc (.cells #[.bool x, .int .i64 i, .bool r, .int .i64 n, .slice A m c] 30)).alloc (.cells #[.bool x', .int .i64 i', .bool r', .int .i64 n', .slice A' m' c'] 30)) from ((Below.refl _ w).alloc (Nat.le_refl _) _).alloc (by simp) _)
  have h1 := (h.alloc (Nat.le_refl _) (.cells #[.bool x, .int .i64 i, .bool r, .int .i64 n, .slice A m c] 30)).alloc (by simp) (.cells #[.bool x', .int .i64 i', .bool r', .int .i64 n', .slice A' m' c'] 30)
  have h2 := (h'.alloc (Nat.le_refl _) (.cells #[.bool x, .int .i64 i, .bool r, .int .i64 n, .slice A m c] 30)).alloc (by simp) (.cells #[.bool x', .int .i64 i', .bool r', .int .i64 n', .slice A' m' c'] 30)
  have HM := Lib.hid hm
  have HM' := Lib.hid hm'
  have HA := Lib.hid ha
  have HB := Lib.hid hb
  have HQ := Lib.hid hq
  clear hm hm' ha hb hq h h'
  by_cases e1 : x = x'
  · subst e1
    by_cases e2 : i = i'
    · subst e2
      by_cases e3 : r = r'
      · subst e3
        by_cases e4 : n = n'
        · subst e4
          go_enter Try.func24, Try.ntmps24
          go_wp2_with fail
          refine (sameBytes_at a b m m' HM.out HM'.out A A' c c' _ _ _ h1 h2 HA.out HB.out).mono ?_
          rintro e w' ⟨rfl, rfl⟩
          go_wp2_with fail
          go_ret
          exact ⟨ret_bool (by rw [← HQ.out, Bool.eq_iff_iff]; simp [sameB, sameV]), Hfin.out⟩
        · have d4 : (n == n') = false := by simp [e4]
          go_enter Try.func24, Try.ntmps24
          go_wp2_with fail
          go_ret
          exact ⟨ret_bool (by rw [← HQ.out, Bool.eq_iff_iff]; simp [sameV, e4]), Hfin.out⟩
      · have d3 : (r == r') = false := by simp [e3]
        go_enter Try.func24, Try.ntmps24
        go_wp2_with fail
        go_ret
        exact ⟨ret_bool (by rw [← HQ.out, Bool.eq_iff_iff]; simp [sameV, e3]), Hfin.out⟩
    · have d2 : (i == i') = false := by simp [e2]
      go_enter Try.func24, Try.ntmps24
      go_wp2_with fail
      go_ret
      exact ⟨ret_bool (by rw [← HQ.out, Bool.eq_iff_iff]; simp [sameV, e2]), Hfin.out⟩
  · have d1 : (x == x') = false := by simp [e1]
    go_enter Try.func24, Try.ntmps24
    go_wp2_with fail
    go_ret
    exact ⟨ret_bool (by rw [← HQ.out, Bool.eq_iff_iff]; simp [sameV, e1]), Hfin.out⟩

set_option maxRecDepth 100000 in
set_option maxHeartbeats 1000000 in
theorem grow_nil (n : Nat) (hn : n ≤ 1000000) (w : World) :
    Calls Try.prog 86 #[.slice none 0 0, .int .i64 n] w fun e w' => ∃ A c, e = .returned (.slice A 0 c) ∧ w'.ownsRow w.heap.size 3 1 (.slice A 0 c) 0 [] ∧ Below w.heap.size w w' := by
  obtain ⟨i0, hi, hz0, hz1, hz2⟩ := info_parts Try.infoInt
  by_cases h0 : n = 0
  · subst h0
    go_enter Try.func86, Try.ntmps86
    go_wp2_with fail
    go_ret
    exact ⟨none, 0, rfl, World.ownsRow_nil _ _ _ _, Below.refl _ _⟩
  · have hz : 0 < n := by omega
    have hc : grownCap w n 0 3 ≤ maxLen := grownCap_le_maxLen w n 0 3 (by unfold maxLen; omega)
    have hge := grownCap_ge w n 0 3
    have hrun := fun ty => Lib.run_append_nil_zeros (P := Try.prog) w 50 3 ty 3 i0 (.int .i64 0) .i64 .i64 Try.underlying50 Try.underlying3 hi hz0 n hz (by rw [hz1]; omega) (by omega) (by rw [hz2]; omega)
    obtain ⟨cap, hcap⟩ : ∃ cap, grownCap w n 0 3 = cap := ⟨_, rfl⟩
    rw [hcap] at hc hge hrun
    unfold maxLen at hc
    have HRun := Lib.hid hrun
    clear hcap hrun
    have d1 : ¬ (n : Int) < 0 := by omega
    have d2 : decide ((0 : Int) < (n : Int)) = true := by simp; omega
    have d3 : decide ((n : Int) < 0) = false := by simp
    go_enter Try.func86, Try.ntmps86
    go_wp2_with (at_builtin; refine Lib.wpList_append_run _ rfl _ _ _ _ rfl _ _ rfl rfl _ _ (HRun.out _) ?_)
    go_ret
    refine ⟨_, cap, rfl, ⟨rfl, .inr ⟨w.heap.size, cap, _, rfl, Nat.le_refl _, World.alloc_heap_new _ _, Nat.zero_le _, hc, ?_, rfl⟩⟩, ((Below.refl _ w).drew).alloc (Nat.le_refl _) _⟩
    rw [Array.size_append, size_zeroCells, size_zeroCells]
    simp
    omega

/-- Slices of a slice. -/
structure Parts (w : World) (S : Addr) (ps : List (Value × List Int)) : Prop where
  lt : S.block < w.heap.size
  at_ : ∀ (j : Nat) p, ps[j]? = some p → w.cell? (S.add j) = some p.1 ∧ ∃ A c, p.1 = .slice A p.2.length c ∧ Row .i64 w w.heap.size A p.2

def cat (ps : List (Value × List Int)) : List Int := ps.flatMap (·.2)

theorem cat_snoc {ps : List (Value × List Int)} {k : Nat} {p : Value × List Int} (h : ps[k]? = some p) : cat (ps.take (k + 1)) = cat (ps.take k) ++ p.2 := by
  rw [List.take_add_one, h]; simp [cat]

theorem cat_le (ps : List (Value × List Int)) (k : Nat) : (cat (ps.take k)).length ≤ (cat ps).length := by
  have : cat ps = cat (ps.take k) ++ cat (ps.drop k) := by simp only [cat, ← List.flatMap_append, List.take_append_drop]
  rw [this]; simp

theorem Parts.to {w w' : World} {S : Addr} {ps : List (Value × List Int)} (h : Parts w S ps) (b : Below w.heap.size w w') : Parts w' S ps :=
  ⟨by have := b.size; have := h.lt; omega, fun j p hp => by
    obtain ⟨h1, A, c, h2, h3⟩ := h.at_ j p hp
    exact ⟨(b.cell (by rw [addr_block]; exact h.lt)).trans h1, A, c, h2, h3.to b⟩⟩

set_option maxRecDepth 100000 in
set_option maxHeartbeats 2000000 in
theorem concat_at (ps : List (Value × List Int)) (k0 : Nat) (hk0 : ps.length = k0) (S : Addr) (c0 : Nat) (w : World) (h : Parts w S ps) (hk : k0 ≤ 1000) (N : Nat) (hN : (cat ps).length = N) (hN2 : N ≤ 100000) (hc0 : k0 ≤ c0) :
    Calls Try.prog 82 #[.slice (some S) k0 c0] w fun e w' => ∃ A c, e = .returned (.slice A N c) ∧ w'.ownsRow w.heap.size 3 1 (.slice A N c) N ((cat ps).map (Value.int .i64)) ∧ Below w.heap.size w w' := by
  obtain ⟨i0, hi, hz0, hz1, hz2⟩ := info_parts Try.infoInt
  have HN := Lib.hid hN
  have HK := Lib.hid hk0
  clear hN hk0
  go_enter Try.func82, Try.ntmps82
  go_wp2_with fail
  go_loop [3, 11] (fun z i => ∃ (k m : Nat), k ≤ k0 ∧ i = .int .i64 k ∧ z = .int .i64 m ∧ (cat (ps.take k)).length = m) (fun _ i => k0 - (intOf i).toNat)
  case atStart => exact ⟨0, 0, Nat.zero_le _, rfl, rfl, rfl⟩
  case round =>
    obtain ⟨k, m, hkk, rfl, rfl, hm⟩ := hrel
    have hmN : m ≤ N := by rw [← hm, ← HN.out]; exact cat_le ps k
    by_cases hlt : k < k0
    · obtain ⟨p, hp⟩ : ∃ p, ps[k]? = some p := ⟨_, List.getElem?_eq_getElem (by rw [HK.out]; exact hlt)⟩
      obtain ⟨hc, A, c, hv, hrow⟩ := h.at_ k p hp
      rw [hv] at hc
      obtain ⟨q, hq⟩ : ∃ q, p.2.length = q := ⟨_, rfl⟩
      rw [hq] at hc
      have hm2 : (cat (ps.take (k + 1))).length = m + q := by rw [cat_snoc hp, List.length_append, hm, hq]
      have hmN2 : m + q ≤ N := by rw [← hm2, ← HN.out]; exact cat_le ps (k + 1)
      have HM := Lib.hid hm2
      clear hm hp hv hrow hq hm2
      have d1 : decide ((m : Int) + (q : Int) < 0) = false := by simp; omega
      go_wp2_with fail
      go_round
      case rel => exact ⟨k + 1, m + q, by omega, by go_num, by go_num, HM.out⟩
      case measure => simp [intOf]; omega
    · obtain rfl : k = k0 := by omega
      obtain rfl : m = N := by rw [← hm, ← HN.out, List.take_of_length_le (by rw [HK.out]; exact Nat.le_refl _)]
      clear hm
      go_wp2_with fail
      refine (grow_nil m (by omega) w).mono ?_
      rintro e w1 ⟨A1, c1, rfl, hown1, hB1⟩
      have h1 := h.to hB1
      go_wp2_with fail
      go_loopw [6, 27] (fun z i wr => ∃ (j q : Nat) (A : Option Addr) (c : Nat), j ≤ k ∧ i = .int .i64 j ∧ z = .slice A q c ∧ (cat (ps.take j)).length = q ∧
          wr.ownsRow w.heap.size 3 1 (.slice A q c) q ((cat (ps.take j)).map (Value.int .i64)) ∧ Below w.heap.size w wr) (fun _ i _ => k - (intOf i).toNat)
      case atStart => exact ⟨0, 0, A1, c1, Nat.zero_le _, rfl, rfl, rfl, hown1, hB1⟩
      case round =>
        obtain ⟨j, q, A, c, hj, rfl, rfl, hq, hown, hB⟩ := hrel
        have hw := h.to hB
        by_cases hlt2 : j < k
        · obtain ⟨p, hp⟩ : ∃ p, ps[j]? = some p := ⟨_, List.getElem?_eq_getElem (by rw [HK.out]; exact hlt2)⟩
          obtain ⟨hc, A2, c2, hv, hrow⟩ := hw.at_ j p hp
          rw [hv] at hc
          obtain ⟨l2, hl2⟩ : ∃ l2, p.2 = l2 := ⟨_, rfl⟩
          have hcs := cat_snoc hp
          rw [hl2] at hc hrow hcs
          obtain ⟨q2, hq2⟩ : ∃ q2, l2.length = q2 := ⟨_, rfl⟩
          rw [hq2] at hc
          have hqq : (cat (ps.take (j + 1))).length = q + q2 := by rw [hcs, List.length_append, hq, hq2]
          have hqN : q + q2 ≤ m := by rw [← hqq, ← HN.out]; exact cat_le ps (j + 1)
          have HC := Lib.hid hcs
          have HQ := Lib.hid hqq
          have HQ2 := Lib.hid hq2
          clear hcs hqq hp hv hl2 hq hq2
          have hs := hB.size
          go_wp2_with (at_builtin; refine wpList_append_row _ .i64 rfl _ _ 50 rfl w.heap.size 3 i0 (.int .i64 0) 8 Try.underlying50 hi hz0 hz1 hz2 rfl _ q (cat (ps.take j)) rfl hown A2 q2 c2 _ l2 rfl HQ2.out hrow (by unfold maxLen; omega) (by omega) hs ?_; intro A3 c3 w2 hown2 hc2 hB2)
          exact ⟨⟨j + 1, q + q2, A3, c3, by omega, by go_num, rfl, HQ.out, by rw [HC.out]; exact hown2, hB.trans hB2⟩, by simp [intOf]; omega⟩
        · obtain rfl : j = k := by omega
          have e1 : cat (ps.take j) = cat ps := by rw [List.take_of_length_le (by rw [HK.out]; exact Nat.le_refl _)]
          rw [e1] at hq hown
          obtain rfl : q = m := by rw [← hq]; exact HN.out
          clear hq
          go_wp2_with fail
          go_ret
          exact ⟨A, c, rfl, hown, hB⟩

theorem Parts.lit (W : World) (ps : List (Value × List Int)) (t : TypeId) {cs : Array Value} (hcs : cs = (ps.map (·.1)).toArray) (h : ∀ p ∈ ps, ∃ A c, p.1 = .slice A p.2.length c ∧ Row .i64 W W.heap.size A p.2) :
    Parts (W.alloc (.cells cs t)) ⟨W.heap.size, 0, none⟩ ps := by
  refine ⟨by simp, fun j p hp => ?_⟩
  obtain ⟨A, c, h1, h2⟩ := h p (List.mem_of_getElem? hp)
  refine ⟨?_, A, c, h1, h2.to ((Below.refl _ W).alloc (Nat.le_refl _) _)⟩
  have e : (⟨W.heap.size, 0, none⟩ : Addr).add j = ⟨W.heap.size, j, none⟩ := by unfold Addr.add; split <;> simp_all
  have hb := World.alloc_heap_new W (.cells cs t)
  subst hcs
  rw [e]
  simp only [World.cell?, hb]
  simp [hp]

theorem own_cap {w : World} {base : Nat} {e : TypeId} {n c : Nat} {A : Option Addr} {xs : List Value} (h : w.ownsRow base e 1 (.slice A n c) n xs) : n ≤ c := by
  rcases h.2 with ⟨e1, e2⟩ | ⟨g, cap, cur, e1, _, _, hc, _⟩
  · omega
  · cases e1; exact hc

theorem concat4 (A1 A2 A3 A4 : Option Addr) (n1 n2 n3 n4 c1 c2 c3 c4 : Nat) (l1 l2 l3 l4 : List Int) (e1 : l1.length = n1) (e2 : l2.length = n2) (e3 : l3.length = n3) (e4 : l4.length = n4) (W : World) (t : TypeId)
    (h1 : Row .i64 W W.heap.size A1 l1) (h2 : Row .i64 W W.heap.size A2 l2) (h3 : Row .i64 W W.heap.size A3 l3) (h4 : Row .i64 W W.heap.size A4 l4) (N : Nat) (hN : n1 + (n2 + (n3 + n4)) = N) (hN2 : N ≤ 100000) {S : Nat} (hS : S = W.heap.size) :
    Calls Try.prog 82 #[.slice (some ⟨S, 0, none⟩) 4 4] (W.alloc (.cells #[.slice A1 n1 c1, .slice A2 n2 c2, .slice A3 n3 c3, .slice A4 n4 c4] t)) fun e w' =>
      ∃ A c, e = .returned (.slice A N c) ∧ Row .i64 w' w'.heap.size A (l1 ++ (l2 ++ (l3 ++ l4))) ∧ N ≤ c ∧ Below W.heap.size W w' := by
  subst e1 e2 e3 e4 hN hS
  refine (concat_at [(.slice A1 l1.length c1, l1), (.slice A2 l2.length c2, l2), (.slice A3 l3.length c3, l3), (.slice A4 l4.length c4, l4)] 4 rfl _ 4 _ (Parts.lit W _ t rfl ?_) (by omega) _ (by simp [cat]) hN2 (by omega)).mono ?_
  · intro p hp
    simp only [List.mem_cons, List.not_mem_nil, or_false] at hp
    rcases hp with rfl | rfl | rfl | rfl
    · exact ⟨_, _, rfl, h1⟩
    · exact ⟨_, _, rfl, h2⟩
    · exact ⟨_, _, rfl, h3⟩
    · exact ⟨_, _, rfl, h4⟩
  · rintro e w' ⟨A, c, rfl, hown, hB⟩
    have hr := Row.own hown
    simp only [cat, List.flatMap_cons, List.flatMap_nil, List.append_nil] at hr
    exact ⟨A, c, rfl, hr, own_cap hown, below_lit hB⟩

theorem concat5 (A1 A2 A3 A4 A5 : Option Addr) (n1 n2 n3 n4 n5 c1 c2 c3 c4 c5 : Nat) (l1 l2 l3 l4 l5 : List Int) (e1 : l1.length = n1) (e2 : l2.length = n2) (e3 : l3.length = n3) (e4 : l4.length = n4) (e5 : l5.length = n5) (W : World) (t : TypeId)
    (h1 : Row .i64 W W.heap.size A1 l1) (h2 : Row .i64 W W.heap.size A2 l2) (h3 : Row .i64 W W.heap.size A3 l3) (h4 : Row .i64 W W.heap.size A4 l4) (h5 : Row .i64 W W.heap.size A5 l5) (N : Nat) (hN : n1 + (n2 + (n3 + (n4 + n5))) = N) (hN2 : N ≤ 100000) {S : Nat} (hS : S = W.heap.size) :
    Calls Try.prog 82 #[.slice (some ⟨S, 0, none⟩) 5 5] (W.alloc (.cells #[.slice A1 n1 c1, .slice A2 n2 c2, .slice A3 n3 c3, .slice A4 n4 c4, .slice A5 n5 c5] t)) fun e w' =>
      ∃ A c, e = .returned (.slice A N c) ∧ Row .i64 w' w'.heap.size A (l1 ++ (l2 ++ (l3 ++ (l4 ++ l5)))) ∧ N ≤ c ∧ Below W.heap.size W w' := by
  subst e1 e2 e3 e4 e5 hN hS
  refine (concat_at [(.slice A1 l1.length c1, l1), (.slice A2 l2.length c2, l2), (.slice A3 l3.length c3, l3), (.slice A4 l4.length c4, l4), (.slice A5 l5.length c5, l5)] 5 rfl _ 5 _ (Parts.lit W _ t rfl ?_) (by omega) _ (by simp [cat]) hN2 (by omega)).mono ?_
  · intro p hp
    simp only [List.mem_cons, List.not_mem_nil, or_false] at hp
    rcases hp with rfl | rfl | rfl | rfl | rfl
    · exact ⟨_, _, rfl, h1⟩
    · exact ⟨_, _, rfl, h2⟩
    · exact ⟨_, _, rfl, h3⟩
    · exact ⟨_, _, rfl, h4⟩
    · exact ⟨_, _, rfl, h5⟩
  · rintro e w' ⟨A, c, rfl, hown, hB⟩
    have hr := Row.own hown
    simp only [cat, List.flatMap_cons, List.flatMap_nil, List.append_nil] at hr
    exact ⟨A, c, rfl, hr, own_cap hown, below_lit hB⟩

theorem frPut_at (n : Int) (num many : Nat) (hn : n = num) (hm : many ≤ 32) (hnum : num < 2 ^ many) (w : World) :
    Calls Try.prog 80 #[.int .i64 n, .int .i64 many] w fun e W' => e = .returned (.slice (some ⟨w.heap.size, 0, none⟩) many many) ∧ W'.ownsRow w.heap.size 3 1 (.slice (some ⟨w.heap.size, 0, none⟩) many many) many ((bitRow num many many).map (Value.int .i64)) ∧ Below w.heap.size w W' := by
  subst hn
  have HN := Lib.hid hnum
  clear hnum
  go_enter Try.func80, Try.ntmps80
  go_wp2_with fail
  refine (put_yes num many hm HN.out w).mono ?_
  rintro e w' ⟨rfl, hown, hB⟩
  go_wp2_with fail
  go_ret
  exact ⟨rfl, hown, hB⟩

theorem frPut_ex (n : Int) (num many : Nat) (hn : n = num) (hm : many ≤ 32) (hnum : num < 2 ^ many) (w : World) :
    Calls Try.prog 80 #[.int .i64 n, .int .i64 many] w fun e W' => ∃ A, e = .returned (.slice A many many) ∧ Row .i64 W' W'.heap.size A (bitRow num many many) ∧ Below w.heap.size w W' :=
  (frPut_at n num many hn hm hnum w).mono fun _ _ ⟨h1, h2, h3⟩ => ⟨_, h1, Row.own h2, h3⟩

/-- An append in a region that draws its order, as one step. -/
theorem step_append_row {P : Program} {w : World} {ops : Array Oper} {o : Oper} {a : Act} {K : Act → World → Prop} {Q : Exit → Act → World → Prop} {E : Prop} (κ : IntKind) (hgd : o.guard = none) (s x : Operand) (t : TypeId)
    (ho : o.op = .call { callee := .builtin .append, args := #[s, x], argTypes := #[t, t] })
    (base : Nat) (e : TypeId) (i : TypeInfo) (z : Value) (bytes : Nat) (ht : P.underlying t = some (.slice e)) (hi : P.info? e = some i) (hz : i.zero = some z)
    (hsize : i.size = 1) (hby : i.bytes = bytes) (hzs : z.cells.size = 1)
    (v : Value) (n : Nat) (l : List Int) (hs : a.eval s = v) (hown : w.ownsRow base e 1 v n (l.map (Value.int κ)))
    (A : Option Addr) (m c B : Nat) (l' : List Int) (hx : a.eval x = .slice A m c) (hm : l'.length = m) (hr : Row κ w B A l')
    (h63 : n + m ≤ maxLen) (hbytes : (n + m) * bytes ≤ 140737488355328) (hbase : base ≤ w.heap.size)
    (h : ∀ A' c' w', w'.ownsRow base e 1 (.slice A' (n + m) c') (n + m) ((l ++ l').map (Value.int κ)) → n + m ≤ c' → Below base w w' → K (a.put o.dst (.slice A' (n + m) c')) w') :
    if Region.wanted o (yielded ops a.tmps) = true then Oper.wp P o a w K Q else E := by
  obtain ⟨A', c', w', hrun, h2, hc', h3⟩ := run_append_row (P := P) w κ base t o.type e i z bytes ht hi hz hsize hby hzs v n l hown A m c B l' hm hr h63 hbytes hbase
  have hw : Region.wanted o (yielded ops a.tmps) = true := by simp [Region.wanted, hgd]
  rw [if_pos hw]
  unfold Oper.wp execOp
  simp only [ho, resolve, invoke, builtin, Sem.run_bind, Sem.run_pure, Result.andThen_ok, List.map_toArray, List.map_cons, List.map_nil, hs, hx, hrun]
  exact h A' c' w' h2 hc' h3

theorem block_below {w w' : World} {F : Nat} {o : Obj} (b : Below w.heap.size w w') (h : w.heap[F]? = some o) : w'.heap[F]? = some o :=
  (b.block F (Array.getElem?_eq_some_iff.1 h).1).trans h

theorem below_alloc1 (w : World) (o : Obj) : Below w.heap.size w (w.alloc o) := (Below.refl _ w).alloc (Nat.le_refl _) o

theorem below_drew1 (w : World) : Below w.heap.size w w.drew := (Below.refl _ w).drew

theorem row_step {κ : IntKind} {a b : World} {A : Option Addr} {l : List Int} (k : Below a.heap.size a b) (h : Row κ a a.heap.size A l) : Row κ b b.heap.size A l := h.to k

theorem lit2 (W : World) (κ : IntKind) (a b : Int) (t : TypeId) {k : Nat} (hk : k = W.heap.size) : Row κ (W.alloc (.cells #[.int κ a, .int κ b] t)) (W.alloc (.cells #[.int κ a, .int κ b] t)).heap.size (some ⟨k, 0, none⟩) [a, b] := by
  subst hk
  have := Row.lit W κ [a, b] t (cs := #[.int κ a, .int κ b]) rfl
  simpa using this

theorem lit1 (W : World) (κ : IntKind) (a : Int) (t : TypeId) {k : Nat} (hk : k = W.heap.size) : Row κ (W.alloc (.cells #[.int κ a] t)) (W.alloc (.cells #[.int κ a] t)).heap.size (some ⟨k, 0, none⟩) [a] := by
  subst hk
  have := Row.lit W κ [a] t (cs := #[.int κ a]) rfl
  simpa using this

def rankS (ID : Nat) (r : Bool) : List Int := bitRow ID 11 11 ++ [flag r, 0]

def rankX (ID : Nat) (r : Bool) : List Int := bitRow (ID / 262144) 11 11 ++ ([1, 1] ++ (bitRow (ID % 262144) 18 18 ++ [flag r]))

theorem cells5' {w : World} {F : Nat} {a b c d e : Value} {t : TypeId} (h : w.heap[F]? = some (.cells #[a, b, c, d, e] t)) :
    w.cell? ⟨F, 0, none⟩ = some a ∧ w.cell? ⟨F, 1, none⟩ = some b ∧ w.cell? ⟨F, 2, none⟩ = some c ∧ w.cell? ⟨F, 3, none⟩ = some d ∧ w.cell? ⟨F, 4, none⟩ = some e := (cells5 h).1

set_option maxRecDepth 100000 in
set_option maxHeartbeats 2000000 in
theorem rankS_at (ID : Nat) (r : Bool) (n : Int) (A : Option Addr) (m c : Nat) (hID : ID < 2048) (w : World) :
    Calls Try.prog 70 #[.agg #[.bool false, .int .i64 ID, .bool r, .int .i64 n, .slice A m c]] w fun e w' => ∃ A' c', e = .returned (.slice A' 13 c') ∧ Row .i64 w' w'.heap.size A' (rankS ID r) ∧ 13 ≤ c' ∧ Below w.heap.size w w' := by
  obtain ⟨i0, hi, hz0, hz1, hz2⟩ := info_parts Try.infoInt
  obtain ⟨w0, hw0⟩ : ∃ w0, w.alloc (.cells #[.bool false, .int .i64 ID, .bool r, .int .i64 n, .slice A m c] 30) = w0 := ⟨_, rfl⟩
  have hB0 := below_lits hw0
  have hF0 : w0.heap[w.heap.size]? = some (.cells #[.bool false, .int .i64 ID, .bool r, .int .i64 n, .slice A m c] 30) := by rw [← hw0]; exact World.alloc_heap_new _ _
  have hlt0 : w.heap.size < w0.heap.size := (Array.getElem?_eq_some_iff.1 hF0).1
  have HW := Lib.hid hw0
  clear hw0
  go_enter Try.func70, Try.ntmps70
  go_wp2_with fail
  rw [HW.out]
  go_region_held3 (fun W => W.cell? ⟨w.heap.size, 0, none⟩ = some (.bool false) ∧ W.cell? ⟨w.heap.size, 1, none⟩ = some (.int .i64 ID) ∧ W.cell? ⟨w.heap.size, 2, none⟩ = some (.bool r) ∧ W.cell? ⟨w.heap.size, 3, none⟩ = some (.int .i64 n) ∧ W.cell? ⟨w.heap.size, 4, none⟩ = some (.slice A m c))
    (exact cells5' (by repeat (first | assumption | exact Below.refl _ _ | ((with_reducible refine lit2 _ _ _ _ _ ?_); (first | (with_reducible rfl) | (simp; done))) | ((with_reducible refine lit1 _ _ _ _ ?_); (first | (with_reducible rfl) | (simp; done))) | refine row_step (by first | assumption | exact below_alloc1 _ _ | exact below_drew1 _ | exact below_drewN0 _ _) ?_ | refine block_below (by first | assumption | exact below_alloc1 _ _ | exact below_drew1 _ | exact below_drewN0 _ _) ?_ | refine below_then ?_ (by first | assumption | exact below_alloc1 _ _ | exact below_drew1 _ | exact below_drewN0 _ _))))
    (first
      | (go_at_call 80; refine (frPut_at _ ID 11 rfl (by omega) (by omega) _).mono ?_; rintro e w1 ⟨rfl, hown1, hB1⟩)
      | (go_at_call 81; refine (bitOf_at r _).mono ?_; rintro e w' ⟨rfl, rfl⟩; have l1 := Row.lit w1 .i64 [flag r, 0] 3 (cs := #[.int .i64 (flag r), .int .i64 0]) rfl; have own1 := own_to hown1 (below_alloc1 w1 (.cells #[.int .i64 (flag r), .int .i64 0] 3)); have hs1 : w0.heap.size ≤ w1.heap.size := hB1.size)
      | (refine step_append_row .i64 rfl _ _ 50 rfl w0.heap.size 3 i0 (.int .i64 0) 8 Try.underlying50 hi hz0 hz1 hz2 rfl _ 11 (bitRow ID 11 11) rfl own1 _ 2 2 _ [flag r, 0] rfl rfl l1 (by unfold maxLen; omega) (by omega) (by simp; omega) ?_; intro A3 c3 w3 hown3 hc3 hB3; have hF3 : w3.heap[w.heap.size]? = some (.cells #[.bool false, .int .i64 ID, .bool r, .int .i64 n, .slice A m c] 30) := (hB3.block w.heap.size hlt0).trans (by repeat (first | assumption | exact Below.refl _ _ | ((with_reducible refine lit2 _ _ _ _ _ ?_); (first | (with_reducible rfl) | (simp; done))) | ((with_reducible refine lit1 _ _ _ _ ?_); (first | (with_reducible rfl) | (simp; done))) | refine row_step (by first | assumption | exact below_alloc1 _ _ | exact below_drew1 _ | exact below_drewN0 _ _) ?_ | refine block_below (by first | assumption | exact below_alloc1 _ _ | exact below_drew1 _ | exact below_drewN0 _ _) ?_ | refine below_then ?_ (by first | assumption | exact below_alloc1 _ _ | exact below_drew1 _ | exact below_drewN0 _ _)))))
  go_wp2_with fail
  go_ret
  refine ⟨A3, c3, rfl, Row.own hown3, hc3, hB0.trans (Below.trans ?_ (hB3.mono (by omega)))⟩
  exact ((below_drew1 w0).trans (hB1.trans ((below_alloc1 w1 _).mono hs1))).mono (by omega)

theorem and_low (n : Nat) (hn : n < 4611686018427387904) : bits .and .i64 (n : Int) 262143 = ((n % 262144 : Nat) : Int) := by
  show IntKind.i64.wrap ((BitVec.ofInt 64 (n : Int) &&& BitVec.ofInt 64 ((262143 : Nat) : Int)).toNat : Int) = _
  rw [BitVec.ofInt_natCast, BitVec.ofInt_natCast, BitVec.toNat_and, BitVec.toNat_ofNat, BitVec.toNat_ofNat, Nat.mod_eq_of_lt (show n < 2 ^ 64 by omega), Nat.mod_eq_of_lt (show 262143 < 2 ^ 64 by omega), IntKind.wrap_i64]
  have : n &&& 262143 = n % 262144 := Nat.and_two_pow_sub_one_eq_mod n 18
  rw [this]
  omega

set_option maxRecDepth 100000 in
set_option maxHeartbeats 1000000 in
theorem rankX_at (ID : Nat) (r : Bool) (n : Int) (A : Option Addr) (m c : Nat) (hID : ID < 536870912) (w : World) :
    Calls Try.prog 70 #[.agg #[.bool true, .int .i64 ID, .bool r, .int .i64 n, .slice A m c]] w fun e w' => ∃ A' c', e = .returned (.slice A' 32 c') ∧ Row .i64 w' w'.heap.size A' (rankX ID r) ∧ 32 ≤ c' ∧ Below w.heap.size w w' := by
  obtain ⟨w0, hw0⟩ : ∃ w0, w.alloc (.cells #[.bool true, .int .i64 ID, .bool r, .int .i64 n, .slice A m c] 30) = w0 := ⟨_, rfl⟩
  have hB0 := below_lits hw0
  have hF0 : w0.heap[w.heap.size]? = some (.cells #[.bool true, .int .i64 ID, .bool r, .int .i64 n, .slice A m c] 30) := by rw [← hw0]; exact World.alloc_heap_new _ _
  have hlt0 : w.heap.size < w0.heap.size := (Array.getElem?_eq_some_iff.1 hF0).1
  have HW := Lib.hid hw0
  have HF0 := Lib.hid hF0
  have hand := and_low ID (by omega)
  obtain ⟨V, hV⟩ : ∃ V, ID % 262144 = V := ⟨_, rfl⟩
  obtain ⟨U, hU⟩ : ∃ U, ID / 262144 = U := ⟨_, rfl⟩
  rw [hV] at hand
  have hsh : (ID : Int) / 262144 = (U : Int) := by omega
  have hsh2 : (ID : Int) / 2 ^ 18 = (U : Int) := hsh
  clear hw0 hF0
  go_enter Try.func70, Try.ntmps70
  go_wp2_with fail
  rw [HW.out]
  obtain ⟨c0, c1, c2, c3, c4⟩ := cells5' HF0.out
  go_quiet (fail)
  have hF1 : (w0.drewN nq).heap[w.heap.size]? = some (.cells #[.bool true, .int .i64 ID, .bool r, .int .i64 n, .slice A m c] 30) := HF0.out
  have hB1 : Below w.heap.size w (w0.drewN nq) := below_drewN' hB0 nq
  generalize w0.drewN nq = w1 at hF1 hB1 ⊢
  have hUb : U < 2 ^ 11 := by omega
  have hVb : V < 2 ^ 18 := by omega
  have HV := Lib.hid hV
  have HU := Lib.hid hU
  clear c0 c1 c2 c3 c4 hand hsh hsh2 HF0 HW hV hU hB0 hlt0
  go_wp2_with fail
  go_region_held3 (fun W => W.cell? ⟨w.heap.size, 0, none⟩ = some (.bool true) ∧ W.cell? ⟨w.heap.size, 1, none⟩ = some (.int .i64 ID) ∧ W.cell? ⟨w.heap.size, 2, none⟩ = some (.bool r) ∧ W.cell? ⟨w.heap.size, 3, none⟩ = some (.int .i64 n) ∧ W.cell? ⟨w.heap.size, 4, none⟩ = some (.slice A m c))
    (exact cells5' (by repeat (first | assumption | exact Below.refl _ _ | ((with_reducible refine lit2 _ _ _ _ _ ?_); (first | (with_reducible rfl) | (simp; done))) | ((with_reducible refine lit1 _ _ _ _ ?_); (first | (with_reducible rfl) | (simp; done))) | refine row_step (by first | assumption | exact below_alloc1 _ _ | exact below_drew1 _ | exact below_drewN0 _ _) ?_ | refine block_below (by first | assumption | exact below_alloc1 _ _ | exact below_drew1 _ | exact below_drewN0 _ _) ?_ | refine below_then ?_ (by first | assumption | exact below_alloc1 _ _ | exact below_drew1 _ | exact below_drewN0 _ _))))
    (first
      | (go_at_call_of 80 (Value.int IntKind.i64 ↑U); refine (frPut_ex _ U 11 rfl (by omega) hUb _).mono ?_; rintro e w2 ⟨A2, rfl, hr2, hB2⟩)
      | (go_at_call_of 80 (Value.int IntKind.i64 ↑V); refine (frPut_ex _ V 18 rfl (by omega) hVb _).mono ?_; rintro e w3 ⟨A3, rfl, hr3, hB3⟩)
      | (go_at_call 81; refine (bitOf_at r _).mono ?_; rintro e w' ⟨rfl, rfl⟩)
      | (go_at_call 82; refine (concat4 A2 _ A3 _ 11 2 18 1 _ _ _ _ (bitRow U 11 11) [1, 1] (bitRow V 18 18) [flag r] (bitRow_len _ _ _) rfl (bitRow_len _ _ _) rfl _ _ (by repeat (first | assumption | exact Below.refl _ _ | ((with_reducible refine lit2 _ _ _ _ _ ?_); (first | (with_reducible rfl) | (simp; done))) | ((with_reducible refine lit1 _ _ _ _ ?_); (first | (with_reducible rfl) | (simp; done))) | refine row_step (by first | assumption | exact below_alloc1 _ _ | exact below_drew1 _ | exact below_drewN0 _ _) ?_ | refine block_below (by first | assumption | exact below_alloc1 _ _ | exact below_drew1 _ | exact below_drewN0 _ _) ?_ | refine below_then ?_ (by first | assumption | exact below_alloc1 _ _ | exact below_drew1 _ | exact below_drewN0 _ _))) (by repeat (first | assumption | exact Below.refl _ _ | ((with_reducible refine lit2 _ _ _ _ _ ?_); (first | (with_reducible rfl) | (simp; done))) | ((with_reducible refine lit1 _ _ _ _ ?_); (first | (with_reducible rfl) | (simp; done))) | refine row_step (by first | assumption | exact below_alloc1 _ _ | exact below_drew1 _ | exact below_drewN0 _ _) ?_ | refine block_below (by first | assumption | exact below_alloc1 _ _ | exact below_drew1 _ | exact below_drewN0 _ _) ?_ | refine below_then ?_ (by first | assumption | exact below_alloc1 _ _ | exact below_drew1 _ | exact below_drewN0 _ _))) (by repeat (first | assumption | exact Below.refl _ _ | ((with_reducible refine lit2 _ _ _ _ _ ?_); (first | (with_reducible rfl) | (simp; done))) | ((with_reducible refine lit1 _ _ _ _ ?_); (first | (with_reducible rfl) | (simp; done))) | refine row_step (by first | assumption | exact below_alloc1 _ _ | exact below_drew1 _ | exact below_drewN0 _ _) ?_ | refine block_below (by first | assumption | exact below_alloc1 _ _ | exact below_drew1 _ | exact below_drewN0 _ _) ?_ | refine below_then ?_ (by first | assumption | exact below_alloc1 _ _ | exact below_drew1 _ | exact below_drewN0 _ _))) (by repeat (first | assumption | exact Below.refl _ _ | ((with_reducible refine lit2 _ _ _ _ _ ?_); (first | (with_reducible rfl) | (simp; done))) | ((with_reducible refine lit1 _ _ _ _ ?_); (first | (with_reducible rfl) | (simp; done))) | refine row_step (by first | assumption | exact below_alloc1 _ _ | exact below_drew1 _ | exact below_drewN0 _ _) ?_ | refine block_below (by first | assumption | exact below_alloc1 _ _ | exact below_drew1 _ | exact below_drewN0 _ _) ?_ | refine below_then ?_ (by first | assumption | exact below_alloc1 _ _ | exact below_drew1 _ | exact below_drewN0 _ _))) 32 rfl (by omega) (by simp)).mono ?_; rintro e w5 ⟨A5, c5, rfl, hr5, hc5, hB5⟩))
  all_goals
    go_wp2_with fail
    go_ret
    refine ⟨A5, c5, rfl, ?_, hc5, hB1.trans (Below.mono (B := w1.heap.size) (by repeat (first | assumption | exact Below.refl _ _ | ((with_reducible refine lit2 _ _ _ _ _ ?_); (first | (with_reducible rfl) | (simp; done))) | ((with_reducible refine lit1 _ _ _ _ ?_); (first | (with_reducible rfl) | (simp; done))) | refine row_step (by first | assumption | exact below_alloc1 _ _ | exact below_drew1 _ | exact below_drewN0 _ _) ?_ | refine block_below (by first | assumption | exact below_alloc1 _ _ | exact below_drew1 _ | exact below_drewN0 _ _) ?_ | refine below_then ?_ (by first | assumption | exact below_alloc1 _ _ | exact below_drew1 _ | exact below_drewN0 _ _))) hB1.size)⟩
    unfold rankX
    rw [HU.out, HV.out]
    exact hr5

theorem rankS_len (ID : Nat) (r : Bool) : (rankS ID r).length = 13 := by simp [rankS, bitRow_len]

theorem rankX_len (ID : Nat) (r : Bool) : (rankX ID r).length = 32 := by simp [rankX, bitRow_len]

abbrev H1 : List Int := [0, 0, 0, 0, 0, 0, 0, 0, 0, 0, 0, 1, 0, 0, 0, 0, 0, 0, 1, 1, 0, 0, 0, 0, 0, 0, 0]

abbrev H2 : List Int := [0, 0, 0, 0, 0, 0, 0, 0, 0, 0, 0, 1, 0, 0, 0, 0, 0, 0, 1]

theorem h1_is : [0] ++ (rankS 1 false ++ ([0] ++ (bitRow 1 4 4 ++ spreadL [128]))) = H1 := by decide

theorem h1_read : readL (H1 ++ [1, 1]) = .ok (⟨false, 1, false, 1, [128]⟩, 27) := by kernel_rfl

theorem h1_cut : readL (H1.take 20) = .error 40 := by kernel_rfl

theorem h1_one : readL [1] = .error 42 := by kernel_rfl

theorem cells10 {w : World} {F G : Nat} {a b c d e a' b' c' d' e' : Value} {t t' : TypeId} (h : w.heap[F]? = some (.cells #[a, b, c, d, e] t)) (h' : w.heap[G]? = some (.cells #[a', b', c', d', e'] t')) :
    w.cell? ⟨F, 0, none⟩ = some a ∧ w.cell? ⟨F, 1, none⟩ = some b ∧ w.cell? ⟨F, 2, none⟩ = some c ∧ w.cell? ⟨F, 3, none⟩ = some d ∧ w.cell? ⟨F, 4, none⟩ = some e ∧
    w.cell? ⟨G, 0, none⟩ = some a' ∧ w.cell? ⟨G, 1, none⟩ = some b' ∧ w.cell? ⟨G, 2, none⟩ = some c' ∧ w.cell? ⟨G, 3, none⟩ = some d' ∧ w.cell? ⟨G, 4, none⟩ = some e' := by
  obtain ⟨⟨h0, h1, h2, h3, h4⟩, _⟩ := cells5 h
  exact ⟨h0, h1, h2, h3, h4, cells5' h'⟩

theorem byte_128 : byteB [128] := by unfold byteB; decide

theorem byte_nil : byteB [] := by simp [byteB]

theorem litH2 (W : World) (t : TypeId) {k : Nat} (hk : k = W.heap.size) : Row .i64 (W.alloc (.cells #[.int .i64 0, .int .i64 0, .int .i64 0, .int .i64 0, .int .i64 0, .int .i64 0, .int .i64 0, .int .i64 0, .int .i64 0, .int .i64 0, .int .i64 0, .int .i64 1, .int .i64 0, .int .i64 0, .int .i64 0, .int .i64 0, .int .i64 0, .int .i64 0, .int .i64 1] t)) (W.alloc (.cells #[.int .i64 0, .int .i64 0, .int .i64 0, .int .i64 0, .int .i64 0, .int .i64 0, .int .i64 0, .int .i64 0, .int .i64 0, .int .i64 0, .int .i64 0, .int .i64 1, .int .i64 0, .int .i64 0, .int .i64 0, .int .i64 0, .int .i64 0, .int .i64 0, .int .i64 1] t)).heap.size (some ⟨k, 0, none⟩) H2 := by
  subst hk
  have := Row.lit W .i64 H2 t (cs := #[.int .i64 0, .int .i64 0, .int .i64 0, .int .i64 0, .int .i64 0, .int .i64 0, .int .i64 0, .int .i64 0, .int .i64 0, .int .i64 0, .int .i64 0, .int .i64 1, .int .i64 0, .int .i64 0, .int .i64 0, .int .i64 0, .int .i64 0, .int .i64 0, .int .i64 1]) rfl
  simpa using this

theorem frRight_q (x : Bool) (i : Int) (r : Bool) (n : Int) (A : Option Addr) (m c : Nat) (w : World) (q : Bool) (hq : rightV x i r n m = q) :
    Calls Try.prog 43 #[.agg #[.bool x, .int .i64 i, .bool r, .int .i64 n, .slice A m c]] w fun e w' => e = .returned (.bool q) ∧ Below w.heap.size w w' := by
  subst hq; exact frRight_at x i r n A m c w

theorem refFrRight_q (x : Bool) (i : Int) (r : Bool) (n : Int) (A : Option Addr) (m c : Nat) (w : World) (q : Bool) (hq : rightV x i r n m = q) :
    Calls Try.prog 29 #[.agg #[.bool x, .int .i64 i, .bool r, .int .i64 n, .slice A m c]] w fun e w' => e = .returned (.bool q) ∧ Below w.heap.size w w' := by
  subst hq; exact refFrRight_at x i r n A m c w

theorem great_q (x : Bool) (i : Int) (r : Bool) (n : Int) (A : Option Addr) (m c : Nat) (w : World) (q : Bool) (hq : decide (100 < m) = q) :
    Calls Try.prog 12 #[.agg #[.bool x, .int .i64 i, .bool r, .int .i64 n, .slice A m c]] w fun e w' => e = .returned (.bool q) ∧ Below w.heap.size w w' := by
  subst hq; exact great_at x i r n A m c w

/-- A kind's identifiers; how long its rank is, and its head without data. -/
def idOk (x : Bool) (ID : Nat) : Prop := ID < if x then 536870912 else 2048

def rn (x : Bool) : Nat := if x then 32 else 13

def hn (x : Bool) : Nat := if x then 39 else 19

def rankV (x : Bool) (ID : Nat) (r : Bool) : List Int := if x then rankX ID r else rankS ID r

def headV (x : Bool) (ID : Nat) (r : Bool) (L : Nat) (dl : List Int) : List Int :=
  if x then [0] ++ (rankX ID r ++ ([0, 0] ++ (bitRow L 4 4 ++ spreadL dl))) else [0] ++ (rankS ID r ++ ([0] ++ (bitRow L 4 4 ++ spreadL dl)))

theorem rankV_len (x : Bool) (ID : Nat) (r : Bool) : (rankV x ID r).length = rn x := by cases x <;> simp [rankV, rn, rankS_len, rankX_len]

theorem headV_len (x : Bool) (ID : Nat) (r : Bool) (L : Nat) (dl : List Int) : (headV x ID r L dl).length = hn x + 8 * dl.length := by
  cases x <;> simp only [headV, hn, if_true, if_false, Bool.false_eq_true, List.length_append, rankS_len, rankX_len, bitRow_len, spreadL_len, List.length_cons, List.length_nil] <;> omega

theorem hn_rn (x : Bool) : rn x + 6 ≤ hn x := by cases x <;> decide

theorem headV_len' (x : Bool) (ID : Nat) (r : Bool) (L : Nat) (dl : List Int) {m M N : Nat} (hm : dl.length = m) (hM : 8 * m = M) (hN : hn x + M = N) : (headV x ID r L dl).length = N := by
  rw [headV_len, hm, hM, hN]

theorem rank_at (x : Bool) (ID : Nat) (r : Bool) (n : Int) (A : Option Addr) (m c : Nat) (hID : idOk x ID) (k : Nat) (hk : rn x = k) (w : World) :
    Calls Try.prog 70 #[.agg #[.bool x, .int .i64 ID, .bool r, .int .i64 n, .slice A m c]] w fun e w' => ∃ A' c', e = .returned (.slice A' k c') ∧ Row .i64 w' w'.heap.size A' (rankV x ID r) ∧ k ≤ c' ∧ Below w.heap.size w w' := by
  subst hk
  cases x
  · exact rankS_at ID r n A m c hID w
  · exact rankX_at ID r n A m c hID w

theorem right_ok {x : Bool} {i : Int} {r : Bool} {n : Int} {m : Nat} (h : rightV x i r n m = true) :
    ∃ ID L : Nat, i = ID ∧ n = L ∧ idOk x ID ∧ L ≤ 8 ∧ m = (if r then 0 else L) := by
  simp only [rightV, decide_eq_true_eq] at h
  obtain ⟨h1, h2, h3, h4, h5⟩ := h
  obtain ⟨ID, rfl⟩ := Int.eq_ofNat_of_zero_le h1
  obtain ⟨L, rfl⟩ := Int.eq_ofNat_of_zero_le h3
  refine ⟨ID, L, rfl, rfl, ?_, by omega, ?_⟩
  · unfold idOk; cases x <;> simp at h2 ⊢ <;> omega
  · cases r <;> simp at h5 ⊢ <;> omega

theorem right_parts {x : Bool} {i : Int} {r : Bool} {n : Int} {m : Nat} (h : rightV x i r n m = true) :
    ∃ ID L : Nat, i = ID ∧ n = L ∧ ID < (if x then 536870912 else 2048) ∧ L ≤ 8 ∧ m = (if r then 0 else L) := by
  simp only [rightV, decide_eq_true_eq] at h
  obtain ⟨h1, h2, h3, h4, h5⟩ := h
  obtain ⟨ID, rfl⟩ := Int.eq_ofNat_of_zero_le h1
  obtain ⟨L, rfl⟩ := Int.eq_ofNat_of_zero_le h3
  refine ⟨ID, L, rfl, rfl, ?_, by omega, ?_⟩
  · cases x <;> simp at h2 ⊢ <;> omega
  · cases r <;> simp at h5 ⊢ <;> omega

theorem Row.some_ {κ : IntKind} {w : World} {B : Nat} {A : Option Addr} {l : List Int} (h : Row κ w B A l) (hl : 0 < l.length) : ∃ ad, A = some ad := by
  rcases h with rfl | ⟨ad, e, _⟩
  · simp at hl
  · exact ⟨ad, e⟩

theorem flag_inj {a b : Bool} (h : flag a = flag b) : a = b := by cases a <;> cases b <;> first | rfl | (simp [flag] at h)

theorem bitRow_inj {n a b : Nat} (ha : a < 2 ^ n) (hb : b < 2 ^ n) (h : bitRow a n n = bitRow b n n) : a = b := by rw [← numOf_back ha, ← numOf_back hb, h]

theorem rankSS {a b : Nat} {r s : Bool} (ha : a < 2048) (hb : b < 2048) : rankS a r = rankS b s ↔ a = b ∧ r = s := by
  constructor
  · intro h
    unfold rankS at h
    obtain ⟨h1, h2⟩ := List.append_inj h (by simp [bitRow_len])
    refine ⟨bitRow_inj (n := 11) (by omega) (by omega) h1, flag_inj ?_⟩
    simpa using h2
  · rintro ⟨rfl, rfl⟩; rfl

theorem rankXX {a b : Nat} {r s : Bool} (ha : a < 536870912) (hb : b < 536870912) : rankX a r = rankX b s ↔ a = b ∧ r = s := by
  constructor
  · intro h
    unfold rankX at h
    obtain ⟨h1, h2⟩ := List.append_inj h (by simp [bitRow_len])
    obtain ⟨_, h3⟩ := List.append_inj h2 (by simp)
    obtain ⟨h4, h5⟩ := List.append_inj h3 (by simp [bitRow_len])
    have e1 := bitRow_inj (n := 11) (by omega) (by omega) h1
    have e2 := bitRow_inj (n := 18) (Nat.mod_lt _ (by omega)) (Nat.mod_lt _ (by omega)) h4
    exact ⟨by omega, flag_inj (by simpa using h5)⟩
  · rintro ⟨rfl, rfl⟩; rfl

theorem rankX_take (b : Nat) (s : Bool) : (rankX b s).take 13 = bitRow (b / 262144) 11 11 ++ [1, 1] := by
  unfold rankX
  rw [← List.append_assoc, List.take_left' (by simp [bitRow_len])]

theorem rankSX (a b : Nat) (r s : Bool) : rankS a r ≠ (rankX b s).take 13 := by
  rw [rankX_take]
  unfold rankS
  intro h
  obtain ⟨_, h2⟩ := List.append_inj h (by simp [bitRow_len])
  simp at h2

theorem rankSX' (a b : Nat) (r s : Bool) : rankS a r ≠ rankX b s := by
  intro h
  have := congrArg List.length h
  rw [rankS_len, rankX_len] at this
  cases this

theorem headS_rank (a : Nat) (r : Bool) (t : List Int) : (([0] ++ (rankS a r ++ t)).drop 1).take 13 = rankS a r := by
  simp only [List.cons_append, List.nil_append, List.drop_succ_cons, List.drop_zero]
  exact List.take_left' (rankS_len a r)

theorem headX_rank (a : Nat) (r : Bool) (t : List Int) : (([0] ++ (rankX a r ++ t)).drop 1).take 32 = rankX a r := by
  simp only [List.cons_append, List.nil_append, List.drop_succ_cons, List.drop_zero]
  exact List.take_left' (rankX_len a r)

theorem headS_len (a : Nat) (r : Bool) (L : Nat) (dl : List Int) (m M N : Nat) (hm : dl.length = m) (hM : 8 * m = M) (hN : 19 + M = N) : ([0] ++ (rankS a r ++ ([0] ++ (bitRow L 4 4 ++ spreadL dl)))).length = N := by
  simp only [List.length_append, rankS_len, bitRow_len, spreadL_len, List.length_cons, List.length_nil]; omega

theorem headX_len (a : Nat) (r : Bool) (L : Nat) (dl : List Int) (m M N : Nat) (hm : dl.length = m) (hM : 8 * m = M) (hN : 39 + M = N) : ([0] ++ (rankX a r ++ ([0, 0] ++ (bitRow L 4 4 ++ spreadL dl)))).length = N := by
  simp only [List.length_append, rankX_len, bitRow_len, spreadL_len, List.length_cons, List.length_nil]; omega

theorem headV_rank (x : Bool) (ID : Nat) (r : Bool) (L : Nat) (dl : List Int) : ((headV x ID r L dl).drop 1).take (rn x) = rankV x ID r := by
  cases x
  · exact headS_rank ID r _
  · exact headX_rank ID r _

theorem rankV_eq {x x' : Bool} {a b : Nat} {r s : Bool} (ha : idOk x a) (hb : idOk x' b) : rankV x a r = rankV x' b s ↔ x = x' ∧ a = b ∧ r = s := by
  cases x <;> cases x'
  · simpa [rankV] using rankSS ha hb
  · simpa [rankV] using rankSX' a b r s
  · simpa [rankV] using fun e => rankSX' b a s r e.symm
  · simpa [rankV] using rankXX ha hb

theorem rankV_pre {x x' : Bool} {a b : Nat} {r s : Bool} (ha : idOk x a) (hb : idOk x' b) : (rankV x a r).take (min (rn x) (rn x')) = (rankV x' b s).take (min (rn x) (rn x')) ↔ x = x' ∧ a = b ∧ r = s := by
  rw [← rankV_eq ha hb]
  cases x <;> cases x'
  · show (rankS a r).take 13 = (rankS b s).take 13 ↔ rankS a r = rankS b s
    rw [List.take_of_length_le (by rw [rankS_len]; omega), List.take_of_length_le (by rw [rankS_len]; omega)]
  · show (rankS a r).take 13 = (rankX b s).take 13 ↔ rankS a r = rankX b s
    rw [List.take_of_length_le (by rw [rankS_len]; omega)]
    exact ⟨fun e => absurd e (rankSX _ _ _ _), fun e => absurd e (rankSX' _ _ _ _)⟩
  · show (rankX a r).take 13 = (rankS b s).take 13 ↔ rankX a r = rankS b s
    rw [List.take_of_length_le (l := rankS b s) (by rw [rankS_len]; omega)]
    exact ⟨fun e => absurd e.symm (rankSX _ _ _ _), fun e => absurd e.symm (rankSX' _ _ _ _)⟩
  · show (rankX a r).take 32 = (rankX b s).take 32 ↔ rankX a r = rankX b s
    rw [List.take_of_length_le (by rw [rankX_len]; omega), List.take_of_length_le (by rw [rankX_len]; omega)]

theorem row4 (n : Nat) : bitRow n 4 4 = [bitAt n 4 0, bitAt n 4 1, bitAt n 4 2, bitAt n 4 3] := rfl

theorem row11 (n : Nat) : bitRow n 11 11 = [bitAt n 11 0, bitAt n 11 1, bitAt n 11 2, bitAt n 11 3, bitAt n 11 4, bitAt n 11 5, bitAt n 11 6, bitAt n 11 7, bitAt n 11 8, bitAt n 11 9, bitAt n 11 10] := rfl

theorem row18 (n : Nat) : bitRow n 18 18 = [bitAt n 18 0, bitAt n 18 1, bitAt n 18 2, bitAt n 18 3, bitAt n 18 4, bitAt n 18 5, bitAt n 18 6, bitAt n 18 7, bitAt n 18 8, bitAt n 18 9, bitAt n 18 10, bitAt n 18 11, bitAt n 18 12, bitAt n 18 13, bitAt n 18 14, bitAt n 18 15, bitAt n 18 16, bitAt n 18 17] := rfl

theorem flag_one (r : Bool) : decide (flag r = 1) = r := by cases r <;> rfl

/-- What stands where in a short head, whatever follows. -/
structure IsS (l : List Int) (ID : Nat) (r : Bool) (L : Nat) (t : List Int) : Prop where
  g0 : l.getD 0 0 = 0
  n1 : (l.drop 1).take 11 = bitRow ID 11 11
  g12 : l.getD 12 0 = flag r
  g13 : l.getD 13 0 = 0
  g14 : l.getD 14 0 = 0
  n2 : (l.drop 15).take 4 = bitRow L 4 4
  d : l.drop 19 = t
  len : l.length = 19 + t.length

theorem isS (ID : Nat) (r : Bool) (L : Nat) (t : List Int) : IsS ([0] ++ (rankS ID r ++ ([0] ++ (bitRow L 4 4 ++ t)))) ID r L t := by
  unfold rankS
  rw [row11, row4]
  exact ⟨rfl, by rw [row11]; rfl, rfl, rfl, rfl, by rw [row4]; rfl, rfl, by simp; omega⟩

structure IsX (l : List Int) (ID : Nat) (r : Bool) (L : Nat) (t : List Int) : Prop where
  g0 : l.getD 0 0 = 0
  n1 : (l.drop 1).take 11 = bitRow (ID / 262144) 11 11
  g12 : l.getD 12 0 = 1
  g13 : l.getD 13 0 = 1
  n3 : (l.drop 14).take 18 = bitRow (ID % 262144) 18 18
  g32 : l.getD 32 0 = flag r
  g33 : l.getD 33 0 = 0
  g34 : l.getD 34 0 = 0
  n2 : (l.drop 35).take 4 = bitRow L 4 4
  d : l.drop 39 = t
  len : l.length = 39 + t.length

theorem isX (ID : Nat) (r : Bool) (L : Nat) (t : List Int) : IsX ([0] ++ (rankX ID r ++ ([0, 0] ++ (bitRow L 4 4 ++ t)))) ID r L t := by
  unfold rankX
  rw [row11, row18, row4]
  exact ⟨rfl, by rw [row11]; rfl, rfl, rfl, by rw [row18]; rfl, rfl, rfl, rfl, by rw [row4]; rfl, rfl, by simp; omega⟩

theorem num4 {L : Nat} (hL : L ≤ 8) : numOf (bitRow L 4 4) = L := numOf_back (by omega)

/-- The tail of a head, at either place. -/
theorem tail_ok {l : List Int} {k : Nat} {x : Bool} {i : Int} {r : Bool} {L : Nat} {dl more : List Int} (hk : l.getD k 0 = 0) (n2 : (l.drop (k + 1)).take 4 = bitRow L 4 4) (d : l.drop (k + 5) = spreadL dl ++ more) (len : l.length = k + 5 + (spreadL dl ++ more).length)
    (hL : L ≤ 8) (hb : byteB dl) (hd : dl.length = if r then 0 else L) : tailL l ⟨x, i, r, 0, []⟩ k = .ok (⟨x, i, r, L, dl⟩, k + 5 + 8 * dl.length) := by
  have hn : numAt l (k + 1) 4 = (L : Int) := by unfold numAt; rw [n2, num4 hL]
  have hs := spreadL_len dl
  rw [List.length_append, hs] at len
  unfold tailL
  rw [if_neg (by omega), if_neg (by rw [hk]; decide), if_neg (by omega), hn, if_neg (by omega)]
  cases r
  · simp only [Bool.false_eq_true, if_false, Int.toNat_natCast] at hd ⊢
    rw [if_neg (by omega), d, List.take_left' (by rw [hs, hd]), joinL_spread hb, hd]
  · simp only [if_true] at hd ⊢
    obtain rfl := List.eq_nil_of_length_eq_zero hd
    simp

theorem read_head (x : Bool) (ID : Nat) (r : Bool) (L : Nat) (dl more : List Int) (hID : idOk x ID) (hL : L ≤ 8) (hb : byteB dl) (hd : dl.length = if r then 0 else L) :
    readL (headV x ID r L dl ++ more) = .ok (⟨x, ID, r, L, dl⟩, (headV x ID r L dl).length) := by
  rw [headV_len]
  cases x
  · have e : headV false ID r L dl ++ more = [0] ++ (rankS ID r ++ ([0] ++ (bitRow L 4 4 ++ (spreadL dl ++ more)))) := by simp [headV]
    rw [e]
    have I := isS ID r L (spreadL dl ++ more)
    generalize [0] ++ (rankS ID r ++ ([0] ++ (bitRow L 4 4 ++ (spreadL dl ++ more)))) = l at I
    have hl := I.len
    have hid : numAt l 1 11 = (ID : Int) := by unfold numAt; rw [I.n1, numOf_back (show ID < 2 ^ 11 from hID)]
    unfold readL
    rw [if_neg (by omega), if_neg (by rw [I.g0]; decide)]
    unfold namedL
    rw [if_neg (by omega), if_pos I.g13, hid, I.g12, flag_one]
    exact tail_ok (k := 14) I.g14 I.n2 I.d hl hL hb hd
  · have e : headV true ID r L dl ++ more = [0] ++ (rankX ID r ++ ([0, 0] ++ (bitRow L 4 4 ++ (spreadL dl ++ more)))) := by simp [headV]
    rw [e]
    have I := isX ID r L (spreadL dl ++ more)
    generalize [0] ++ (rankX ID r ++ ([0, 0] ++ (bitRow L 4 4 ++ (spreadL dl ++ more)))) = l at I
    have hl := I.len
    have hID' : ID < 536870912 := hID
    have hid : numAt l 1 11 * 262144 + numAt l 14 18 = (ID : Int) := by
      unfold numAt
      rw [I.n1, I.n3, numOf_back (show ID / 262144 < 2 ^ 11 by omega), numOf_back (show ID % 262144 < 2 ^ 18 from Nat.mod_lt _ (by omega))]
      omega
    unfold readL
    rw [if_neg (by omega), if_neg (by rw [I.g0]; decide)]
    unfold namedL
    rw [if_neg (by omega), if_neg (by rw [I.g13]; decide), if_neg (by rw [I.g12]; decide), if_neg (by omega), if_neg (by rw [I.g33]; decide), hid, I.g32, flag_one]
    exact tail_ok (k := 34) I.g34 I.n2 I.d hl hL hb hd

theorem take_getD {l : List Int} {k j : Nat} (h : j < k) : (l.take k).getD j 0 = l.getD j 0 := by
  simp [List.getD, h]

theorem take_num {l : List Int} {k a m : Nat} (h : a + m ≤ k) : ((l.take k).drop a).take m = (l.drop a).take m := by
  rw [List.drop_take, List.take_take, Nat.min_eq_left (by omega)]

theorem tail_cut {l : List Int} {k q : Nat} {x : Bool} {i : Int} {r : Bool} {L : Nat} {dl : List Int} (hk : l.getD k 0 = 0) (n2 : (l.drop (k + 1)).take 4 = bitRow L 4 4)
    (hL : L ≤ 8) (hd : dl.length = if r then 0 else L) (hq : q < k + 5 + 8 * dl.length) (hql : q ≤ l.length) : tailL (l.take q) ⟨x, i, r, 0, []⟩ k = .error 40 := by
  have hlen : (l.take q).length = q := by simp; omega
  unfold tailL
  rw [hlen]
  by_cases h1 : q < k + 1
  · rw [if_pos h1]
  rw [if_neg h1, if_neg (by rw [take_getD (by omega), hk]; decide)]
  by_cases h2 : q < k + 5
  · rw [if_pos h2]
  have hn : numAt (l.take q) (k + 1) 4 = (L : Int) := by unfold numAt; rw [take_num (by omega), n2, num4 hL]
  rw [if_neg h2, hn, if_neg (by omega)]
  cases r
  · simp only [Bool.false_eq_true, if_false, Int.toNat_natCast] at hd ⊢
    rw [if_pos (by omega)]
  · simp only [if_true] at hd
    omega

theorem read_cut (x : Bool) (ID : Nat) (r : Bool) (L : Nat) (dl : List Int) (hL : L ≤ 8) (hd : dl.length = if r then 0 else L) (q : Nat) (hq : q < (headV x ID r L dl).length) :
    readL ((headV x ID r L dl).take q) = .error 40 := by
  have hq' := hq
  rw [headV_len] at hq'
  have hlen : ((headV x ID r L dl).take q).length = q := by simp; omega
  unfold readL
  rw [hlen]
  by_cases h1 : q < 1
  · rw [if_pos h1]
  cases x
  · have I := isS ID r L (spreadL dl)
    change IsS (headV false ID r L dl) ID r L (spreadL dl) at I
    generalize headV false ID r L dl = l at I hq hlen
    change q < 19 + 8 * dl.length at hq'
    rw [if_neg h1, if_neg (by rw [take_getD (by omega), I.g0]; decide)]
    unfold namedL
    rw [hlen]
    by_cases h2 : q < 14
    · rw [if_pos h2]
    rw [if_neg h2, if_pos (by rw [take_getD (by omega), I.g13]), take_getD (show 12 < q by omega), I.g12, flag_one]
    exact tail_cut (k := 14) I.g14 I.n2 hL hd hq' (by omega)
  · have I := isX ID r L (spreadL dl)
    change IsX (headV true ID r L dl) ID r L (spreadL dl) at I
    generalize headV true ID r L dl = l at I hq hlen
    change q < 39 + 8 * dl.length at hq'
    rw [if_neg h1, if_neg (by rw [take_getD (by omega), I.g0]; decide)]
    unfold namedL
    rw [hlen]
    by_cases h2 : q < 14
    · rw [if_pos h2]
    rw [if_neg h2, if_neg (by rw [take_getD (by omega), I.g13]; decide), if_neg (by rw [take_getD (by omega), I.g12]; decide)]
    by_cases h3 : q < 34
    · rw [if_pos h3]
    rw [if_neg h3, if_neg (by rw [take_getD (by omega), I.g33]; decide), take_getD (show 32 < q by omega), I.g32, flag_one]
    exact tail_cut (k := 34) I.g34 I.n2 hL hd hq' (by omega)

theorem read_err {l : List Int} {e : Int} (h : readL l = .error e) : e = 40 ∨ e = 42 ∨ e = 41 := by
  unfold readL at h
  split at h
  · cases h; exact .inl rfl
  split at h
  · cases h; exact .inr (.inl rfl)
  cases hn : namedL l with
  | error e' =>
    rw [hn] at h
    cases h
    unfold namedL at hn
    repeat' split at hn
    all_goals first
      | (cases hn; omega)
      | cases hn
  | ok p =>
    obtain ⟨f, k⟩ := p
    rw [hn] at h
    simp only at h
    unfold tailL at h
    repeat' split at h
    all_goals first
      | (cases h; omega)
      | cases h

theorem cutd (l : List Int) (o a b : Nat) : (l.drop o).take (a + b) = (l.drop o).take a ++ (l.drop (o + a)).take b := by rw [List.take_add, List.drop_drop]

theorem take_1 {l : List Int} {j : Nat} (h : j < l.length) : (l.drop j).take 1 = [l.getD j 0] := by
  rw [List.drop_eq_getElem_cons h, List.take_succ_cons, List.take_zero]; simp [List.getD, List.getElem?_eq_getElem h]

theorem num_lt {l : List Int} (hr : rightB l = true) (a m : Nat) (h : a + m ≤ l.length) : numOf ((l.drop a).take m) < 2 ^ m := by
  have := numOf_lt ((l.drop a).take m) (rightB_take (rightB_drop hr a) m)
  rwa [show ((l.drop a).take m).length = m by simp; omega] at this

theorem back_at {l : List Int} (hr : rightB l = true) (a m : Nat) (h : a + m ≤ l.length) : bitRow (numOf ((l.drop a).take m)) m m = (l.drop a).take m :=
  bitRow_back m _ (by simp; omega) (rightB_take (rightB_drop hr a) m)

theorem flag_of {b : Int} (h : b = 0 ∨ b = 1) : flag (decide (b = 1)) = b := by rcases h with rfl | rfl <;> rfl

/-- What the tail's frame is. -/
theorem tail_back {l : List Int} (hr : rightB l = true) {x : Bool} {i : Int} {r : Bool} {k n : Nat} {f : Fr} (h : tailL l ⟨x, i, r, 0, []⟩ k = .ok (f, n)) :
    ∃ L : Nat, f = ⟨x, i, r, L, f.data⟩ ∧ L ≤ 8 ∧ f.data.length = (if r then 0 else L) ∧ byteB f.data ∧ n = k + 5 + 8 * f.data.length ∧ n ≤ l.length ∧ [0] ++ (bitRow L 4 4 ++ spreadL f.data) = (l.drop k).take (5 + 8 * f.data.length) := by
  unfold tailL at h
  split at h
  · cases h
  rename_i h1
  split at h
  · cases h
  rename_i h2
  split at h
  · cases h
  rename_i h3
  split at h
  · cases h
  rename_i h4
  have hnb := numAt_lt hr (k + 1) 4 (by omega)
  obtain ⟨L, hL⟩ := Int.eq_ofNat_of_zero_le hnb.1
  rw [hL] at h h4
  have e0 : l.getD k 0 = 0 := by omega
  have e4 : bitRow L 4 4 = (l.drop (k + 1)).take 4 := by
    have := back_at hr (k + 1) 4 (by omega)
    unfold numAt at hL
    rw [show numOf ((l.drop (k + 1)).take 4) = L by omega] at this
    exact this
  have key : ∀ s : List Int, ∀ M, s = (l.drop (k + 5)).take M → [0] ++ (bitRow L 4 4 ++ s) = (l.drop k).take (5 + M) := by
    intro s M hs
    rw [show 5 + M = 1 + (4 + M) by omega, cutd, cutd, take_1 (by omega), e0, e4, hs]
  cases r
  · simp only [Bool.false_eq_true, if_false, Int.toNat_natCast] at h
    split at h
    · cases h
    rename_i h5
    cases h
    have hl : ((l.drop (k + 5)).take (8 * L)).length = 8 * L := by simp; omega
    have hj : (joinL ((l.drop (k + 5)).take (8 * L))).length = L := by rw [joinL_len, hl]; omega
    refine ⟨L, rfl, by omega, ?_, joinL_byte (rightB_take (rightB_drop hr _) _), ?_, ?_, ?_⟩
    · simp only [Bool.false_eq_true, if_false]; exact hj
    · simp only [hj]
    · omega
    · simp only [hj]
      exact key _ _ (spread_joinL L _ hl (rightB_take (rightB_drop hr _) _))
  · simp only [if_true] at h
    cases h
    exact ⟨L, rfl, by omega, rfl, byte_nil, rfl, by omega, key [] 0 (by simp)⟩

theorem read_back {l : List Int} (hr : rightB l = true) {f : Fr} {n : Nat} (h : readL l = .ok (f, n)) :
    ∃ ID L : Nat, f = ⟨f.ext, ID, f.rem, L, f.data⟩ ∧ idOk f.ext ID ∧ L ≤ 8 ∧ f.data.length = (if f.rem then 0 else L) ∧ byteB f.data ∧ n ≤ l.length ∧ headV f.ext ID f.rem L f.data = l.take n ∧ n = hn f.ext + 8 * f.data.length := by
  unfold readL at h
  split at h
  · cases h
  rename_i h1
  split at h
  · cases h
  rename_i h2
  have e0 : l.getD 0 0 = 0 := by omega
  unfold namedL at h
  by_cases c1 : l.length < 14
  · rw [if_pos c1] at h; cases h
  rw [if_neg c1] at h
  have eU : bitRow (numOf ((l.drop 1).take 11)) 11 11 = (l.drop 1).take 11 := back_at hr 1 11 (by omega)
  have bU : numOf ((l.drop 1).take 11) < 2048 := num_lt hr 1 11 (by omega)
  by_cases c2 : l.getD 13 0 = 0
  · rw [if_pos c2] at h
    simp only at h
    obtain ⟨L, hf, hL, hd, hb, hn', hnl, hk⟩ := tail_back hr h
    rw [hf] at hd hb ⊢
    simp only at hd hb ⊢
    refine ⟨numOf ((l.drop 1).take 11), L, rfl, ?_, hL, hd, hb, hnl, ?_, ?_⟩
    · exact bU
    · simp only [headV, Bool.false_eq_true, if_false, rankS]
      rw [hn', show 14 + 5 + 8 * f.data.length = 1 + (11 + (1 + (1 + (5 + 8 * f.data.length)))) by omega]
      have := cutd l 0 1 (11 + (1 + (1 + (5 + 8 * f.data.length))))
      rw [List.drop_zero] at this
      rw [this, cutd, cutd, cutd, ← hk, eU, take_1 (by omega), take_1 (by omega), flag_of (getD_01 hr 12), c2]
      have t0 := take_1 (l := l) (j := 0) (by omega)
      rw [List.drop_zero] at t0
      rw [t0, e0]
      simp
    · rw [hn']; simp [hn]
  · rw [if_neg c2] at h
    have b13 := getD_01 hr 13
    have e13 : l.getD 13 0 = 1 := by omega
    by_cases c3 : l.getD 12 0 ≠ 1
    · rw [if_pos c3] at h; cases h
    rw [if_neg c3] at h
    have e12 : l.getD 12 0 = 1 := by omega
    by_cases c4 : l.length < 34
    · rw [if_pos c4] at h; cases h
    rw [if_neg c4] at h
    by_cases c5 : l.getD 33 0 ≠ 0
    · rw [if_pos c5] at h; cases h
    rw [if_neg c5] at h
    have e33 : l.getD 33 0 = 0 := by omega
    have eV : bitRow (numOf ((l.drop 14).take 18)) 18 18 = (l.drop 14).take 18 := back_at hr 14 18 (by omega)
    have bV : numOf ((l.drop 14).take 18) < 262144 := num_lt hr 14 18 (by omega)
    simp only at h
    obtain ⟨L, hf, hL, hd, hb, hn', hnl, hk⟩ := tail_back hr h
    rw [hf] at hd hb ⊢
    simp only at hd hb ⊢
    refine ⟨numOf ((l.drop 1).take 11) * 262144 + numOf ((l.drop 14).take 18), L, by simp [numAt], ?_, hL, hd, hb, hnl, ?_, ?_⟩
    · show _ < 536870912; omega
    · simp only [headV, if_true, rankX]
      rw [show (numOf ((l.drop 1).take 11) * 262144 + numOf ((l.drop 14).take 18)) / 262144 = numOf ((l.drop 1).take 11) by omega, show (numOf ((l.drop 1).take 11) * 262144 + numOf ((l.drop 14).take 18)) % 262144 = numOf ((l.drop 14).take 18) by omega]
      rw [hn', show 34 + 5 + 8 * f.data.length = 1 + (11 + (1 + (1 + (18 + (1 + (1 + (5 + 8 * f.data.length))))))) by omega]
      have := cutd l 0 1 (11 + (1 + (1 + (18 + (1 + (1 + (5 + 8 * f.data.length)))))))
      rw [List.drop_zero] at this
      rw [this, cutd, cutd, cutd, cutd, cutd, cutd, ← hk, eU, eV, take_1 (by omega), take_1 (by omega), take_1 (by omega), take_1 (by omega), flag_of (getD_01 hr 32), e33, e12, e13]
      have t0 := take_1 (l := l) (j := 0) (by omega)
      rw [List.drop_zero] at t0
      rw [t0, e0]
      simp
    · rw [hn']; simp [hn]

set_option maxRecDepth 100000 in
set_option maxHeartbeats 1000000 in
theorem refPut_yes (num many : Nat) (hm : many ≤ 32) (hnum : num < 2 ^ many) (w : World) :
    Calls Try.prog 75 #[.int .i64 num, .int .i64 many] w fun e W' => ∃ A c, e = .returned (.tuple #[.slice A many c, .bool true]) ∧ W'.ownsRow w.heap.size 3 1 (.slice A many c) many ((bitRow num many many).map (Value.int .i64)) ∧ Below w.heap.size w W' := by
  obtain ⟨i0, hi, hz0, hz1, hz2⟩ := info_parts Try.infoInt
  have d1 : decide ((many : Int) < 0) = false := by simp
  have d2 : decide (32 < (many : Int)) = false := by simp; omega
  have d3 : decide ((num : Int) < 0) = false := by simp
  have d4 : decide (wrap64 (2 ^ many) ≤ (num : Int)) = false := by
    rw [wrap_pow many hm]; simp; exact_mod_cast hnum
  have hn62 : num < 4611686018427387904 := by
    have := Nat.pow_le_pow_right (n := 2) (by omega) hm
    omega
  clear hnum
  go_enter Try.func75, Try.ntmps75
  go_wp2_with fail
  go_loopw [6, 7] (fun o i wr => ∃ (k : Nat) (A : Option Addr) (c : Nat), k ≤ many ∧ i = .int .i64 ((many : Int) - 1 - k) ∧ o = .slice A k c ∧ wr.ownsRow w.heap.size 3 1 (.slice A k c) k ((bitRow num many k).map (Value.int .i64)) ∧ Below w.heap.size w wr)
    (fun _ i _ => (intOf i + 1).toNat)
  case atStart => exact ⟨0, none, 0, Nat.zero_le _, by simp, rfl, World.ownsRow_nil _ _ _ _, Below.refl _ _⟩
  case round =>
    obtain ⟨k, A, c, hk, rfl, rfl, hown, hB⟩ := hrel
    by_cases hlt : k < many
    · have hx : bits .and .i64 ((num : Int) / 2 ^ (many - 1 - k)) 1 = bitAt num many k := bits_one num (many - 1 - k) hn62
      have Hr := Lib.hid (bitRow_succ num many k)
      go_wp2_with (at_builtin; refine wpList_append_row _ .i64 rfl _ _ 50 rfl w.heap.size 3 i0 (.int .i64 0) 8 Try.underlying50 hi hz0 hz1 hz2 rfl _ k (bitRow num many k) rfl (hown.alloc _) (some ⟨wr.heap.size, 0, none⟩) 1 1 _ [bitAt num many k] rfl rfl (Row.lit wr .i64 [bitAt num many k] 3 rfl) (by unfold maxLen; omega) (by omega) (by have := hB.size; simp; omega) ?_; intro A' c' w1 hown1 hc1 hB1)
      have hBB : Below w.heap.size w w1 := (hB.alloc hB.size _).trans hB1
      exact ⟨⟨k + 1, A', c', by omega, by go_num, rfl, by rw [Hr.out]; exact hown1, hBB⟩, by simp [intOf]; omega⟩
    · obtain rfl : k = many := by omega
      go_wp2
      go_ret2
      exact ⟨A, c, rfl, hown, hB⟩

set_option maxHeartbeats 1000000 in
theorem refPut_no (num many : Int) (h : ¬ PutOk num many) (w : World) :
    Calls Try.prog 75 #[.int .i64 num, .int .i64 many] w fun e w' => e = .returned (.tuple #[.slice none 0 0, .bool false]) ∧ w = w' := by
  by_cases h1 : many < 0
  · have d1 : decide (many < 0) = true := by simp; omega
    clear h
    go_enter Try.func75, Try.ntmps75
    go_wp2
    go_ret2
    exact ⟨rfl, rfl⟩
  · obtain ⟨m, rfl⟩ := Int.eq_ofNat_of_zero_le (Int.not_lt.1 h1)
    have d1 : decide ((m : Int) < 0) = false := by simp
    by_cases h2 : 32 < m
    · have d2 : decide (32 < (m : Int)) = true := by simp; omega
      clear h
      go_enter Try.func75, Try.ntmps75
      go_wp2
      go_ret2
      exact ⟨rfl, rfl⟩
    · have d2 : decide (32 < (m : Int)) = false := by simp; omega
      by_cases h3 : num < 0
      · have d3 : decide (num < 0) = true := by simp; omega
        clear h
        go_enter Try.func75, Try.ntmps75
        go_wp2
        go_ret2
        exact ⟨rfl, rfl⟩
      · have d3 : decide (num < 0) = false := by simp; omega
        have d4 : decide (wrap64 (2 ^ m) ≤ num) = true := by
          rw [wrap_pow m (by omega)]
          have e : ((2 : Int) ^ m) = ((2 ^ m : Nat) : Int) := by simp
          unfold PutOk at h
          rw [Int.toNat_natCast, e] at h
          simp only [decide_eq_true_eq]
          omega
        clear h
        go_enter Try.func75, Try.ntmps75
        go_wp2
        go_ret2
        exact ⟨rfl, rfl⟩

theorem refPut_at (n m : Int) (num many : Nat) (hn : n = num) (hm' : m = many) (hm : many ≤ 32) (hnum : num < 2 ^ many) (w : World) :
    Calls Try.prog 75 #[.int .i64 n, .int .i64 m] w fun e W' => ∃ A c, e = .returned (.tuple #[.slice A many c, .bool true]) ∧ Row .i64 W' W'.heap.size A (bitRow num many many) ∧ Below w.heap.size w W' := by
  subst hn hm'
  exact (refPut_yes num many hm hnum w).mono fun e W' ⟨A, c, h1, h2, h3⟩ => ⟨A, c, h1, Row.own h2, h3⟩

theorem rightV_of (x : Bool) (ID : Nat) (r : Bool) (L m : Nat) (hID : idOk x ID) (hL : L ≤ 8) (hm : m = if r then 0 else L) : rightV x ID r L m = true := by
  unfold rightV idOk at *
  rw [decide_eq_true_eq]
  refine ⟨by omega, ?_, by omega, by omega, ?_⟩
  · cases x <;> simp at hID ⊢ <;> omega
  · cases r <;> simp at hm ⊢ <;> omega

theorem sameV_self (x : Bool) (i : Int) (r : Bool) (n : Int) (a : List Int) : sameV x i r n a x i r n a = true := by simp [sameV]

theorem headV_right (x : Bool) (ID : Nat) (r : Bool) (L : Nat) (dl : List Int) : rightB (headV x ID r L dl) = true := by
  have hf : ∀ b, rightB [flag b] = true := by decide
  cases x
  · simp only [headV, Bool.false_eq_true, if_false, rankS, rightB_append, bitRow_right, spreadL_right]
    cases r <;> decide
  · simp only [headV, if_true, rankX, rightB_append, bitRow_right, spreadL_right]
    cases r <;> decide

/-- What stands ahead of the count of bytes. -/
def preV (x : Bool) (ID : Nat) (r : Bool) : List Int := if x then [0] ++ (rankX ID r ++ [0, 0]) else [0] ++ (rankS ID r ++ [0])

theorem preV_len (x : Bool) (ID : Nat) (r : Bool) : (preV x ID r).length + 4 = hn x := by
  cases x <;> simp [preV, hn, rankS_len, rankX_len]

theorem headV_split (x : Bool) (ID : Nat) (r : Bool) (L : Nat) (dl : List Int) : headV x ID r L dl = preV x ID r ++ (bitRow L 4 4 ++ spreadL dl) := by
  cases x <;> simp [preV, headV]

theorem headV_front (x : Bool) (ID : Nat) (r : Bool) (L : Nat) (dl : List Int) {k : Nat} (hk : k + 4 = hn x) : (headV x ID r L dl).take k = preV x ID r := by
  rw [headV_split]
  exact List.take_left' (by have := preV_len x ID r; omega)

theorem headV_all (x : Bool) (ID : Nat) (r : Bool) (L : Nat) (dl : List Int) {k : Nat} (hk : k = hn x) : (headV x ID r L dl).take k = preV x ID r ++ bitRow L 4 4 := by
  rw [headV_split, ← List.append_assoc]
  exact List.take_left' (by have := preV_len x ID r; rw [List.length_append, bitRow_len]; omega)

theorem headV_data (x : Bool) (ID : Nat) (r : Bool) (L : Nat) (dl : List Int) {k : Nat} (hk : k = hn x) : (headV x ID r L dl).drop k = spreadL dl := by
  rw [headV_split, ← List.append_assoc]
  exact List.drop_left' (by have := preV_len x ID r; rw [List.length_append, bitRow_len]; omega)

theorem spreadL_app (a b : List Int) : spreadL (a ++ b) = spreadL a ++ spreadL b := by simp [spreadL]

theorem sameBytes_q (a b : List Int) (n m : Nat) (hn : a.length = n) (hm : b.length = m) (A A' : Option Addr) (c c' : Nat) (w : World) (h : Row .u8 w w.heap.size A a) (h' : Row .u8 w w.heap.size A' b) (ha : byteB a) (hb : byteB b) (q : Bool) (hq : sameB a b = q) :
    Calls Try.prog 53 #[.slice A n c, .slice A' m c'] w fun e w' => e = .returned (.bool q) ∧ Below w.heap.size w w' := by
  subst hq
  refine (sameBytes_at a b n m hn hm A A' c c' _ _ w h h' ha hb).mono ?_
  rintro e w' ⟨rfl, rfl⟩
  exact ⟨rfl, Below.refl _ _⟩

theorem byteB_take {l : List Int} (h : byteB l) (k : Nat) : byteB (l.take k) := fun x hx => h x (List.mem_of_mem_take hx)

theorem bits_11 : bitRow 3 2 2 = [1, 1] := by decide

theorem bits_0 : bitRow 0 1 1 = [0] := by decide

theorem bits_f (r : Bool) : bitRow (flag r).toNat 1 1 = [flag r] := by cases r <;> decide

set_option maxRecDepth 100000 in
set_option maxHeartbeats 2000000 in
theorem refFrPut_at (l : List Int) (k : Nat) (hk : l.length = k) (A : Option Addr) (c : Nat) (n : Int) (num many : Nat) (hn : n = num) (hm : many ≤ 32) (hnum : num < 2 ^ many) (hk2 : k ≤ 1000) (w : World) (h : Row .i64 w w.heap.size A l) (s : Nat) (hs : k + many = s) :
    Calls Try.prog 57 #[.slice A k c, .int .i64 n, .int .i64 many] w fun e w' => ∃ A' c', e = .returned (.slice A' s c') ∧ Row .i64 w' w'.heap.size A' (l ++ bitRow num many many) ∧ s ≤ c' ∧ Below w.heap.size w w' := by
  obtain ⟨i0, hi, hz0, hz1, hz2⟩ := info_parts Try.infoInt
  subst hn hs
  have HK := Lib.hid hk
  have HN := Lib.hid hnum
  clear hk hnum
  go_enter Try.func57, Try.ntmps57
  go_wp2_with fail
  refine (refPut_at _ _ num many rfl rfl hm HN.out w).mono ?_
  rintro e w1 ⟨A1, c1, rfl, hr1, hB1⟩
  have hl1 := h.to hB1
  have o2 := own_lit w1 .i64 [] 0 rfl 3 (cs := #[]) rfl (by decide)
  have r2 := hl1.to (below_alloc1 w1 (.cells #[] 3))
  have s2 := hr1.to (below_alloc1 w1 (.cells #[] 3))
  go_wp2_with (first
    | (at_builtin; have hq_ := hown3; clear hq_; refine wpList_append_row _ .i64 rfl _ _ 50 rfl w1.heap.size 3 i0 (.int .i64 0) 8 Try.underlying50 hi hz0 hz1 hz2 rfl _ k l rfl hown3 A1 many c1 _ (bitRow num many many) rfl (bitRow_len _ _ _) hr3 (by unfold maxLen; omega) (by omega) hs3 ?_; intro A4 c4 w4 hown4 hc4 hB4)
    | (at_builtin; refine wpList_append_row _ .i64 rfl _ _ 50 rfl w1.heap.size 3 i0 (.int .i64 0) 8 Try.underlying50 hi hz0 hz1 hz2 rfl _ 0 [] rfl o2 A k c _ l rfl HK.out r2 (by unfold maxLen; omega) (by omega) (by simp) ?_; intro A3 c3 w3 hown3 hc3 hB3; rw [Nat.zero_add, List.nil_append] at hown3; have hs3 : w1.heap.size ≤ w3.heap.size := (by have := hB3.size; simp at this; omega); have hr3 : Row .i64 w3 w1.heap.size A1 (bitRow num many many) := (hr1.below (below_alloc1 w1 (.cells #[] 3))).below hB3))
  go_ret
  exact ⟨A4, c4, rfl, Row.own hown4, hc4, hB1.trans ((((below_alloc1 w1 _).trans hB3).trans hB4).mono hB1.size)⟩

set_option maxRecDepth 100000 in
set_option maxHeartbeats 4000000 in
theorem refRankS_at (ID : Nat) (r : Bool) (n : Int) (A : Option Addr) (m c : Nat) (hID : ID < 2048) (w : World) :
    Calls Try.prog 33 #[.agg #[.bool false, .int .i64 ID, .bool r, .int .i64 n, .slice A m c]] w fun e w' => ∃ A' c', e = .returned (.slice A' 13 c') ∧ Row .i64 w' w'.heap.size A' (rankS ID r) ∧ 13 ≤ c' ∧ Below w.heap.size w w' := by
  obtain ⟨w0, hw0⟩ : ∃ w0, w.alloc (.cells #[.bool false, .int .i64 ID, .bool r, .int .i64 n, .slice A m c] 30) = w0 := ⟨_, rfl⟩
  have hB0 := below_lits hw0
  have hF0 : w0.heap[w.heap.size]? = some (.cells #[.bool false, .int .i64 ID, .bool r, .int .i64 n, .slice A m c] 30) := by rw [← hw0]; exact World.alloc_heap_new _ _
  have HW := Lib.hid hw0
  have hfl : flag r = ((flag r).toNat : Int) := by cases r <;> rfl
  have hfb : (flag r).toNat < 2 ^ 1 := by cases r <;> decide
  have HFl := Lib.hid hfl
  clear hw0 hfl
  go_enter Try.func33, Try.ntmps33
  go_wp2_with fail
  rw [HW.out]
  clear HW
  go_region_held3 (fun W => W.cell? ⟨w.heap.size, 0, none⟩ = some (.bool false) ∧ W.cell? ⟨w.heap.size, 1, none⟩ = some (.int .i64 ID) ∧ W.cell? ⟨w.heap.size, 2, none⟩ = some (.bool r) ∧ W.cell? ⟨w.heap.size, 3, none⟩ = some (.int .i64 n) ∧ W.cell? ⟨w.heap.size, 4, none⟩ = some (.slice A m c))
    (exact cells5' (by repeat (first | assumption | exact Below.refl _ _ | ((with_reducible refine lit2 _ _ _ _ _ ?_); (first | (with_reducible rfl) | (simp; done))) | ((with_reducible refine lit1 _ _ _ _ ?_); (first | (with_reducible rfl) | (simp; done))) | refine row_step (by first | assumption | exact below_alloc1 _ _ | exact below_drew1 _ | exact below_drewN0 _ _) ?_ | refine block_below (by first | assumption | exact below_alloc1 _ _ | exact below_drew1 _ | exact below_drewN0 _ _) ?_ | refine below_then ?_ (by first | assumption | exact below_alloc1 _ _ | exact below_drew1 _ | exact below_drewN0 _ _))))
    (first
      | (go_at_call 57; have hq_ := hr4; clear hq_; refine (refFrPut_at (bitRow ID 11 11 ++ bitRow (flag r).toNat 1 1) 12 (by rw [List.length_append, bitRow_len, bitRow_len]) A4 c4 0 0 1 rfl (by omega) (by omega) (by omega) _ (by repeat (first | assumption | exact Below.refl _ _ | ((with_reducible refine lit2 _ _ _ _ _ ?_); (first | (with_reducible rfl) | (simp; done))) | ((with_reducible refine lit1 _ _ _ _ ?_); (first | (with_reducible rfl) | (simp; done))) | refine row_step (by first | assumption | exact below_alloc1 _ _ | exact below_drew1 _ | exact below_drewN0 _ _) ?_ | refine block_below (by first | assumption | exact below_alloc1 _ _ | exact below_drew1 _ | exact below_drewN0 _ _) ?_ | refine below_then ?_ (by first | assumption | exact below_alloc1 _ _ | exact below_drew1 _ | exact below_drewN0 _ _))) 13 rfl).mono ?_; rintro e w5 ⟨A5, c5, rfl, hr5, hc5, hB5⟩)
      | (go_at_call 57; have hq_ := hB3; clear hq_; refine (refFrPut_at (bitRow ID 11 11) 11 (bitRow_len _ _ _) A2 c2 (flag r) (flag r).toNat 1 HFl.out (by omega) hfb (by omega) _ (by repeat (first | assumption | exact Below.refl _ _ | ((with_reducible refine lit2 _ _ _ _ _ ?_); (first | (with_reducible rfl) | (simp; done))) | ((with_reducible refine lit1 _ _ _ _ ?_); (first | (with_reducible rfl) | (simp; done))) | refine row_step (by first | assumption | exact below_alloc1 _ _ | exact below_drew1 _ | exact below_drewN0 _ _) ?_ | refine block_below (by first | assumption | exact below_alloc1 _ _ | exact below_drew1 _ | exact below_drewN0 _ _) ?_ | refine below_then ?_ (by first | assumption | exact below_alloc1 _ _ | exact below_drew1 _ | exact below_drewN0 _ _))) 12 rfl).mono ?_; rintro e w4 ⟨A4, c4, rfl, hr4, hc4, hB4⟩)
      | (go_at_call 57; refine (refFrPut_at [] 0 rfl none 0 (ID : Int) ID 11 rfl (by omega) (by omega) (by omega) _ (.inl rfl) 11 rfl).mono ?_; rintro e w2 ⟨A2, c2, rfl, hr2, hc2, hB2⟩; rw [List.nil_append] at hr2)
      | (go_at_call 58; refine (remote_at false ID r n A m c _).mono ?_; rintro e w3 ⟨rfl, hB3⟩))
  all_goals
    go_wp2_with fail
    go_ret
    refine ⟨A5, c5, rfl, ?_, hc5, by repeat (first | assumption | exact Below.refl _ _ | ((with_reducible refine lit2 _ _ _ _ _ ?_); (first | (with_reducible rfl) | (simp; done))) | ((with_reducible refine lit1 _ _ _ _ ?_); (first | (with_reducible rfl) | (simp; done))) | refine row_step (by first | assumption | exact below_alloc1 _ _ | exact below_drew1 _ | exact below_drewN0 _ _) ?_ | refine block_below (by first | assumption | exact below_alloc1 _ _ | exact below_drew1 _ | exact below_drewN0 _ _) ?_ | refine below_then ?_ (by first | assumption | exact below_alloc1 _ _ | exact below_drew1 _ | exact below_drewN0 _ _))⟩
    unfold rankS
    rw [bits_f, bits_0, List.append_assoc] at hr5
    exact hr5

set_option maxRecDepth 100000 in
set_option maxHeartbeats 4000000 in
theorem refRankX_at (ID : Nat) (r : Bool) (n : Int) (A : Option Addr) (m c : Nat) (hID : ID < 536870912) (w : World) :
    Calls Try.prog 33 #[.agg #[.bool true, .int .i64 ID, .bool r, .int .i64 n, .slice A m c]] w fun e w' => ∃ A' c', e = .returned (.slice A' 32 c') ∧ Row .i64 w' w'.heap.size A' (rankX ID r) ∧ 32 ≤ c' ∧ Below w.heap.size w w' := by
  obtain ⟨w0, hw0⟩ : ∃ w0, w.alloc (.cells #[.bool true, .int .i64 ID, .bool r, .int .i64 n, .slice A m c] 30) = w0 := ⟨_, rfl⟩
  have hB0 := below_lits hw0
  have hF0 : w0.heap[w.heap.size]? = some (.cells #[.bool true, .int .i64 ID, .bool r, .int .i64 n, .slice A m c] 30) := by rw [← hw0]; exact World.alloc_heap_new _ _
  have HW := Lib.hid hw0
  have hfl : flag r = ((flag r).toNat : Int) := by cases r <;> rfl
  have hfb : (flag r).toNat < 2 ^ 1 := by cases r <;> decide
  have HFl := Lib.hid hfl
  obtain ⟨V, hV⟩ : ∃ V, ID % 262144 = V := ⟨_, rfl⟩
  obtain ⟨U, hU⟩ : ∃ U, ID / 262144 = U := ⟨_, rfl⟩
  have hsh : (ID : Int) / 262144 = (U : Int) := by omega
  have hsh2 : (ID : Int) / 2 ^ 18 = (U : Int) := hsh
  have hmd : (ID : Int) % 262144 = (V : Int) := by omega
  have htm : Int.tmod (ID : Int) 262144 = (V : Int) := by rw [Int.tmod_eq_emod_of_nonneg (by omega)]; exact hmd
  have hUb : U < 2 ^ 11 := by omega
  have hVb : V < 2 ^ 18 := by omega
  have HV := Lib.hid hV
  have HU := Lib.hid hU
  clear hw0 hfl hV hU
  go_enter Try.func33, Try.ntmps33
  go_wp2_with fail
  rw [HW.out]
  clear HW
  go_region_held3 (fun W => W.cell? ⟨w.heap.size, 0, none⟩ = some (.bool true) ∧ W.cell? ⟨w.heap.size, 1, none⟩ = some (.int .i64 ID) ∧ W.cell? ⟨w.heap.size, 2, none⟩ = some (.bool r) ∧ W.cell? ⟨w.heap.size, 3, none⟩ = some (.int .i64 n) ∧ W.cell? ⟨w.heap.size, 4, none⟩ = some (.slice A m c))
    (exact cells5' (by repeat (first | assumption | exact Below.refl _ _ | ((with_reducible refine lit2 _ _ _ _ _ ?_); (first | (with_reducible rfl) | (simp; done))) | ((with_reducible refine lit1 _ _ _ _ ?_); (first | (with_reducible rfl) | (simp; done))) | refine row_step (by first | assumption | exact below_alloc1 _ _ | exact below_drew1 _ | exact below_drewN0 _ _) ?_ | refine block_below (by first | assumption | exact below_alloc1 _ _ | exact below_drew1 _ | exact below_drewN0 _ _) ?_ | refine below_then ?_ (by first | assumption | exact below_alloc1 _ _ | exact below_drew1 _ | exact below_drewN0 _ _))))
    (first
      | (go_at_call 57; have hq_ := hB5; clear hq_; refine (refFrPut_at (bitRow U 11 11 ++ bitRow 3 2 2 ++ bitRow V 18 18) 31 (by simp only [List.length_append, bitRow_len]) A4 c4 (flag r) (flag r).toNat 1 HFl.out (by omega) hfb (by omega) _ (by repeat (first | assumption | exact Below.refl _ _ | ((with_reducible refine lit2 _ _ _ _ _ ?_); (first | (with_reducible rfl) | (simp; done))) | ((with_reducible refine lit1 _ _ _ _ ?_); (first | (with_reducible rfl) | (simp; done))) | refine row_step (by first | assumption | exact below_alloc1 _ _ | exact below_drew1 _ | exact below_drewN0 _ _) ?_ | refine block_below (by first | assumption | exact below_alloc1 _ _ | exact below_drew1 _ | exact below_drewN0 _ _) ?_ | refine below_then ?_ (by first | assumption | exact below_alloc1 _ _ | exact below_drew1 _ | exact below_drewN0 _ _))) 32 rfl).mono ?_; rintro e w6 ⟨A6, c6, rfl, hr6, hc6, hB6⟩)
      | (go_at_call 57; have hq_ := hr3; clear hq_; refine (refFrPut_at (bitRow U 11 11 ++ bitRow 3 2 2) 13 (by simp only [List.length_append, bitRow_len]) A3 c3 (V : Int) V 18 rfl (by omega) hVb (by omega) _ (by repeat (first | assumption | exact Below.refl _ _ | ((with_reducible refine lit2 _ _ _ _ _ ?_); (first | (with_reducible rfl) | (simp; done))) | ((with_reducible refine lit1 _ _ _ _ ?_); (first | (with_reducible rfl) | (simp; done))) | refine row_step (by first | assumption | exact below_alloc1 _ _ | exact below_drew1 _ | exact below_drewN0 _ _) ?_ | refine block_below (by first | assumption | exact below_alloc1 _ _ | exact below_drew1 _ | exact below_drewN0 _ _) ?_ | refine below_then ?_ (by first | assumption | exact below_alloc1 _ _ | exact below_drew1 _ | exact below_drewN0 _ _))) 31 rfl).mono ?_; rintro e w4 ⟨A4, c4, rfl, hr4, hc4, hB4⟩)
      | (go_at_call 57; have hq_ := hr2; clear hq_; refine (refFrPut_at (bitRow U 11 11) 11 (bitRow_len _ _ _) A2 c2 3 3 2 rfl (by omega) (by omega) (by omega) _ (by repeat (first | assumption | exact Below.refl _ _ | ((with_reducible refine lit2 _ _ _ _ _ ?_); (first | (with_reducible rfl) | (simp; done))) | ((with_reducible refine lit1 _ _ _ _ ?_); (first | (with_reducible rfl) | (simp; done))) | refine row_step (by first | assumption | exact below_alloc1 _ _ | exact below_drew1 _ | exact below_drewN0 _ _) ?_ | refine block_below (by first | assumption | exact below_alloc1 _ _ | exact below_drew1 _ | exact below_drewN0 _ _) ?_ | refine below_then ?_ (by first | assumption | exact below_alloc1 _ _ | exact below_drew1 _ | exact below_drewN0 _ _))) 13 rfl).mono ?_; rintro e w3 ⟨A3, c3, rfl, hr3, hc3, hB3⟩)
      | (go_at_call 57; refine (refFrPut_at [] 0 rfl none 0 (U : Int) U 11 rfl (by omega) hUb (by omega) _ (.inl rfl) 11 rfl).mono ?_; rintro e w2 ⟨A2, c2, rfl, hr2, hc2, hB2⟩; rw [List.nil_append] at hr2)
      | (go_at_call 58; refine (remote_at true ID r n A m c _).mono ?_; rintro e w5 ⟨rfl, hB5⟩))
  all_goals
    go_wp2_with fail
    go_ret
    refine ⟨A6, c6, rfl, ?_, hc6, by repeat (first | assumption | exact Below.refl _ _ | ((with_reducible refine lit2 _ _ _ _ _ ?_); (first | (with_reducible rfl) | (simp; done))) | ((with_reducible refine lit1 _ _ _ _ ?_); (first | (with_reducible rfl) | (simp; done))) | refine row_step (by first | assumption | exact below_alloc1 _ _ | exact below_drew1 _ | exact below_drewN0 _ _) ?_ | refine block_below (by first | assumption | exact below_alloc1 _ _ | exact below_drew1 _ | exact below_drewN0 _ _) ?_ | refine below_then ?_ (by first | assumption | exact below_alloc1 _ _ | exact below_drew1 _ | exact below_drewN0 _ _))⟩
    unfold rankX
    rw [HU.out, HV.out]
    rw [bits_f, bits_11, List.append_assoc, List.append_assoc] at hr6
    exact hr6

/-- An append of some numbers onto a slice without room, as one step of a drawn region: a new row; nothing old is turned. -/
theorem step_append_new {w : World} {ops : Array Oper} {o : Oper} {a : Act} {K : Act → World → Prop} {Q : Exit → Act → World → Prop} {E : Prop} (hgd : o.guard = none) (s x : Operand)
    (ho : o.op = .call { callee := .builtin .append, args := #[s, x], argTypes := #[50, 50] })
    (i0 : TypeInfo) (hi : Try.prog.info? 3 = some i0) (hz : i0.zero = some (.int .i64 0)) (hsize : i0.size = 1) (hby : i0.bytes = 8)
    (b : Addr) (hs : a.eval s = .slice (some b) 0 0)
    (A : Option Addr) (m c : Nat) (l' : List Int) (hx : a.eval x = .slice A m c) (hm : l'.length = m) (hr : Row .i64 w w.heap.size A l') (h0 : 0 < m) (hmb : m ≤ 100000)
    (h : ∀ A' c' w', w'.ownsRow w.heap.size 3 1 (.slice A' m c') m (l'.map (Value.int .i64)) → Below w.heap.size w w' → K (a.put o.dst (.slice A' m c')) w') :
    if Region.wanted o (yielded ops a.tmps) = true then Oper.wp Try.prog o a w K Q else E := by
  obtain ⟨ad, rfl⟩ : ∃ ad, A = some ad := hr.some_ (by omega)
  have hcells : ∀ j u, (l'.map (Value.int .i64))[j]? = some u → w.cell? (ad.add j) = some u := by
    intro j u hu
    rw [List.getElem?_map, Option.map_eq_some_iff] at hu
    obtain ⟨y, hy, rfl⟩ := hu
    rcases hr with rfl | ⟨ad', e', _, hc⟩
    · simp at hy
    · cases e'; exact hc j y hy
  have hge := grownCap_ge w (0 + m) 0 3
  have hcm : grownCap w (0 + m) 0 3 ≤ maxLen := grownCap_le_maxLen w (0 + m) 0 3 (by unfold maxLen; omega)
  have hrun := fun ty => run_append_grow (P := Try.prog) (w := w) 50 ty 3 i0 (.int .i64 0) Try.underlying50 hi hz b 0 0 [] (by simp) (by simp) ad m c (l'.map (Value.int .i64)) (by simp [hsize, hm]) hcells (by omega) (by omega) (by rw [hby, Nat.zero_add, nextslicecap_zero h0]; omega)
  have hw : Region.wanted o (yielded ops a.tmps) = true := by simp [Region.wanted, hgd]
  rw [if_pos hw]
  unfold Oper.wp execOp
  simp only [ho, resolve, invoke, builtin, Sem.run_bind, Sem.run_pure, Result.andThen_ok, List.map_toArray, List.map_cons, List.map_nil, hs, hx, hrun]
  rw [Nat.zero_add] at hge hcm ⊢
  refine h _ _ _ ⟨by simp [hm], .inr ⟨w.heap.size, _, _, rfl, Nat.le_refl _, World.alloc_heap_new w.drew _, hge, hcm, ?_, ?_⟩⟩ ((below_drew1 w).trans ((below_alloc1 w.drew _)))
  · rw [Array.size_append, Array.size_append, size_zeroCells, show (Value.int IntKind.i64 0).cells.size = 1 from rfl]; simp [hm]; omega
  · simp [hm]

end Go.Proofs.Ytlbgilbigcnleaa
