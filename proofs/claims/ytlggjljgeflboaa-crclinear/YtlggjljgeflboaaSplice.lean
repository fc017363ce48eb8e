/-
  A row of the call's own in which one cell is written; a stretch of a row that is turned: no function of the program's.
-/
import Derived.Test.YtlggjljgeflboaaApart
namespace Go.Proofs.Ytlggjljgeflboaa
open Go.RowKit

theorem ownsRow_set {w : World} {base : Nat} {e : TypeId} {g n cap : Nat} {κ : IntKind} {l : List Int} (h : w.ownsRow base e 1 (.slice (some ⟨g, 0, none⟩) n cap) n (l.map (Value.int κ))) (j : Nat) (z : Int) :
    (w.setCell ⟨g, j, none⟩ (.int κ z)).ownsRow base e 1 (.slice (some ⟨g, 0, none⟩) n cap) n ((l.set j z).map (Value.int κ)) := by
  obtain ⟨h1, h2⟩ := h
  refine ⟨by simpa using h1, ?_⟩
  rcases h2 with ⟨e1, _⟩ | ⟨g', cap', cur, e1, hb, hg, hc, hm, hs, ht⟩
  · cases e1
  · cases e1
    refine .inr ⟨g, cap, cur.setIfInBounds j (.int κ z), rfl, hb, ?_, hc, hm, by simpa using hs, ?_⟩
    · rw [heap_setCell_same w g j _ _ _ hg]
    · rw [Array.toList_setIfInBounds, List.map_set, ← ht, List.take_set]
theorem ownsRow_cell {w : World} {base : Nat} {e : TypeId} {g n cap : Nat} {κ : IntKind} {l : List Int} (h : w.ownsRow base e 1 (.slice (some ⟨g, 0, none⟩) n cap) n (l.map (Value.int κ))) {j : Nat} {x : Int} (hx : l[j]? = some x) :
    w.cell? ⟨g, j, none⟩ = some (.int κ x) ∧ w.frozen? ⟨g, j, none⟩ = false := by
  have hc := h.cells (g := g) rfl j (.int κ x) (by simp [hx])
  have e : (⟨g, 0, none⟩ : Addr).add j = ⟨g, j, none⟩ := by unfold Addr.add; split <;> simp_all
  rw [e] at hc
  refine ⟨hc, ?_⟩
  rcases h.2 with ⟨e1, _⟩ | ⟨g', cap', cur, e1, _, hg, _⟩
  · cases e1
  · cases e1
    simp [World.frozen?, hg]

theorem xor64 (a b : Nat) (ha : a < 4611686018427387904) (hb : b < 4611686018427387904) : bits .xor .i64 (a : Int) (b : Int) = ((a ^^^ b : Nat) : Int) := by
  have hx : a ^^^ b < 2 ^ 62 := Nat.xor_lt_two_pow ha hb
  show IntKind.i64.wrap ((BitVec.ofInt 64 (a : Int) ^^^ BitVec.ofInt 64 (b : Int)).toNat : Int) = _
  rw [BitVec.toNat_xor, ofInt_u64 _ (by omega), ofInt_u64 _ (by omega), IntKind.wrap_i64]
  omega

theorem Row.cell_ {κ : IntKind} {w : World} {B : Nat} {ad : Addr} {l : List Int} (h : Row κ w B (some ad) l) {k : Nat} {x : Int} (hx : l[k]? = some x) : w.cell? (ad.add k) = some (.int κ x) := by
  rcases h with rfl | ⟨ad', e, _, hc⟩
  · simp at hx
  · cases e
    exact hc k x hx
/-- An append in a region that draws its order, as one step. -/
theorem step_append_row {P : Program} {w : World} {ops : Array Oper} {o : Oper} {a : Act} {K : Act → World → Prop} {Q : Exit → Act → World → Prop} {E : Prop} (κ : IntKind) (hgd : o.guard = none) (s x : Operand) (t : TypeId)
    (ho : o.op = .call { callee := .builtin .append, args := #[s, x], argTypes := #[t, t] })
    (base : Nat) (e : TypeId) (i : TypeInfo) (z : Value) (bytes : Nat) (ht : P.underlying t = some (.slice e)) (hi : P.info? e = some i) (hz : i.zero = some z)
    (hsize : i.size = 1) (hby : i.bytes = bytes) (hzs : z.cells.size = 1)
    (v : Value) (n : Nat) (l : List Int) (hs : a.eval s = v) (hown : w.ownsRow base e 1 v n (l.map (Value.int κ)))
    (A : Option Addr) (m c B : Nat) (l' : List Int) (hx : a.eval x = .slice A m c) (hm : l'.length = m) (hr : Row κ w B A l')
    (h63 : n + m ≤ maxLen) (hbytes : (n + m) * bytes ≤ 140737488355328) (hbase : base ≤ w.heap.size)
    (h : ∀ A' c' w', w'.ownsRow base e 1 (.slice A' (n + m) c') (n + m) ((l ++ l').map (Value.int κ)) → n + m ≤ c' → Below base w w' → K (a.put o.dst (.slice A' (n + m) c')) w') :
    if Region.wanted o (yielded ops a.tmps) = true then Oper.wp P o a w K Q else E := by
  obtain ⟨A', c', w', hrun, h2, hc', h3⟩ := run_append_row (P := P) w κ base t o.type e i z bytes ht hi hz hsize hby hzs v n l hown A m c B l' hm hr h63 hbytes hbase
  have hw : Region.wanted o (yielded ops a.tmps) = true := by simp [Region.wanted, hgd]
  rw [if_pos hw]
  unfold Oper.wp execOp
  simp only [ho, resolve, invoke, builtin, Sem.run_bind, Sem.run_pure, Result.andThen_ok, List.map_toArray, List.map_cons, List.map_nil, hs, hx, hrun]
  exact h A' c' w' h2 hc' h3

/-- A stretch of l from K on, of i cells, turned by f. -/
def splice (l : List Int) (K : Nat) (f : Nat → Int → Int) (i : Nat) : List Int := l.take K ++ ((List.range i).map (fun j => f j (l.getD (K + j) 0)) ++ l.drop (K + i))
theorem splice_zero (l : List Int) (K : Nat) (f : Nat → Int → Int) : splice l K f 0 = l := by simp [splice]
theorem drop_cons {l : List Int} {j : Nat} (hj : j < l.length) : l.drop j = l.getD j 0 :: l.drop (j + 1) := by
  rw [List.drop_eq_getElem_cons hj]
  simp [hj]
theorem splice_len (l : List Int) (K : Nat) (f : Nat → Int → Int) (i : Nat) (h : K + i ≤ l.length) : (splice l K f i).length = l.length := by
  simp [splice]; omega
theorem splice_get {l : List Int} {K : Nat} (f : Nat → Int → Int) {i : Nat} (h : K + i < l.length) : (splice l K f i)[K + i]? = some (l.getD (K + i) 0) := by
  have hl1 : (l.take K).length = K := by simp; omega
  unfold splice
  rw [List.getElem?_append_right (by omega), hl1, List.getElem?_append_right (by simp), drop_cons h]
  simp
theorem splice_succ {l : List Int} {K : Nat} (f : Nat → Int → Int) {i : Nat} (h : K + i < l.length) : (splice l K f i).set (K + i) (f i (l.getD (K + i) 0)) = splice l K f (i + 1) := by
  have hl1 : (l.take K).length = K := by simp; omega
  unfold splice
  rw [List.set_append_right _ _ (by omega), hl1, List.set_append_right _ _ (by simp), drop_cons h]
  simp [List.range_succ, Nat.add_assoc]
theorem splice_self (l : List Int) (K i : Nat) : l = l.take K ++ ((l.drop K).take i ++ l.drop (K + i)) := by
  rw [← List.drop_drop, List.take_append_drop, List.take_append_drop]
/-- Is the stretch another one? -/
theorem stretch_ne (l : List Int) (K : Nat) (f : Nat → Int → Int) (i : Nat) (h : K + i ≤ l.length) (j : Nat) (hj : j < i) (hf : f j (l.getD (K + j) 0) ≠ l.getD (K + j) 0) : (l.drop K).take i ≠ (List.range i).map (fun j => f j (l.getD (K + j) 0)) := by
  intro e
  have := congrArg (·[j]?) e
  simp only [List.getElem?_map, List.getElem?_take, hj, if_true, List.getElem?_drop, List.getElem?_range, Option.map_some] at this
  rw [List.getElem?_eq_getElem (by omega)] at this
  apply hf
  have h2 := Option.some.inj this
  rw [← h2]
  simp [List.getD, show K + j < l.length by omega]

end Go.Proofs.Ytlggjljgeflboaa
