/-
  An append as one step of a region that draws its order; rows, blocks and worlds carried on from world to world by the goal's own shape.
-/
import Derived.Test.YtmapkjjglhpamaaBase
import Derived.Deep.RegionHeld3
import Derived.Deep.AppendLies
namespace Go.Proofs.Ytmapkjjglhpamaa
open Go.RowKit

/-- An append in a region that draws its order, as one step. -/
theorem step_append_row {P : Program} {w : World} {ops : Array Oper} {o : Oper} {a : Act} {K : Act → World → Prop} {Q : Exit → Act → World → Prop} {E : Prop} (κ : IntKind) (hgd : o.guard = none) (s x : Operand) (t : TypeId)
    (ho : o.op = .call { callee := .builtin .append, args := #[s, x], argTypes := #[t, t] })
    (base : Nat) (e : TypeId) (i : TypeInfo) (z : Value) (bytes : Nat) (ht : P.underlying t = some (.slice e)) (hi : P.info? e = some i) (hz : i.zero = some z)
    (hsize : i.size = 1) (hby : i.bytes = bytes) (hzs : z.cells.size = 1)
    (v : Value) (n : Nat) (l : List Int) (hs : a.eval s = v) (hown : w.ownsRow base e 1 v n (l.map (Value.int κ)))
    (A : Option Addr) (m c B : Nat) (l' : List Int) (hx : a.eval x = .slice A m c) (hm : l'.length = m) (hr : Row κ w B A l')
    (h63 : n + m ≤ maxLen) (hbytes : (n + m) * bytes ≤ 140737488355328) (hbase : base ≤ w.heap.size)
    (h : ∀ A' c' w', w'.ownsRow base e 1 (.slice A' (n + m) c') (n + m) ((l ++ l').map (Value.int κ)) → n + m ≤ c' → Below base w w' → K (a.put o.dst (.slice A' (n + m) c')) w') :
    if Region.wanted o (yielded ops a.tmps) = true then Oper.wp P o a w K Q else E := by
  obtain ⟨A', c', w', hrun, h2, hc', h3⟩ := run_append_row (P := P) w κ base t o.type e i z bytes ht hi hz hsize hby hzs v n l hown A m c B l' hm hr h63 hbytes hbase
  have hw : Region.wanted o (yielded ops a.tmps) = true := by simp [Region.wanted, hgd]
  rw [if_pos hw]
  unfold Oper.wp execOp
  simp only [ho, resolve, invoke, builtin, Sem.run_bind, Sem.run_pure, Result.andThen_ok, List.map_toArray, List.map_cons, List.map_nil, hs, hx, hrun]
  exact h A' c' w' h2 hc' h3

theorem block_below {w w' : World} {F : Nat} {o : Obj} (b : Below w.heap.size w w') (h : w.heap[F]? = some o) : w'.heap[F]? = some o :=
  (b.block F (Array.getElem?_eq_some_iff.1 h).1).trans h
theorem below_alloc1 (w : World) (o : Obj) : Below w.heap.size w (w.alloc o) := (Below.refl _ w).alloc (Nat.le_refl _) o
theorem below_drew1 (w : World) : Below w.heap.size w w.drew := (Below.refl _ w).drew
theorem row_step {κ : IntKind} {a b : World} {A : Option Addr} {l : List Int} (k : Below a.heap.size a b) (h : Row κ a a.heap.size A l) : Row κ b b.heap.size A l := h.to k

theorem lit2 (W : World) (κ : IntKind) (a b : Int) (t : TypeId) {k : Nat} (hk : k = W.heap.size) : Row κ (W.alloc (.cells #[.int κ a, .int κ b] t)) (W.alloc (.cells #[.int κ a, .int κ b] t)).heap.size (some ⟨k, 0, none⟩) [a, b] := by
  subst hk
  have := Row.lit W κ [a, b] t (cs := #[.int κ a, .int κ b]) rfl
  simpa using this
theorem lit1 (W : World) (κ : IntKind) (a : Int) (t : TypeId) {k : Nat} (hk : k = W.heap.size) : Row κ (W.alloc (.cells #[.int κ a] t)) (W.alloc (.cells #[.int κ a] t)).heap.size (some ⟨k, 0, none⟩) [a] := by
  subst hk
  have := Row.lit W κ [a] t (cs := #[.int κ a]) rfl
  simpa using this

end Go.Proofs.Ytmapkjjglhpamaa
