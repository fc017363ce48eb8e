/-
  Two rows of the call's own, both may grow.
-/
import Derived.Test.YtfmlnfblfhmapaaBase
namespace Go.Proofs.Ytfmlnfblfhmapaa
open Go.RowKit

theorem Row.at_ {κ : IntKind} {w : World} {B : Nat} {ad : Addr} {l : List Int} (h : Row κ w B (some ad) l) {k : Nat} {x : Int} (hx : l[k]? = some x) : w.cell? (ad.add k) = some (.int κ x) := by
  rcases h with rfl | ⟨ad', e, _, hc⟩
  · simp at hx
  · cases e
    exact hc k x hx
/-- The two own no block together. -/
def TwoRows (v v2 : Value) : Prop := ∀ g, v.ownBlock = some g → v2.ownBlock ≠ some g
theorem TwoRows.symm {v v2 : Value} (h : TwoRows v v2) : TwoRows v2 v := fun g e e' => h g e' e
theorem own_low {w : World} {base base' : Nat} {e : TypeId} {size : Nat} {v : Value} {n : Nat} {xs : List Value} (h : w.ownsRow base e size v n xs) (hb : base' ≤ base) : w.ownsRow base' e size v n xs := by
  refine ⟨h.1, ?_⟩
  rcases h.2 with h0 | ⟨g, cap, cur, hv, hg, hrest⟩
  · exact .inl h0
  · exact .inr ⟨g, cap, cur, hv, by omega, hrest⟩
theorem own_kept {w w' : World} {base : Nat} {e : TypeId} {size : Nat} {v v2 : Value} {n : Nat} {xs : List Value} (h : w.ownsRow base e size v2 n xs) (hg : w.grownBy w' v.ownBlock) (ht : TwoRows v v2) : w'.ownsRow base e size v2 n xs := by
  refine h.kept hg ?_
  rcases h.2 with ⟨rfl, _⟩ | ⟨g, cap, cur, rfl, _⟩
  · exact .inl rfl
  · refine .inr fun e' => ?_
    exact ht g (by rw [← e']; rfl) rfl

theorem wpList_append_two {P : Program} (w : World) {ops : Array Oper} {rest : List Oper} {o : Oper} {a : Act} {Q : Exit → Act → World → Prop} (κ : IntKind) (hw : Region.wanted o (yielded ops a.tmps) = true) (s x : Operand) (t : TypeId)
    (ho : o.op = .call { callee := .builtin .append, args := #[s, x], argTypes := #[t, t] })
    (base : Nat) (e : TypeId) (i : TypeInfo) (z : Value) (bytes : Nat) (ht : P.underlying t = some (.slice e)) (hi : P.info? e = some i) (hz : i.zero = some z)
    (hsize : i.size = 1) (hby : i.bytes = bytes) (hzs : z.cells.size = 1)
    (v : Value) (n : Nat) (l : List Int) (hs : a.eval s = v) (hown : w.ownsRow base e 1 v n (l.map (Value.int κ)))
    (ad : Addr) (m c B : Nat) (l' : List Int) (hx : a.eval x = .slice (some ad) m c) (hm : l'.length = m) (hr : Row κ w B (some ad) l')
    (h63 : n + m ≤ maxLen) (hbytes : (n + m) * bytes ≤ 140737488355328) (hbase : base ≤ w.heap.size)
    (v2 : Value) (n2 : Nat) (xs2 : List Value) (hown2 : w.ownsRow base e 1 v2 n2 xs2) (hT : TwoRows v v2)
    (h : ∀ A' c' w', w'.ownsRow base e 1 (.slice A' (n + m) c') (n + m) ((l ++ l').map (Value.int κ)) → Below base w w' → w'.ownsRow base e 1 v2 n2 xs2 → TwoRows (.slice A' (n + m) c') v2 → wpList P ops Q rest (a.put o.dst (.slice A' (n + m) c')) w') : wpList P ops Q (o :: rest) a w := by
  have hcells : ∀ j u, (l'.map (Value.int κ))[j]? = some u → w.cell? (ad.add j) = some u := by
    intro j u hu
    rw [List.getElem?_map, Option.map_eq_some_iff] at hu
    obtain ⟨x, hx, rfl⟩ := hu
    exact hr.at_ hx
  obtain ⟨v', w', hrun, h2, h3, _, h5⟩ := run_append_own_at (P := P) w base t o.type e i z 1 bytes ht hi hz hsize hby hzs (by omega) v n _ hown ad m c _ (by simp [hm]) hcells (ints_one κ l') h63 hbytes hbase
  rw [← List.map_append] at h2
  have hB : Below base w w' := (Below.refl _ _).grown h3 hbase (fun k e => (hown.lt k e).1)
  have k2 : w'.ownsRow base e 1 v2 n2 xs2 := own_kept hown2 h3 hT
  have kT : TwoRows v' v2 := by
    intro g e1 e2
    rcases h5 with h5 | h5
    · rw [h5] at e1; exact hT g e1 e2
    · rw [h5] at e1
      cases e1
      have := (hown2.lt _ e2).2
      omega
  obtain ⟨A', c', rfl⟩ : ∃ A' c', v' = .slice A' (n + m) c' := by
    rcases h2.2 with ⟨rfl, h0⟩ | ⟨g, cap, cur, rfl, _⟩
    · exact ⟨none, 0, by rw [h0]⟩
    · exact ⟨_, _, rfl⟩
  unfold wpList
  rw [if_pos hw]
  left
  unfold Oper.wp execOp
  simp only [ho, resolve, invoke, builtin, Sem.run_bind, Sem.run_pure, Result.andThen_ok, List.map_toArray, List.map_cons, List.map_nil, hs, hx, hrun]
  exact h A' c' w' h2 hB k2 kT

end Go.Proofs.Ytfmlnfblfhmapaa
