/-
  An own row of frames beside a node that is stored to: which block the row lies in, behind an append.
-/
import Derived.Test.YtlbgilbigcnleaaNeG
import Derived.Test.YtlbgilbigcnleaaNdO
namespace Go.Proofs.Ytlbgilbigcnleaa
open Go.RowKit
set_option linter.unusedVariables false
set_option linter.unusedSimpArgs false

/-- The block of a slice, as a list of none or one. -/
def ownL : Option Addr → List Nat
  | none => []
  | some a => [a.block]
theorem ownL_lt {w : World} {base : Nat} {A : Option Addr} {n c : Nat} {fs : List FV} (h : FOwn w base A n c fs) : ∀ Y ∈ ownL A, Y < w.heap.size := by
  intro Y hY
  cases A with
  | none => cases hY
  | some a => simp [ownL] at hY; subst hY; exact (h.lt _ rfl).2
theorem ownL_ge {w : World} {base : Nat} {A : Option Addr} {n c : Nat} {fs : List FV} (h : FOwn w base A n c fs) : ∀ Y ∈ ownL A, base ≤ Y := by
  intro Y hY
  cases A with
  | none => cases hY
  | some a => simp [ownL] at hY; subst hY; exact (h.lt _ rfl).1
theorem out_low {w : World} {base : Nat} {A : Option Addr} {n c X s : Nat} {fs : List FV} (h : FOwn w base A n c fs) (hX : X < base) (hs : s ≤ X) : ∀ b, b < s → True → Out (X :: ownL A) b := by
  intro b hb _ Y hY
  rcases List.mem_cons.1 hY with rfl | hY
  · omega
  · have := ownL_ge h Y hY; omega
theorem out_ownUp {w : World} {base : Nat} {A : Option Addr} {n c X : Nat} {fs : List FV} (h : FOwn w base A n c fs) (hX : X < w.heap.size) : ∀ b, w.heap.size ≤ b → Out (X :: ownL A) b :=
  out_up (lt_cons hX (ownL_lt h))
theorem FOwn9.to {w w' : World} {base : Nat} {A : Option Addr} {n c : Nat} {fs : List FV} (h : FOwn w base A n c fs) (b : Below w.heap.size w w') : FOwn w' base A n c fs := own_to h b
theorem FOwn9.grow {w w' : World} {base : Nat} {A : Option Addr} {n c X : Nat} {fs : List FV} (h : FOwn w base A n c fs) (g : w.grownBy w' (some X)) (hX : X < base) : FOwn w' base A n c fs :=
  h.kept g (by
    cases e : (Value.slice A n c).ownBlock with
    | none => exact .inl rfl
    | some k => exact .inr (fun e' => by have := (h.lt _ e).1; have := Option.some.inj e'; omega))

theorem run_append_frO (w : World) (base : Nat) (ty : TypeId) (A0 : Option Addr) (n c0 : Nat) (fs : List FV) (hown : FOwn w base A0 n c0 fs)
    (A : Option Addr) (m c B : Nat) (fs' : List FV) (hm : fs'.length = m) (hr : FRow w B A fs') (h63 : n + m ≤ 1000) (hbase : base ≤ w.heap.size) :
    ∃ A' c' w', (Builtin.append_ #[22, 22] ty #[.slice A0 n c0, .slice A m c]).run Try.prog w = .ok (.slice A' (n + m) c') w' ∧ FOwn w' base A' (n + m) c' (fs ++ fs') ∧ n + m ≤ c' ∧ w.grownBy w' (Value.slice A0 n c0).ownBlock ∧ Below base w w' ∧ (ownL A' = ownL A0 ∨ ownL A' = [w.heap.size]) := by
  obtain ⟨i, hi, hz, hsize, hby⟩ := info_parts Try.infoFr
  have hu := Try.underlying22
  have form : ∀ (v' : Value) (w' : World), w'.ownsRow base 30 5 v' (n + m) (fcells (fs ++ fs')) → ∃ A' c', v' = .slice A' (n + m) c' ∧ n + m ≤ c' := by
    intro v' w' h
    rcases h.2 with ⟨rfl, h0⟩ | ⟨g, cap, cur, rfl, _, _, hc, _⟩
    · exact ⟨none, 0, by rw [h0], by omega⟩
    · exact ⟨_, _, rfl, hc⟩
  have low : ∀ k, (Value.slice A0 n c0).ownBlock = some k → base ≤ k := fun k e => (hown.lt k e).1
  have ob : ∀ (a : Option Addr) (x y : Nat) (o : Option Nat), (Value.slice a x y).ownBlock = o → ownL a = (match o with | some k => [k] | none => []) := by
    intro a x y o e; subst e; cases a <;> rfl
  cases A with
  | some ad =>
    obtain ⟨v', w', hrun, h2, h3, _, h5⟩ := run_append_own_at (P := Try.prog) w base 22 ty 30 i _ 5 56 hu hi hz hsize hby rfl (by omega) _ n _ hown ad m c (fcells fs') (by rw [fcells_len, hm]) hr.cells (fcells_one fs') (by unfold maxLen; omega) (by omega) hbase
    rw [← fcells_app] at h2
    obtain ⟨A', c', rfl, hc'⟩ := form v' w' h2
    refine ⟨A', c', w', hrun, h2, hc', h3, (Below.refl _ _).grown h3 hbase low, ?_⟩
    rcases h5 with h5 | h5
    · left; rw [ob _ _ _ _ h5]; exact (ob _ _ _ _ rfl).symm
    · right; rw [ob _ _ _ _ h5]
  | none =>
    obtain rfl : fs' = [] := by
      rcases hr with rfl | ⟨ad, e', _⟩
      · rfl
      · cases e'
    obtain rfl : m = 0 := hm.symm
    have hrun : (Builtin.append_ #[22, 22] ty #[.slice A0 n c0, .slice none 0 c]).run Try.prog w = .ok (.slice A0 n c0) w := by
      rcases hown.2 with ⟨e1, rfl⟩ | ⟨g, cap, cur, e1, _, _, hnc, _⟩
      · rw [e1]
        simp [Builtin.append_, run_underlying hu, sizeOf, typeInfo, hi, Builtin.lenOf, Builtin.firstCells]
      · rw [e1]
        simp [Builtin.append_, run_underlying hu, sizeOf, typeInfo, hi, Builtin.lenOf, Builtin.firstCells, hnc, storeCells]
    have h2 : w.ownsRow base 30 5 (.slice A0 n c0) (n + 0) (fcells (fs ++ [])) := by simpa using hown
    obtain ⟨A', c', e, hc'⟩ := form _ w h2
    injection e with e1 e2 e3
    subst e1 e3
    exact ⟨A0, c0, w, hrun, by simpa using hown, hc', ⟨rfl, rfl, rfl, Nat.le_refl _, fun _ _ _ => rfl⟩, Below.refl _ _, .inl rfl⟩

theorem wpList_append_frO (w : World) {ops : Array Oper} {rest : List Oper} {o : Oper} {a : Act} {Q : Exit → Act → World → Prop} (hw : Region.wanted o (yielded ops a.tmps) = true) (s x : Operand)
    (ho : o.op = .call { callee := .builtin .append, args := #[s, x], argTypes := #[22, 22] })
    (base : Nat) (A0 : Option Addr) (n c0 : Nat) (fs : List FV) (hs : a.eval s = .slice A0 n c0) (hown : FOwn w base A0 n c0 fs)
    (A : Option Addr) (m c B : Nat) (fs' : List FV) (hx : a.eval x = .slice A m c) (hm : fs'.length = m) (hr : FRow w B A fs')
    (h63 : n + m ≤ 1000) (hbase : base ≤ w.heap.size)
    (h : ∀ A' c' w', FOwn w' base A' (n + m) c' (fs ++ fs') → n + m ≤ c' → w.grownBy w' (Value.slice A0 n c0).ownBlock → (ownL A' = ownL A0 ∨ ownL A' = [w.heap.size]) → Below base w w' → wpList Try.prog ops Q rest (a.put o.dst (.slice A' (n + m) c')) w') : wpList Try.prog ops Q (o :: rest) a w := by
  obtain ⟨A', c', w', hrun, h2, hc', hg, h3, h4⟩ := run_append_frO w base o.type A0 n c0 fs hown A m c B fs' hm hr h63 hbase
  unfold wpList
  rw [if_pos hw]
  left
  unfold Oper.wp execOp
  simp only [ho, resolve, invoke, builtin, Sem.run_bind, Sem.run_pure, Result.andThen_ok, List.map_toArray, List.map_cons, List.map_nil, hs, hx, hrun]
  exact h A' c' w' h2 hc' hg h4 h3

/-- A node that lies in none of these blocks: behind an append to the own row. -/
theorem nis_app {w w' : World} {A A' : Option Addr} {n c X : Nat} {m : NV} {N : NC} (h : NIs w (Out (X :: ownL A)) m N) (g : w.grownBy w' (Value.slice A n c).ownBlock) (e : ownL A' = ownL A ∨ ownL A' = [w.heap.size]) : NIs w' (Out (X :: ownL A')) m N := by
  have h1 : NIs w (Out (X :: (ownL A ++ ownL A'))) m N := h.mono (fun b hb hp => by
    intro Y hY
    rcases List.mem_cons.1 hY with rfl | hY
    · exact hp Y (by simp)
    · rcases List.mem_append.1 hY with h' | h'
      · exact hp Y (by simp [h'])
      · rcases e with e | e
        · rw [e] at h'; exact hp Y (by simp [h'])
        · rw [e] at h'; simp at h'; omega)
  have h2 : NIs w' (Out (X :: (ownL A ++ ownL A'))) m N := by
    cases A with
    | none => exact h1.to ((Below.refl _ _).grown g (Nat.le_refl _) (fun k hk => by cases hk))
    | some a => exact h1.grow (X := a.block) g (out_not (by simp [ownL]))
  exact h2.mono (fun b _ hp Y hY => hp Y (by rcases List.mem_cons.1 hY with rfl | hY <;> simp [*]))
theorem nis_out {w : World} {A : Option Addr} {X : Nat} {m : NV} {N : NC} (h : NIs w (Out (X :: ownL A)) m N) : NIs w (Out [X]) m N :=
  h.mono (fun b _ hp Y hY => hp Y (by simp at hY; simp [hY]))
/-- The own row, and its place k. -/
theorem own_at {w w0 : World} {base : Nat} {A : Option Addr} {n c k : Nat} {fs : List FV} {P : Nat → Prop} {Gs : List FC} (h : FOwn w base A n c fs) (h' : FsIs w0 P fs Gs) (hn : Gs.length = n) (hk : k < n) : ∃ ad f, A = some ad ∧ FAt w (ad.add (k * 5)) f ∧ FIs w0 P f (Gs.getD k zeroF) := by
  have hl : k < fs.length := by rw [h'.1, hn]; exact hk
  have hf : fs[k]? = some fs[k] := List.getElem?_eq_getElem hl
  obtain ⟨ad, e, ha⟩ := (FRow.own h).at_lt hf
  have hg : Gs[k]? = some (Gs.getD k zeroF) := by rw [List.getElem?_eq_getElem (by rw [hn]; exact hk)]; simp [List.getD, List.getElem?_eq_getElem (show k < Gs.length by rw [hn]; exact hk)]
  exact ⟨ad, _, e, ha, h'.2 k _ _ hf hg⟩

end Go.Proofs.Ytlbgilbigcnleaa
