/-
  Two rows of frames of the call's own.
-/
import Derived.Test.YtfmlnfblfhmapaaArbL
import Derived.Test.YtfmlnfblfhmapaaTwo
namespace Go.Proofs.Ytfmlnfblfhmapaa
open Go.RowKit
set_option linter.unusedVariables false

theorem FRow.at_lt {w : World} {B : Nat} {A : Option Addr} {fs : List FV} (h : FRow w B A fs) {k : Nat} {f : FV} (hf : fs[k]? = some f) : ∃ ad, A = some ad ∧ FAt w (ad.add (k * 5)) f := by
  rcases h with rfl | ⟨ad, e, _, hc⟩
  · simp at hf
  · exact ⟨ad, e, hc k f hf⟩

theorem wpList_append_fr2 (w : World) {ops : Array Oper} {rest : List Oper} {o : Oper} {a : Act} {Q : Exit → Act → World → Prop} (hw : Region.wanted o (yielded ops a.tmps) = true) (s x : Operand)
    (ho : o.op = .call { callee := .builtin .append, args := #[s, x], argTypes := #[22, 22] })
    (base : Nat) (v : Value) (n : Nat) (fs : List FV) (hs : a.eval s = v) (hown : w.ownsRow base 35 5 v n (fcells fs))
    (ad : Addr) (m c B : Nat) (fs' : List FV) (hx : a.eval x = .slice (some ad) m c) (hm : fs'.length = m) (hr : FRow w B (some ad) fs')
    (h63 : n + m ≤ 1000) (hbase : base ≤ w.heap.size)
    (v2 : Value) (n2 : Nat) (xs2 : List Value) (hown2 : w.ownsRow base 35 5 v2 n2 xs2) (hT : TwoRows v v2)
    (h : ∀ A' c' w', FOwn w' base A' (n + m) c' (fs ++ fs') → n + m ≤ c' → Below base w w' → w'.ownsRow base 35 5 v2 n2 xs2 → TwoRows (.slice A' (n + m) c') v2 → wpList Try.prog ops Q rest (a.put o.dst (.slice A' (n + m) c')) w') : wpList Try.prog ops Q (o :: rest) a w := by
  obtain ⟨i, hi, hz, hsize, hby⟩ := info_parts Try.infoFr
  obtain ⟨v', w', hrun, h2, h3, _, h5⟩ := run_append_own_at (P := Try.prog) w base 22 o.type 35 i _ 5 56 Try.underlying22 hi hz hsize hby rfl (by omega) v n _ hown ad m c (fcells fs') (by rw [fcells_len, hm]) hr.cells (fcells_one fs') (by unfold maxLen; omega) (by omega) hbase
  rw [← fcells_app] at h2
  have hB : Below base w w' := (Below.refl _ _).grown h3 hbase (fun k e => (hown.lt k e).1)
  have k2 : w'.ownsRow base 35 5 v2 n2 xs2 := own_kept hown2 h3 hT
  have kT : TwoRows v' v2 := by
    intro g e1 e2
    rcases h5 with h5 | h5
    · rw [h5] at e1; exact hT g e1 e2
    · rw [h5] at e1
      cases e1
      have := (hown2.lt _ e2).2
      omega
  obtain ⟨A', c', rfl, hc'⟩ : ∃ A' c', v' = .slice A' (n + m) c' ∧ n + m ≤ c' := by
    rcases h2.2 with ⟨rfl, h0⟩ | ⟨g, cap, cur, rfl, _, _, hc, _⟩
    · exact ⟨none, 0, by rw [h0], by omega⟩
    · exact ⟨_, _, rfl, hc⟩
  unfold wpList
  rw [if_pos hw]
  left
  unfold Oper.wp execOp
  simp only [ho, resolve, invoke, builtin, Sem.run_bind, Sem.run_pure, Result.andThen_ok, List.map_toArray, List.map_cons, List.map_nil, hs, hx, hrun]
  exact h A' c' w' h2 hc' hB k2 kT

/-- The least is the least among fewer, if it is there. -/
theorem LeastE.less {W : List Int} {rs rs' : List (List Int)} (h : LeastE W rs) (hs : ∀ r ∈ rs', r ∈ rs) (hW : W ∈ rs') : LeastE W rs' where
  all := fun r hr => h.all r (hs r hr)
  mem := fun _ => hW
  right := fun r hr => h.right r (hs r hr)
  rw_ := h.rw_
  none_ := fun e => by rw [e] at hW; cases hW
  pos := fun r hr => h.pos r (hs r hr)
theorem ranks_sub {gs hs : List FV} (h : ∀ f ∈ hs, f ∈ gs) : ∀ r ∈ ranks hs, r ∈ ranks gs := by
  intro r hr
  obtain ⟨f, hf, rfl⟩ := ranks_mem hr
  exact List.mem_map.2 ⟨f, h f hf, rfl⟩
theorem rank_in {gs : List FV} {f : FV} (h : f ∈ gs) : rankF f ∈ ranks gs := List.mem_map.2 ⟨f, h, rfl⟩
/-- One frame, written out in the text, is the call's own. -/
theorem fown_lit1 (W : World) (f : FV) (base : Nat) {k : Nat} (hk : k = W.heap.size) (hb : base ≤ W.heap.size) : FOwn (W.alloc (.cells #[.bool f.x, .int .i64 f.i, .bool f.r, .int .i64 f.n, .slice f.a f.m f.c] 35)) base (some ⟨k, 0, none⟩) 1 1 [f] := by
  subst hk
  exact ⟨rfl, .inr ⟨W.heap.size, 1, _, rfl, hb, World.alloc_heap_new _ _, Nat.le_refl _, by decide, by simp, by simp [fcells, FV.cs]⟩⟩

end Go.Proofs.Ytfmlnfblfhmapaa
