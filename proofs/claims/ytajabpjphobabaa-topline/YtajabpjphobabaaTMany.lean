/-
  Rows of frames: single frames of them, appends in a drawn region, the winner.
-/
import Derived.Test.YtajabpjphobabaaTHead
namespace Go.Proofs.Ytajabpjphobabaa
open Go.RowKit
set_option linter.unusedVariables false
set_option linter.unusedSimpArgs false

theorem frow_step {a b : World} {A : Option Addr} {fs : List FV} (k : Below a.heap.size a b) (h : FRow a a.heap.size A fs) : FRow b b.heap.size A fs := h.to k
/-- The cells of two frames of a row. -/
abbrev FCells (W : World) (a : Addr) (f : FV) : Prop := W.cell? a = some (.bool f.x) ∧ W.cell? ⟨a.block, a.off + 1, none⟩ = some (.int .i64 f.i) ∧ W.cell? ⟨a.block, a.off + 2, none⟩ = some (.bool f.r) ∧ W.cell? ⟨a.block, a.off + 3, none⟩ = some (.int .i64 f.n) ∧ W.cell? ⟨a.block, a.off + 4, none⟩ = some (.slice f.a f.m f.c)
theorem FRow.at_ {w : World} {B : Nat} {ad : Addr} {fs : List FV} (h : FRow w B (some ad) fs) {k : Nat} {f : FV} (hf : fs[k]? = some f) : FAt w (ad.add (k * 5)) f := by
  rcases h with rfl | ⟨ad', e, _, hc⟩
  · simp at hf
  · cases e
    exact hc k f hf

theorem winner {gs : List FV} {W : List Int} (hW : LeastE W (ranks gs)) (h0 : 0 < gs.length) : ∃ (i : Nat) (f : FV), i < gs.length ∧ gs[i]? = some f ∧ rankF f = W ∧ winOf W (ranks gs) = i ∧ ∀ (j : Nat) (g : FV), j < i → gs[j]? = some g → rankF g ≠ W := by
  obtain ⟨i, h1, h2, h3, h4⟩ := winOf_spec hW (by intro e; have := congrArg List.length e; simp [ranks] at this; subst this; simp at h0)
  simp only [ranks, List.length_map] at h1
  rw [ranks, List.getElem?_map, Option.map_eq_some_iff] at h2
  obtain ⟨f, h5, h6⟩ := h2
  refine ⟨i, f, h1, h5, h6, h4, fun j g hj hg e => h3 j hj ?_⟩
  rw [ranks, List.getElem?_map, hg]
  simp [e]

theorem step_append_fr {w : World} {ops : Array Oper} {o : Oper} {a : Act} {K : Act → World → Prop} {Q : Exit → Act → World → Prop} {E : Prop} (hgd : o.guard = none) (s x : Operand)
    (ho : o.op = .call { callee := .builtin .append, args := #[s, x], argTypes := #[36, 36] })
    (base : Nat) (v : Value) (n : Nat) (fs : List FV) (hs : a.eval s = v) (hown : w.ownsRow base 24 5 v n (fcells fs))
    (A : Option Addr) (m c B : Nat) (fs' : List FV) (hx : a.eval x = .slice A m c) (hm : fs'.length = m) (hr : FRow w B A fs')
    (h63 : n + m ≤ 1000) (hbase : base ≤ w.heap.size) (d : Nat) (hd : o.dst = some d)
    (h : ∀ A' c' w', FOwn w' base A' (n + m) c' (fs ++ fs') → n + m ≤ c' → Below base w w' → K (a.put (some d) (.slice A' (n + m) c')) w') :
    if Region.wanted o (yielded ops a.tmps) = true then Oper.wp Try.prog o a w K Q else E := by
  obtain ⟨A', c', w', hrun, h2, hc', h3⟩ := run_append_fr w base o.type v n fs hown A m c B fs' hm hr h63 hbase
  have hw : Region.wanted o (yielded ops a.tmps) = true := by simp [Region.wanted, hgd]
  rw [if_pos hw]
  unfold Oper.wp execOp
  simp only [ho, resolve, invoke, builtin, Sem.run_bind, Sem.run_pure, Result.andThen_ok, List.map_toArray, List.map_cons, List.map_nil, hs, hx, hrun]
  rw [← hd] at h
  exact h A' c' w' h2 hc' h3
theorem right_fok {f : FV} (h : rightV f.x f.i f.r f.n f.m = true) : FOk f := by
  obtain ⟨ID, L, h1, h2, h3, _⟩ := right_ok h
  exact ⟨ID, h1, h3⟩
theorem turned_mem (K : Nat) (gs : List FV) (f : FV) : f ∈ gs.drop K ++ gs.take K ↔ f ∈ gs := by
  rw [List.mem_append]
  constructor
  · rintro (e | e)
    · exact List.mem_of_mem_drop e
    · exact List.mem_of_mem_take e
  · intro e
    rw [← List.take_append_drop K gs] at e
    rcases List.mem_append.1 e with e | e
    · exact .inr e
    · exact .inl e
theorem pair_win {W : List Int} {gs : List FV} (hW : LeastE W (ranks gs)) {g f : FV} (hg : g ∈ gs) (hf : f ∈ gs) (hgW : rankF g = W) : LeastE W (ranks [g, f]) ∧ winOf W (ranks [g, f]) = 0 := by
  refine ⟨hW.less (ranks_sub ?_) (by rw [← hgW]; exact rank_in (by simp)), winOf_at (i := 0) (by simp [ranks, hgW]) (fun j hj => by omega)⟩
  intro k hk
  simp only [List.mem_cons, List.not_mem_nil, or_false] at hk
  rcases hk with rfl | rfl
  · exact hg
  · exact hf

end Go.Proofs.Ytajabpjphobabaa
