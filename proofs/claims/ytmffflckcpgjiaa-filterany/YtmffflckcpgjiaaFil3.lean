/-
  Slices of filters, and own rows of them: no function of the program's.
-/
import Derived.Test.YtmffflckcpgjiaaFil0
namespace Go.Proofs.Ytmffflckcpgjiaa
open Go.RowKit
set_option linter.unusedVariables false
set_option linter.unusedSimpArgs false

def LAt (w : World) (a : Addr) (f : FL) : Prop :=
  w.cell? a = some (.bool f.x) ∧ w.cell? ⟨a.block, a.off + 1, none⟩ = some (.int .i64 f.k) ∧ w.cell? ⟨a.block, a.off + 2, none⟩ = some (.int .i64 f.m)
/-- A slice of filters. -/
def LRow (w : World) (B : Nat) (A : Option Addr) (fs : List FL) : Prop :=
  fs = [] ∨ ∃ ad, A = some ad ∧ ad.block < B ∧ ∀ k f, fs[k]? = some f → LAt w (ad.add (k * 3)) f
theorem LRow.get_ {w : World} {B : Nat} {A : Option Addr} {fs : List FL} (h : LRow w B A fs) {k : Nat} (hk : k < fs.length) : ∃ ad f, A = some ad ∧ fs[k]? = some f ∧ LAt w (ad.add (k * 3)) f := by
  rcases h with rfl | ⟨ad, e, _, hc⟩
  · simp at hk
  · exact ⟨ad, fs[k], e, List.getElem?_eq_getElem hk, hc k _ (List.getElem?_eq_getElem hk)⟩
theorem LRow.move {w w' : World} {B : Nat} {A : Option Addr} {fs : List FL} (h : LRow w B A fs) (hk : ∀ p : Addr, p.block < B → w'.cell? p = w.cell? p) : LRow w' B A fs := by
  rcases h with rfl | ⟨ad, e, hb, hc⟩
  · exact .inl rfl
  · refine .inr ⟨ad, e, hb, fun k f hf => ?_⟩
    obtain ⟨h0, h1, h2⟩ := hc k f hf
    have hb' : (ad.add (k * 3)).block < B := by rw [addr_block]; exact hb
    exact ⟨(hk _ hb').trans h0, (hk ⟨_, _, none⟩ hb').trans h1, (hk ⟨_, _, none⟩ hb').trans h2⟩
theorem LRow.more {w : World} {B B' : Nat} {A : Option Addr} {fs : List FL} (h : LRow w B A fs) (hB : B ≤ B') : LRow w B' A fs := by
  rcases h with rfl | ⟨ad, e, hb, hc⟩
  · exact .inl rfl
  · exact .inr ⟨ad, e, by omega, hc⟩
theorem LRow.below {w w' : World} {B : Nat} {A : Option Addr} {fs : List FL} (h : LRow w B A fs) (hb : Below B w w') : LRow w' B A fs := h.move fun _ hp => hb.cell hp
theorem LRow.to {a b : World} {A : Option Addr} {fs : List FL} (h : LRow a a.heap.size A fs) (k : Below a.heap.size a b) : LRow b b.heap.size A fs := (h.below k).more k.size
theorem frow_step {a b : World} {A : Option Addr} {fs : List FL} (k : Below a.heap.size a b) (h : LRow a a.heap.size A fs) : LRow b b.heap.size A fs := h.to k

def lcells (fs : List FL) : List Value := fs.flatMap FL.cs
theorem lcells_len (fs : List FL) : (lcells fs).length = fs.length * 3 := by
  induction fs with
  | nil => rfl
  | cons f fs ih => simp only [lcells, List.flatMap_cons, List.length_append, List.length_cons] at ih ⊢; rw [ih]; simp [FL.cs]; omega
theorem lcells_app (a b : List FL) : lcells (a ++ b) = lcells a ++ lcells b := by simp [lcells]
theorem lcells_at : ∀ (fs : List FL) (k : Nat) (f : FL), fs[k]? = some f → (lcells fs)[k * 3]? = some (.bool f.x) ∧ (lcells fs)[k * 3 + 1]? = some (.int .i64 f.k) ∧ (lcells fs)[k * 3 + 2]? = some (.int .i64 f.m)
  | [], k, f, h => by simp at h
  | g :: fs, 0, f, h => by
    simp at h
    subst h
    simp [lcells, FL.cs]
  | g :: fs, k + 1, f, h => by
    obtain ⟨h0, h1, h2⟩ := lcells_at fs k f (by simpa using h)
    have e : lcells (g :: fs) = FL.cs g ++ lcells fs := rfl
    have hl : (FL.cs g).length = 3 := rfl
    rw [e]
    refine ⟨?_, ?_, ?_⟩
    · rw [List.getElem?_append_right (by omega), hl, show (k + 1) * 3 - 3 = k * 3 by omega]; exact h0
    · rw [List.getElem?_append_right (by omega), hl, show (k + 1) * 3 + 1 - 3 = k * 3 + 1 by omega]; exact h1
    · rw [List.getElem?_append_right (by omega), hl, show (k + 1) * 3 + 2 - 3 = k * 3 + 2 by omega]; exact h2
theorem lcells_one (fs : List FL) : ∀ u ∈ lcells fs, u.oneCell' = true := by
  intro u hu
  obtain ⟨f, _, hf⟩ := List.mem_flatMap.1 hu
  simp only [FL.cs, List.mem_cons, List.not_mem_nil, or_false] at hf
  rcases hf with rfl | rfl | rfl <;> rfl

abbrev LOwn (w : World) (base : Nat) (A : Option Addr) (n c : Nat) (fs : List FL) : Prop := w.ownsRow base 23 3 (.slice A n c) n (lcells fs)

/-- The cells of a slice of filters, all told. -/
theorem LRow.cells {w : World} {B : Nat} {ad : Addr} {fs : List FL} (h : LRow w B (some ad) fs) : ∀ j u, (lcells fs)[j]? = some u → w.cell? (ad.add j) = some u := by
  intro j u hu
  rcases h with rfl | ⟨ad', e, _, hc⟩
  · simp [lcells] at hu
  · obtain rfl := Option.some.inj e
    have hj : j < fs.length * 3 := by rw [← lcells_len]; exact (List.getElem?_eq_some_iff.1 hu).1
    obtain ⟨f, hf⟩ : ∃ f, fs[j / 3]? = some f := ⟨_, List.getElem?_eq_getElem (by omega)⟩
    obtain ⟨h0, h1, h2⟩ := lcells_at fs (j / 3) f hf
    obtain ⟨g0, g1, g2⟩ := hc (j / 3) f hf
    have key : ∀ i, 0 < i → ad.add (j / 3 * 3 + i) = ⟨(ad.add (j / 3 * 3)).block, (ad.add (j / 3 * 3)).off + i, none⟩ := by
      intro i h0
      rw [← addr_add, add_pos _ _ h0]
    obtain ⟨K, hK⟩ : ∃ K, j / 3 = K := ⟨_, rfl⟩
    rw [hK] at h0 h1 h2 g0 g1 g2 key
    have hr : j = K * 3 ∨ j = K * 3 + 1 ∨ j = K * 3 + 2 := by omega
    clear hK hf hj
    rcases hr with rfl | rfl | rfl
    · rw [h0] at hu
      rw [← Option.some.inj hu]
      exact g0
    · rw [h1] at hu
      rw [key 1 (by omega), ← Option.some.inj hu]
      exact g1
    · rw [h2] at hu
      rw [key 2 (by omega), ← Option.some.inj hu]
      exact g2
theorem LRow.of_cells {w : World} {g : Nat} {fs : List FL} (hg : g < w.heap.size) (h : ∀ j u, (lcells fs)[j]? = some u → w.cell? ((⟨g, 0, none⟩ : Addr).add j) = some u) : LRow w w.heap.size (some ⟨g, 0, none⟩) fs := by
  refine .inr ⟨_, rfl, hg, fun k f hf => ?_⟩
  obtain ⟨h0, h1, h2⟩ := lcells_at fs k f hf
  have e : ∀ i, (⟨g, 0, none⟩ : Addr).add (k * 3 + i) = ⟨((⟨g, 0, none⟩ : Addr).add (k * 3)).block, ((⟨g, 0, none⟩ : Addr).add (k * 3)).off + i, none⟩ := by
    intro i
    rw [add0, add0]
  exact ⟨h _ _ h0, by rw [← e]; exact h _ _ h1, by rw [← e]; exact h _ _ h2⟩
theorem LRow.own {w : World} {base : Nat} {A : Option Addr} {n c : Nat} {fs : List FL} (h : LOwn w base A n c fs) : LRow w w.heap.size A fs := by
  rcases h.2 with ⟨e1, e2⟩ | ⟨g, cap, cur, e1, hb, hg, _, _, _, ht⟩
  · left
    have := h.1
    rw [lcells_len] at this
    cases fs with
    | nil => rfl
    | cons f fs => simp at this; omega
  · have hA : A = some ⟨g, 0, none⟩ := by injection e1
    subst hA
    exact LRow.of_cells (Array.getElem?_eq_some_iff.1 hg).1 (h.cells (g := g) rfl)
theorem LOwn.len {w : World} {base : Nat} {A : Option Addr} {n c : Nat} {fs : List FL} (h : LOwn w base A n c fs) : fs.length = n := by
  have := h.1
  rw [lcells_len] at this
  omega

theorem Try.infoFl : (Try.prog.info? 23).map (fun i => (i.zero, i.size, i.bytes)) = some (some (.agg #[.bool false, .int .i64 0, .int .i64 0]), 3, 24) := by kernel_rfl

theorem run_append_fl (w : World) (base : Nat) (ty : TypeId) (v : Value) (n : Nat) (fs : List FL) (hown : w.ownsRow base 23 3 v n (lcells fs))
    (A : Option Addr) (m c B : Nat) (fs' : List FL) (hm : fs'.length = m) (hr : LRow w B A fs') (h63 : n + m ≤ 1000) (hbase : base ≤ w.heap.size) :
    ∃ A' c' w', (Builtin.append_ #[24, 24] ty #[v, .slice A m c]).run Try.prog w = .ok (.slice A' (n + m) c') w' ∧ LOwn w' base A' (n + m) c' (fs ++ fs') ∧ n + m ≤ c' ∧ Below base w w' := by
  obtain ⟨i, hi, hz, hsize, hby⟩ := info_parts Try.infoFl
  have hu := Try.underlying24
  have form : ∀ (v' : Value) (w' : World), w'.ownsRow base 23 3 v' (n + m) (lcells (fs ++ fs')) → ∃ A' c', v' = .slice A' (n + m) c' ∧ n + m ≤ c' := by
    intro v' w' h
    rcases h.2 with ⟨rfl, h0⟩ | ⟨g, cap, cur, rfl, _, _, hc, _⟩
    · exact ⟨none, 0, by rw [h0], by omega⟩
    · exact ⟨_, _, rfl, hc⟩
  have low : ∀ k, v.ownBlock = some k → base ≤ k := fun k e => (hown.lt k e).1
  cases A with
  | some ad =>
    obtain ⟨v', w', hrun, h2, h3, _, _⟩ := run_append_own_at (P := Try.prog) w base 24 ty 23 i _ 3 24 hu hi hz hsize hby rfl (by omega) v n _ hown ad m c (lcells fs') (by rw [lcells_len, hm]) hr.cells (lcells_one fs') (by unfold maxLen; omega) (by omega) hbase
    rw [← lcells_app] at h2
    obtain ⟨A', c', rfl, hc'⟩ := form v' w' h2
    exact ⟨A', c', w', hrun, h2, hc', (Below.refl _ _).grown h3 hbase low⟩
  | none =>
    obtain rfl : fs' = [] := by
      rcases hr with rfl | ⟨ad, e', _⟩
      · rfl
      · cases e'
    obtain rfl : m = 0 := hm.symm
    have hrun : (Builtin.append_ #[24, 24] ty #[v, .slice none 0 c]).run Try.prog w = .ok v w := by
      rcases hown.2 with ⟨rfl, rfl⟩ | ⟨g, cap, cur, rfl, _, _, hnc, _⟩
      · simp [Builtin.append_, run_underlying hu, sizeOf, typeInfo, hi, Builtin.lenOf, Builtin.firstCells]
      · simp [Builtin.append_, run_underlying hu, sizeOf, typeInfo, hi, Builtin.lenOf, Builtin.firstCells, hnc, storeCells]
    have h2 : w.ownsRow base 23 3 v (n + 0) (lcells (fs ++ [])) := by simpa using hown
    obtain ⟨A', c', rfl, hc'⟩ := form v w h2
    exact ⟨A', c', w, hrun, h2, hc', Below.refl _ _⟩

theorem wpList_append_fl (w : World) {ops : Array Oper} {rest : List Oper} {o : Oper} {a : Act} {Q : Exit → Act → World → Prop} (hw : Region.wanted o (yielded ops a.tmps) = true) (s x : Operand)
    (ho : o.op = .call { callee := .builtin .append, args := #[s, x], argTypes := #[24, 24] })
    (base : Nat) (v : Value) (n : Nat) (fs : List FL) (hs : a.eval s = v) (hown : w.ownsRow base 23 3 v n (lcells fs))
    (A : Option Addr) (m c B : Nat) (fs' : List FL) (hx : a.eval x = .slice A m c) (hm : fs'.length = m) (hr : LRow w B A fs')
    (h63 : n + m ≤ 1000) (hbase : base ≤ w.heap.size)
    (h : ∀ A' c' w', LOwn w' base A' (n + m) c' (fs ++ fs') → n + m ≤ c' → Below base w w' → wpList Try.prog ops Q rest (a.put o.dst (.slice A' (n + m) c')) w') : wpList Try.prog ops Q (o :: rest) a w := by
  obtain ⟨A', c', w', hrun, h2, hc', h3⟩ := run_append_fl w base o.type v n fs hown A m c B fs' hm hr h63 hbase
  unfold wpList
  rw [if_pos hw]
  left
  unfold Oper.wp execOp
  simp only [ho, resolve, invoke, builtin, Sem.run_bind, Sem.run_pure, Result.andThen_ok, List.map_toArray, List.map_cons, List.map_nil, hs, hx, hrun]
  exact h A' c' w' h2 hc' h3

/-- Filters, written out in the text. -/
theorem LRow.lit (W : World) (fs : List FL) {k : Nat} {cs : Array Value} (hcs : cs = (lcells fs).toArray) (hk : k = W.heap.size) : LRow (W.alloc (.cells cs 23)) (W.alloc (.cells cs 23)).heap.size (some ⟨k, 0, none⟩) fs := by
  subst hk hcs
  refine LRow.of_cells (by simp) fun j u hu => ?_
  rw [add0]
  have hb := World.alloc_heap_new W (.cells (lcells fs).toArray 23)
  simp only [World.cell?, hb]
  simpa using hu
theorem LRow.lit1 (W : World) (f : FL) {k : Nat} (hk : k = W.heap.size) : LRow (W.alloc (.cells #[.bool f.x, .int .i64 f.k, .int .i64 f.m] 23)) (W.alloc (.cells #[.bool f.x, .int .i64 f.k, .int .i64 f.m] 23)).heap.size (some ⟨k, 0, none⟩) [f] := LRow.lit W [f] rfl hk
theorem lown_empty (W : World) (base g : Nat) (hg : g = W.heap.size) (hb : base ≤ W.heap.size) : LOwn (W.alloc (.cells #[] 23)) base (some ⟨g, 0, none⟩) 0 0 [] := by
  subst hg
  exact ⟨rfl, .inr ⟨W.heap.size, 0, _, rfl, hb, World.alloc_heap_new _ _, Nat.zero_le _, by decide, by simp, by simp [lcells]⟩⟩
theorem lown_one (W : World) (base : Nat) (f : FL) {g : Nat} (hg : g = W.heap.size) (hb : base ≤ W.heap.size) : LOwn (W.alloc (.cells #[.bool f.x, .int .i64 f.k, .int .i64 f.m] 23)) base (some ⟨g, 0, none⟩) 1 1 [f] := by
  subst hg
  exact ⟨rfl, .inr ⟨W.heap.size, 1, _, rfl, hb, World.alloc_heap_new _ _, Nat.le_refl _, by unfold maxLen; omega, by simp, by simp [lcells, FL.cs]⟩⟩

end Go.Proofs.Ytmffflckcpgjiaa
