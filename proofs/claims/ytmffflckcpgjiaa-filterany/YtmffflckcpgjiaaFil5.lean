/-
  Own rows of filters carried on; an append of filters in a region that draws its order; what filters one behind the other take.
-/
import Derived.Test.YtmffflckcpgjiaaFilLaw
import Derived.Test.YtmffflckcpgjiaaHead7
namespace Go.Proofs.Ytmffflckcpgjiaa
open Go.RowKit
set_option linter.unusedVariables false

theorem lown_to {w w' : World} {base : Nat} {A : Option Addr} {n c : Nat} {fs : List FL} (h : LOwn w base A n c fs) (b : Below w.heap.size w w') : LOwn w' base A n c fs := by
  refine ⟨h.1, ?_⟩
  rcases h.2 with h | ⟨g, cap, cur, e1, hb, hg, h3, h4, h5, ht⟩
  · exact .inl h
  · exact .inr ⟨g, cap, cur, e1, hb, block_below b hg, h3, h4, h5, ht⟩

theorem held_ll7 {w W : World} {a : Addr} {f : FL} {G : Nat} {g : FL} (h1 : LAt w a f) (ha : a.block < w.heap.size) (h2 : HasL w G g) (b : Below w.heap.size w W) :
    W.cell? a = some (.bool f.x) ∧ W.cell? ⟨a.block, a.off + 1, none⟩ = some (.int .i64 f.k) ∧ W.cell? ⟨a.block, a.off + 2, none⟩ = some (.int .i64 f.m) ∧ W.cell? ⟨G, 0, none⟩ = some (.bool g.x) ∧ W.cell? ⟨G, 1, none⟩ = some (.int .i64 g.k) ∧ W.cell? ⟨G, 2, none⟩ = some (.int .i64 g.m) := by
  obtain ⟨a0, a1, a2⟩ := h1
  obtain ⟨b0, b1, b2⟩ := cells3' (block_below b h2)
  exact ⟨(b.cell ha).trans a0, (b.cell (p := ⟨a.block, a.off + 1, none⟩) ha).trans a1, (b.cell (p := ⟨a.block, a.off + 2, none⟩) ha).trans a2, b0, b1, b2⟩
theorem lat_to {w W : World} {a : Addr} {f : FL} (h1 : LAt w a f) (ha : a.block < w.heap.size) (b : Below w.heap.size w W) : LAt W a f := by
  obtain ⟨a0, a1, a2⟩ := h1
  exact ⟨(b.cell ha).trans a0, (b.cell (p := ⟨a.block, a.off + 1, none⟩) ha).trans a1, (b.cell (p := ⟨a.block, a.off + 2, none⟩) ha).trans a2⟩

theorem run_append_flG (w : World) (base : Nat) (ty : TypeId) (v : Value) (n : Nat) (fs : List FL) (hown : w.ownsRow base 23 3 v n (lcells fs))
    (A : Option Addr) (m c B : Nat) (fs' : List FL) (hm : fs'.length = m) (hr : LRow w B A fs') (h63 : n + m ≤ 1000) (hbase : base ≤ w.heap.size) :
    ∃ A' c' w', (Builtin.append_ #[24, 24] ty #[v, .slice A m c]).run Try.prog w = .ok (.slice A' (n + m) c') w' ∧ LOwn w' base A' (n + m) c' (fs ++ fs') ∧ w.grownBy w' v.ownBlock ∧ Below base w w' := by
  obtain ⟨i, hi, hz, hsize, hby⟩ := info_parts Try.infoFl
  have hu := Try.underlying24
  have form : ∀ (v' : Value) (w' : World), w'.ownsRow base 23 3 v' (n + m) (lcells (fs ++ fs')) → ∃ A' c', v' = .slice A' (n + m) c' := by
    intro v' w' h
    rcases h.2 with ⟨rfl, h0⟩ | ⟨g, cap, cur, rfl, _, _, hc, _⟩
    · exact ⟨none, 0, by rw [h0]⟩
    · exact ⟨_, _, rfl⟩
  have low : ∀ k, v.ownBlock = some k → base ≤ k := fun k e => (hown.lt k e).1
  cases A with
  | some ad =>
    obtain ⟨v', w', hrun, h2, h3, _, _⟩ := run_append_own_at (P := Try.prog) w base 24 ty 23 i _ 3 24 hu hi hz hsize hby rfl (by omega) v n _ hown ad m c (lcells fs') (by rw [lcells_len, hm]) hr.cells (lcells_one fs') (by unfold maxLen; omega) (by omega) hbase
    rw [← lcells_app] at h2
    obtain ⟨A', c', rfl⟩ := form v' w' h2
    exact ⟨A', c', w', hrun, h2, h3, (Below.refl _ _).grown h3 hbase low⟩
  | none =>
    obtain rfl : fs' = [] := by
      rcases hr with rfl | ⟨ad, e', _⟩
      · rfl
      · cases e'
    obtain rfl : m = 0 := hm.symm
    have hrun : (Builtin.append_ #[24, 24] ty #[v, .slice none 0 c]).run Try.prog w = .ok v w := by
      rcases hown.2 with ⟨rfl, rfl⟩ | ⟨g, cap, cur, rfl, _, _, hnc, _⟩
      · simp [Builtin.append_, run_underlying hu, sizeOf, typeInfo, hi, Builtin.lenOf, Builtin.firstCells]
      · simp [Builtin.append_, run_underlying hu, sizeOf, typeInfo, hi, Builtin.lenOf, Builtin.firstCells, hnc, storeCells]
    have h2 : w.ownsRow base 23 3 v (n + 0) (lcells (fs ++ [])) := by simpa using hown
    obtain ⟨A', c', rfl⟩ := form v w h2
    exact ⟨A', c', w, hrun, h2, ⟨rfl, rfl, rfl, Nat.le_refl _, fun _ _ _ => rfl⟩, Below.refl _ _⟩

theorem step_append_fl {w : World} {ops : Array Oper} {o : Oper} {a : Act} {K : Act → World → Prop} {Q : Exit → Act → World → Prop} {E : Prop} (hgd : o.guard = none) (s x : Operand)
    (ho : o.op = .call { callee := .builtin .append, args := #[s, x], argTypes := #[24, 24] })
    (base : Nat) (v : Value) (n : Nat) (fs : List FL) (hs : a.eval s = v) (hown : w.ownsRow base 23 3 v n (lcells fs))
    (A : Option Addr) (m c B : Nat) (fs' : List FL) (hx : a.eval x = .slice A m c) (hm : fs'.length = m) (hr : LRow w B A fs')
    (h63 : n + m ≤ 1000) (hbase : base ≤ w.heap.size)
    (h : ∀ A' c' w', LOwn w' base A' (n + m) c' (fs ++ fs') → w.grownBy w' v.ownBlock → Below base w w' → K (a.put o.dst (.slice A' (n + m) c')) w') :
    if Region.wanted o (yielded ops a.tmps) = true then Oper.wp Try.prog o a w K Q else E := by
  obtain ⟨A', c', w', hrun, h2, hc', h3⟩ := run_append_flG w base o.type v n fs hown A m c B fs' hm hr h63 hbase
  have hw : Region.wanted o (yielded ops a.tmps) = true := by simp [Region.wanted, hgd]
  rw [if_pos hw]
  unfold Oper.wp execOp
  simp only [ho, resolve, invoke, builtin, Sem.run_bind, Sem.run_pure, Result.andThen_ok, List.map_toArray, List.map_cons, List.map_nil, hs, hx, hrun]
  exact h A' c' w' h2 hc' h3

theorem lrow_grown {w w' : World} {F G : Nat} {fs : List FL} (g : w.grownBy w' (some F)) (hne : G ≠ F) (h : LRow w w.heap.size (some ⟨G, 0, none⟩) fs) : LRow w' w'.heap.size (some ⟨G, 0, none⟩) fs := by
  rcases h with rfl | ⟨ad, e, hb, hc⟩
  · exact .inl rfl
  · obtain rfl := Option.some.inj e
    have hG : w'.heap[G]? = w.heap[G]? := g.block G hb (by simpa using hne)
    have key : ∀ p : Addr, p.block = G → w'.cell? p = w.cell? p := fun p hp => World.cell?_of_block (by rw [hp]; exact hG)
    refine .inr ⟨_, rfl, Nat.lt_of_lt_of_le hb g.size, fun k f hf => ?_⟩
    obtain ⟨h0, h1, h2⟩ := hc k f hf
    have hbk : ((⟨G, 0, none⟩ : Addr).add (k * 3)).block = G := addr_block _ _
    exact ⟨(key _ hbk).trans h0, (key ⟨_, _, none⟩ hbk).trans h1, (key ⟨_, _, none⟩ hbk).trans h2⟩

theorem any_take {fs : List FL} {k : Nat} {f : FL} (hf : fs[k]? = some f) (p : FL → Bool) : (fs.take (k + 1)).any p = ((fs.take k).any p || p f) := by
  rw [List.take_add_one, hf]
  simp
theorem rev_take {fs : List FL} {k : Nat} {f : FL} (hf : fs[k]? = some f) : (fs.take (k + 1)).reverse = [f] ++ (fs.take k).reverse := by
  rw [List.take_add_one, hf]
  simp
theorem anyV_rev (fs : List FL) (x : Bool) (i : Int) : anyV fs.reverse x i = anyV fs x i := by
  unfold anyV
  rw [List.any_reverse]
  cases fs <;> simp
theorem anyV_snoc (fs : List FL) (g : FL) (x : Bool) (i : Int) : anyV (fs ++ [g]) x i = (fs.any (takesV · x i) || takesV g x i) := by
  unfold anyV
  cases fs <;> simp [Bool.or_assoc]
theorem anyV_of (fs : List FL) (x : Bool) (i : Int) {z : Bool} (hz : (fs.length == 0) = z) : (z || fs.any (takesV · x i)) = anyV fs x i := by
  unfold anyV
  subst hz
  cases fs <;> simp
theorem covered_any {fs : List FL} {g : FL} (hg : goodV fs = true) {K M : Nat} (hgok : OkL g K M) (hc : fs.any (coversV · g) = true) {x : Bool} {i : Nat} (hi : i < 4611686018427387904) (ht : takesV g x i = true) : fs.any (takesV · x i) = true := by
  rw [List.any_eq_true] at hc ⊢
  obtain ⟨f, hf, hcf⟩ := hc
  obtain ⟨K', M', hok⟩ := okL_of (List.all_eq_true.1 hg f hf)
  exact ⟨f, hf, covers_takes hok hgok hcf hi ht⟩

end Go.Proofs.Ytmffflckcpgjiaa
