/-
  Rows of frames that the call itself made; the document's Frames (layer 6).
-/
import Derived.Test.YtfmlnfblfhmapaaArbM
namespace Go.Proofs.Ytfmlnfblfhmapaa
open Go.RowKit
set_option linter.unusedVariables false
set_option linter.unusedSimpArgs false

def fcells (fs : List FV) : List Value := fs.flatMap FV.cs
theorem fcells_len (fs : List FV) : (fcells fs).length = fs.length * 5 := by
  induction fs with
  | nil => rfl
  | cons f fs ih => simp only [fcells, List.flatMap_cons, List.length_append, List.length_cons] at ih ⊢; rw [ih]; simp [FV.cs]; omega
theorem fcells_app (a b : List FV) : fcells (a ++ b) = fcells a ++ fcells b := by simp [fcells]
theorem fcells_at : ∀ (fs : List FV) (k : Nat) (f : FV), fs[k]? = some f → (fcells fs)[k * 5]? = some (.bool f.x) ∧ (fcells fs)[k * 5 + 1]? = some (.int .i64 f.i) ∧ (fcells fs)[k * 5 + 2]? = some (.bool f.r) ∧ (fcells fs)[k * 5 + 3]? = some (.int .i64 f.n) ∧ (fcells fs)[k * 5 + 4]? = some (.slice f.a f.m f.c)
  | [], k, f, h => by simp at h
  | g :: fs, 0, f, h => by
    simp at h
    subst h
    simp [fcells, FV.cs]
  | g :: fs, k + 1, f, h => by
    obtain ⟨h0, h1, h2, h3, h4⟩ := fcells_at fs k f (by simpa using h)
    have e : fcells (g :: fs) = FV.cs g ++ fcells fs := rfl
    have hl : (FV.cs g).length = 5 := rfl
    rw [e]
    refine ⟨?_, ?_, ?_, ?_, ?_⟩
    · rw [List.getElem?_append_right (by omega), hl, show (k + 1) * 5 - 5 = k * 5 by omega]; exact h0
    · rw [List.getElem?_append_right (by omega), hl, show (k + 1) * 5 + 1 - 5 = k * 5 + 1 by omega]; exact h1
    · rw [List.getElem?_append_right (by omega), hl, show (k + 1) * 5 + 2 - 5 = k * 5 + 2 by omega]; exact h2
    · rw [List.getElem?_append_right (by omega), hl, show (k + 1) * 5 + 3 - 5 = k * 5 + 3 by omega]; exact h3
    · rw [List.getElem?_append_right (by omega), hl, show (k + 1) * 5 + 4 - 5 = k * 5 + 4 by omega]; exact h4
theorem fcells_one (fs : List FV) : ∀ u ∈ fcells fs, u.oneCell' = true := by
  intro u hu
  obtain ⟨f, _, hf⟩ := List.mem_flatMap.1 hu
  simp only [FV.cs, List.mem_cons, List.not_mem_nil, or_false] at hf
  rcases hf with rfl | rfl | rfl | rfl | rfl <;> rfl

abbrev FOwn (w : World) (base : Nat) (A : Option Addr) (n c : Nat) (fs : List FV) : Prop := w.ownsRow base 35 5 (.slice A n c) n (fcells fs)

theorem add_pos (a : Addr) (i : Nat) (h : 0 < i) : a.add i = ⟨a.block, a.off + i, none⟩ := by
  unfold Addr.add
  split
  · omega
  · rfl
/-- The cells of a slice of frames, all told. -/
theorem FRow.cells {w : World} {B : Nat} {ad : Addr} {fs : List FV} (h : FRow w B (some ad) fs) : ∀ j u, (fcells fs)[j]? = some u → w.cell? (ad.add j) = some u := by
  intro j u hu
  rcases h with rfl | ⟨ad', e, _, hc⟩
  · simp [fcells] at hu
  · obtain rfl := Option.some.inj e
    have hj : j < fs.length * 5 := by rw [← fcells_len]; exact (List.getElem?_eq_some_iff.1 hu).1
    obtain ⟨f, hf⟩ : ∃ f, fs[j / 5]? = some f := ⟨_, List.getElem?_eq_getElem (by omega)⟩
    obtain ⟨h0, h1, h2, h3, h4⟩ := fcells_at fs (j / 5) f hf
    obtain ⟨g0, g1, g2, g3, g4⟩ := hc (j / 5) f hf
    have key : ∀ i, 0 < i → ad.add (j / 5 * 5 + i) = ⟨(ad.add (j / 5 * 5)).block, (ad.add (j / 5 * 5)).off + i, none⟩ := by
      intro i h0
      rw [← addr_add, add_pos _ _ h0]
    obtain ⟨K, hK⟩ : ∃ K, j / 5 = K := ⟨_, rfl⟩
    rw [hK] at h0 h1 h2 h3 h4 g0 g1 g2 g3 g4 key
    have hr : j = K * 5 ∨ j = K * 5 + 1 ∨ j = K * 5 + 2 ∨ j = K * 5 + 3 ∨ j = K * 5 + 4 := by omega
    clear hK hf hj
    rcases hr with rfl | rfl | rfl | rfl | rfl
    · rw [h0] at hu
      rw [← Option.some.inj hu]
      exact g0
    · rw [h1] at hu
      rw [key 1 (by omega), ← Option.some.inj hu]
      exact g1
    · rw [h2] at hu
      rw [key 2 (by omega), ← Option.some.inj hu]
      exact g2
    · rw [h3] at hu
      rw [key 3 (by omega), ← Option.some.inj hu]
      exact g3
    · rw [h4] at hu
      rw [key 4 (by omega), ← Option.some.inj hu]
      exact g4
theorem add0 (g k : Nat) : (⟨g, 0, none⟩ : Addr).add k = ⟨g, k, none⟩ := by unfold Addr.add; split <;> simp_all
theorem FRow.of_cells {w : World} {g : Nat} {fs : List FV} (hg : g < w.heap.size) (h : ∀ j u, (fcells fs)[j]? = some u → w.cell? ((⟨g, 0, none⟩ : Addr).add j) = some u) : FRow w w.heap.size (some ⟨g, 0, none⟩) fs := by
  refine .inr ⟨_, rfl, hg, fun k f hf => ?_⟩
  obtain ⟨h0, h1, h2, h3, h4⟩ := fcells_at fs k f hf
  have e : ∀ i, (⟨g, 0, none⟩ : Addr).add (k * 5 + i) = ⟨((⟨g, 0, none⟩ : Addr).add (k * 5)).block, ((⟨g, 0, none⟩ : Addr).add (k * 5)).off + i, none⟩ := by
    intro i
    rw [add0, add0]
  exact ⟨h _ _ h0, by rw [← e]; exact h _ _ h1, by rw [← e]; exact h _ _ h2, by rw [← e]; exact h _ _ h3, by rw [← e]; exact h _ _ h4⟩
theorem FRow.own {w : World} {base : Nat} {A : Option Addr} {n c : Nat} {fs : List FV} (h : FOwn w base A n c fs) : FRow w w.heap.size A fs := by
  rcases h.2 with ⟨e1, e2⟩ | ⟨g, cap, cur, e1, hb, hg, _, _, _, ht⟩
  · left
    have := h.1
    rw [fcells_len] at this
    cases fs with
    | nil => rfl
    | cons f fs => simp at this; omega
  · have hA : A = some ⟨g, 0, none⟩ := by injection e1
    subst hA
    exact FRow.of_cells (Array.getElem?_eq_some_iff.1 hg).1 (h.cells (g := g) rfl)
theorem FOwn.len {w : World} {base : Nat} {A : Option Addr} {n c : Nat} {fs : List FV} (h : FOwn w base A n c fs) : fs.length = n := by
  have := h.1
  rw [fcells_len] at this
  omega
theorem FOwn.cap {w : World} {base : Nat} {A : Option Addr} {n c : Nat} {fs : List FV} (h : FOwn w base A n c fs) : n ≤ c := by
  rcases h.2 with ⟨e1, e2⟩ | ⟨g, cap, cur, e1, hb, hg, hn, _⟩
  · omega
  · injection e1 with _ _ e; omega
theorem FRow.sub_ {w : World} {B : Nat} {A : Option Addr} {fs : List FV} (h : FRow w B A fs) (i j : Nat) (hij : i ≤ j) (hj : j ≤ fs.length) {A' : Option Addr} (hA : i < j → A' = A.map (·.add (i * 5))) : FRow w B A' ((fs.drop i).take (j - i)) := by
  by_cases hlt : i < j
  · rcases h with rfl | ⟨ad, e, hb, hc⟩
    · simp at hj; omega
    · right
      subst e
      refine ⟨ad.add (i * 5), by rw [hA hlt]; rfl, by rw [addr_block]; exact hb, fun k x hx => ?_⟩
      rw [addr_add, show i * 5 + k * 5 = (i + k) * 5 by omega]
      refine hc _ x ?_
      rw [List.getElem?_take] at hx
      split at hx
      · rw [List.getElem?_drop] at hx; exact hx
      · cases hx
  · left
    rw [show j - i = 0 by omega]; simp

theorem Try.infoFr : (Try.prog.info? 35).map (fun i => (i.zero, i.size, i.bytes)) = some (some (.agg #[.bool false, .int .i64 0, .bool false, .int .i64 0, .slice none 0 0]), 5, 56) := by kernel_rfl

theorem run_append_fr (w : World) (base : Nat) (ty : TypeId) (v : Value) (n : Nat) (fs : List FV) (hown : w.ownsRow base 35 5 v n (fcells fs))
    (A : Option Addr) (m c B : Nat) (fs' : List FV) (hm : fs'.length = m) (hr : FRow w B A fs') (h63 : n + m ≤ 1000) (hbase : base ≤ w.heap.size) :
    ∃ A' c' w', (Builtin.append_ #[22, 22] ty #[v, .slice A m c]).run Try.prog w = .ok (.slice A' (n + m) c') w' ∧ FOwn w' base A' (n + m) c' (fs ++ fs') ∧ n + m ≤ c' ∧ Below base w w' := by
  obtain ⟨i, hi, hz, hsize, hby⟩ := info_parts Try.infoFr
  have hu := Try.underlying22
  have form : ∀ (v' : Value) (w' : World), w'.ownsRow base 35 5 v' (n + m) (fcells (fs ++ fs')) → ∃ A' c', v' = .slice A' (n + m) c' ∧ n + m ≤ c' := by
    intro v' w' h
    rcases h.2 with ⟨rfl, h0⟩ | ⟨g, cap, cur, rfl, _, _, hc, _⟩
    · exact ⟨none, 0, by rw [h0], by omega⟩
    · exact ⟨_, _, rfl, hc⟩
  have low : ∀ k, v.ownBlock = some k → base ≤ k := fun k e => (hown.lt k e).1
  cases A with
  | some ad =>
    obtain ⟨v', w', hrun, h2, h3, _, _⟩ := run_append_own_at (P := Try.prog) w base 22 ty 35 i _ 5 56 hu hi hz hsize hby rfl (by omega) v n _ hown ad m c (fcells fs') (by rw [fcells_len, hm]) hr.cells (fcells_one fs') (by unfold maxLen; omega) (by omega) hbase
    rw [← fcells_app] at h2
    obtain ⟨A', c', rfl, hc'⟩ := form v' w' h2
    exact ⟨A', c', w', hrun, h2, hc', (Below.refl _ _).grown h3 hbase low⟩
  | none =>
    obtain rfl : fs' = [] := by
      rcases hr with rfl | ⟨ad, e', _⟩
      · rfl
      · cases e'
    obtain rfl : m = 0 := hm.symm
    have hrun : (Builtin.append_ #[22, 22] ty #[v, .slice none 0 c]).run Try.prog w = .ok v w := by
      rcases hown.2 with ⟨rfl, rfl⟩ | ⟨g, cap, cur, rfl, _, _, hnc, _⟩
      · simp [Builtin.append_, run_underlying hu, sizeOf, typeInfo, hi, Builtin.lenOf, Builtin.firstCells]
      · simp [Builtin.append_, run_underlying hu, sizeOf, typeInfo, hi, Builtin.lenOf, Builtin.firstCells, hnc, storeCells]
    have h2 : w.ownsRow base 35 5 v (n + 0) (fcells (fs ++ [])) := by simpa using hown
    obtain ⟨A', c', rfl, hc'⟩ := form v w h2
    exact ⟨A', c', w, hrun, h2, hc', Below.refl _ _⟩

theorem wpList_append_fr (w : World) {ops : Array Oper} {rest : List Oper} {o : Oper} {a : Act} {Q : Exit → Act → World → Prop} (hw : Region.wanted o (yielded ops a.tmps) = true) (s x : Operand)
    (ho : o.op = .call { callee := .builtin .append, args := #[s, x], argTypes := #[22, 22] })
    (base : Nat) (v : Value) (n : Nat) (fs : List FV) (hs : a.eval s = v) (hown : w.ownsRow base 35 5 v n (fcells fs))
    (A : Option Addr) (m c B : Nat) (fs' : List FV) (hx : a.eval x = .slice A m c) (hm : fs'.length = m) (hr : FRow w B A fs')
    (h63 : n + m ≤ 1000) (hbase : base ≤ w.heap.size)
    (h : ∀ A' c' w', FOwn w' base A' (n + m) c' (fs ++ fs') → n + m ≤ c' → Below base w w' → wpList Try.prog ops Q rest (a.put o.dst (.slice A' (n + m) c')) w') : wpList Try.prog ops Q (o :: rest) a w := by
  obtain ⟨A', c', w', hrun, h2, hc', h3⟩ := run_append_fr w base o.type v n fs hown A m c B fs' hm hr h63 hbase
  unfold wpList
  rw [if_pos hw]
  left
  unfold Oper.wp execOp
  simp only [ho, resolve, invoke, builtin, Sem.run_bind, Sem.run_pure, Result.andThen_ok, List.map_toArray, List.map_cons, List.map_nil, hs, hx, hrun]
  exact h A' c' w' h2 hc' h3

/-- One frame, written out in the text. -/
theorem FRow.lit1 (W : World) (f : FV) {k : Nat} (hk : k = W.heap.size) : FRow (W.alloc (.cells #[.bool f.x, .int .i64 f.i, .bool f.r, .int .i64 f.n, .slice f.a f.m f.c] 35)) (W.alloc (.cells #[.bool f.x, .int .i64 f.i, .bool f.r, .int .i64 f.n, .slice f.a f.m f.c] 35)).heap.size (some ⟨k, 0, none⟩) [f] := by
  subst hk
  refine FRow.of_cells (by simp) fun j u hu => ?_
  rw [add0]
  have hb := World.alloc_heap_new W (.cells #[.bool f.x, .int .i64 f.i, .bool f.r, .int .i64 f.n, .slice f.a f.m f.c] 35)
  simp only [World.cell?, hb]
  simpa [fcells, FV.cs] using hu
theorem fown_empty (W : World) (base g : Nat) (hg : g = W.heap.size) (hb : base ≤ W.heap.size) : FOwn (W.alloc (.cells #[] 35)) base (some ⟨g, 0, none⟩) 0 0 [] := by
  subst hg
  exact ⟨rfl, .inr ⟨W.heap.size, 0, _, rfl, hb, World.alloc_heap_new _ _, Nat.zero_le _, by decide, by simp, by simp [fcells]⟩⟩

/-- A frame that can be read whole. -/
def FData (w : World) (f : FV) : Prop := f.m ≤ maxLen ∧ f.m ≤ f.c ∧ ∃ dl : List Int, dl.length = f.m ∧ Row .u8 w w.heap.size f.a dl
theorem FData.to {w w' : World} {f : FV} (h : FData w f) (b : Below w.heap.size w w') : FData w' f := by
  obtain ⟨h1, h2, dl, h3, h4⟩ := h
  exact ⟨h1, h2, dl, h3, h4.to b⟩

set_option maxRecDepth 100000 in
set_option maxHeartbeats 1000000 in
theorem frames_any (M : Nat) (hM : M ≤ 10) (fs : List FV) (n : Nat) (hn : fs.length = n) (A : Option Addr) (c : Nat) (w : World) (h : FRow w w.heap.size A fs) (hd : ∀ f ∈ fs, FData w f) (hm : n ≤ maxLen) :
    Calls Try.prog 12 #[.slice A n c, .int .i64 M] w fun e w' => ∃ (A' : Option Addr) (m c' : Nat) (gs : List FV), e = .returned (.slice A' m c') ∧ gs.length = m ∧ m ≤ M ∧ m ≤ c' ∧ (∀ g ∈ gs, FOk g) ∧ FOwn w' w.heap.size A' m c' gs ∧ Below w.heap.size w w' := by
  unfold maxLen at hm
  have Hn := Lib.hid hn
  have HD := Lib.hid hd
  clear hn hd
  go_enter Try.func12, Try.ntmps12
  go_wp2_with fail
  go_loopw [5, 6] (fun o i wr => ∃ (k : Nat) (A' : Option Addr) (c' : Nat) (gs : List FV), k ≤ n ∧ k ≤ M ∧ i = .int .i64 k ∧ o = .slice A' k c' ∧ gs.length = k ∧ k ≤ c' ∧ (∀ g ∈ gs, FOk g) ∧ FOwn wr w.heap.size A' k c' gs ∧ Below w.heap.size w wr)
    (fun _ i _ => n - (intOf i).toNat)
  case atStart => exact ⟨0, _, 0, [], Nat.zero_le _, Nat.zero_le _, rfl, rfl, rfl, Nat.le_refl _, by simp, fown_empty w _ _ rfl (Nat.le_refl _), (Below.refl _ _).alloc (Nat.le_refl _) _⟩
  case round =>
    obtain ⟨k, A', c', gs, hk, hkM, rfl, rfl, hgl, hkc, hgok, hown, hB⟩ := hrel
    have hsz := hB.size
    by_cases hlt : k < n
    · by_cases hltM : k < M
      · obtain ⟨ad, f, rfl, hf, h0, h1, h2, h3, h4⟩ := (h.below hB).get_ (k := k) (by rw [Hn.out]; exact hlt)
        obtain ⟨hf1, hf2, dl, hf3, hf4⟩ := (HD.out f (List.mem_of_getElem? hf)).to hB
        have HG := Lib.hid (And.intro hgok hgl)
        clear hf hgok hgl
        go_wp2_with fail
        refine (made_any f wr dl hf3 hf4 hf1 hf2).mono ?_
        rintro e w1 ⟨f', rfl, hmade, hB1⟩
        have hok' := hmade.ok
        have hown1 := own_to hown hB1
        clear hmade h0 h1 h2 h3 h4 hf1 hf2 hf3 hf4
        obtain ⟨x', i', r', n', a', m', c1⟩ := f'
        have hs1 : w.heap.size ≤ w1.heap.size := Nat.le_trans hsz hB1.size
        go_wp2_with (at_builtin; refine wpList_append_fr _ rfl _ _ rfl w.heap.size _ k gs rfl (hown1.alloc _) (some ⟨w1.heap.size, 0, none⟩) 1 1 _ [⟨x', i', r', n', a', m', c1⟩] rfl rfl (FRow.lit1 w1 ⟨x', i', r', n', a', m', c1⟩ rfl) (by omega) (by simp; omega) ?_; intro A2 c2 w2 hown2 hc2 hB2)
        have hBB : Below w.heap.size w w2 := ((hB.trans (hB1.mono hsz)).alloc hs1 _).trans hB2
        refine ⟨⟨k + 1, A2, c2, gs ++ [⟨x', i', r', n', a', m', c1⟩], by omega, by omega, by go_num, rfl, by simp [HG.out.2], hc2, ?_, hown2, hBB⟩, by simp [intOf]; omega⟩
        intro g hg
        rcases List.mem_append.1 hg with h' | h'
        · exact HG.out.1 g h'
        · simp at h'
          subst h'
          exact hok'
      · obtain rfl : k = M := by omega
        go_wp2
        go_ret
        exact ⟨A', k, c', gs, rfl, hgl, Nat.le_refl _, hkc, hgok, hown, hB⟩
    · obtain rfl : k = n := by omega
      go_wp2
      go_ret
      exact ⟨A', k, c', gs, rfl, hgl, hkM, hkc, hgok, hown, hB⟩

end Go.Proofs.Ytfmlnfblfhmapaa
