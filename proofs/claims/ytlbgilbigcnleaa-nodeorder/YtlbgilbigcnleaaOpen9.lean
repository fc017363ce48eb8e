/-
  Nodes, frames, slices of frames and of filters that came in as arguments, told by what they hold.
-/
import Derived.Test.YtlbgilbigcnleaaNdB
import Derived.ProofKit
import Derived.OpenShut
import Derived.ChangeOld
import Derived.Deep.Grids
namespace Go.Proofs.Ytlbgilbigcnleaa
open Go.ChangeShapes Go.WideShapes Go.ChangeAt Go.RowKit
set_option linter.unusedVariables false

theorem cells_fr : Try.prog.cellsOf 30 = 5 := by kernel_rfl
theorem cells_fl : Try.prog.cellsOf 61 = 3 := by kernel_rfl
theorem cells_nd : Try.prog.cellsOf 27 = 7 := by kernel_rfl
theorem cells_ct : Try.prog.cellsOf 25 = 4 := by kernel_rfl
theorem cells_bool : Try.prog.cellsOf 4 = 1 := by kernel_rfl
theorem cells_int : Try.prog.cellsOf 3 = 1 := by kernel_rfl
theorem cells_bytes : Try.prog.cellsOf 28 = 1 := by kernel_rfl
theorem cells_byte : Try.prog.cellsOf 5 = 1 := by kernel_rfl
theorem cells_frs : Try.prog.cellsOf 22 = 1 := by kernel_rfl
theorem cells_fls : Try.prog.cellsOf 23 = 1 := by kernel_rfl
instance : Inhabited FL := ⟨⟨false, 0, 0⟩⟩
instance : Inhabited FV := ⟨zeroFV⟩
instance : Inhabited FC := ⟨zeroF⟩
abbrev Any_ : Nat → Prop := fun _ => True
theorem u8_of {z : Int} (h : (Lit.int .u8 z).wf = true) : 0 ≤ z ∧ z ≤ 255 := bounds_u8 h
/-- A filter's numbers are of 64 bits. -/
def Wide (f : FL) : Prop := (-9223372036854775808 ≤ f.k ∧ f.k < 9223372036854775808) ∧ (-9223372036854775808 ≤ f.m ∧ f.m < 9223372036854775808)

section
variable {H : Type} {enc : TypeId × Value → H} {W : World}
theorem open_data {fuel : Nat} {v : Value} {y : DataW H × List MemPlace} (h : DataW.trod enc Try.prog W 0 (fun _ => true) true fuel 28 [v] = some y) :
    ∃ (a : Option Addr) (len cap : Nat) (dl : List Int), v = .slice a len cap ∧ dl.length = len ∧ Row .u8 W W.heap.size a dl ∧ byteB dl ∧ len ≤ cap ∧ cap ≤ maxLen := by
  rcases open_ints Try.underlying28 Try.underlying5 cells_byte h with ⟨hcs, _⟩ | ⟨x, l, c, zs, hcs, _, hl, hm, hz, _, hcell, hwz⟩
  · cases hcs
    exact ⟨none, 0, 0, [], rfl, rfl, .inl rfl, (by simp [byteB]), Nat.le_refl _, by decide⟩
  · cases hcs
    obtain ⟨dl, h1, h2, h3, h4, h5⟩ := row_of_arg (k := .u8) (w := W) (a := some x) (len := l) (cap := c) (zs := zs) (.inr ⟨x, rfl, hl, hm, by simpa using hz, hcell, hwz⟩)
    exact ⟨some x, l, c, dl, rfl, h1, h2, fun z hz => u8_of (h5 z hz), h3, h4⟩

theorem open_fr {fuel : Nat} {cs : List Value} {y : DataW H × List MemPlace} (hl : cs.length = 5) (hf : DataW.trod enc Try.prog W 0 (fun _ => true) true fuel 30 cs = some y) : ∃ (f : FV) (F : FC), cs = f.cs ∧ FIs W Any_ f F := by
  match cs, hl with
  | [e0, e1, e2, e3, e4], _ =>
    obtain ⟨xs, n, _, _, _, hlen, hg⟩ := DataW.trod_struct Try.underlying30 hf
    match xs, hlen with
    | [y0, y1, y2, y3, y4], _ =>
      have g0 : DataW.trod enc Try.prog W 0 (fun _ => true) true n 4 [e0] = some y0 := by simpa [Value.cells, cells_bool] using hg 0 _ rfl
      have g1 : DataW.trod enc Try.prog W 0 (fun _ => true) true n 3 [e1] = some y1 := by simpa [Value.cells, cells_int] using hg 1 _ rfl
      have g2 : DataW.trod enc Try.prog W 0 (fun _ => true) true n 4 [e2] = some y2 := by simpa [Value.cells, cells_bool] using hg 2 _ rfl
      have g3 : DataW.trod enc Try.prog W 0 (fun _ => true) true n 3 [e3] = some y3 := by simpa [Value.cells, cells_int] using hg 3 _ rfl
      have g4 : DataW.trod enc Try.prog W 0 (fun _ => true) true n 28 [e4] = some y4 := by simpa [Value.cells, cells_bytes] using hg 4 _ rfl
      obtain ⟨x, hx, _⟩ := DataW.trod_bool Try.underlying4 g0
      obtain ⟨i, hi, _⟩ := DataW.trod_int Try.underlying3 g1
      obtain ⟨r, hr, _⟩ := DataW.trod_bool Try.underlying4 g2
      obtain ⟨m, hm, _⟩ := DataW.trod_int Try.underlying3 g3
      obtain ⟨a, len, cap, dl, hd, h1, h2, h3, h4, h5⟩ := open_data g4
      cases hx; cases hi; cases hr; cases hm; cases hd
      exact ⟨⟨x, i, r, m, a, len, cap⟩, ⟨x, i, r, m, dl⟩, rfl, ⟨rfl, rfl, rfl, rfl, h1, h4, Nat.le_trans h4 h5, h3, h2, fun _ _ _ => trivial⟩⟩
set_option maxRecDepth 100000 in
theorem open_frame9 {base : Nat} {v : Value} {d : DataW H} {p : List MemPlace} (hv : Value.okWide Try.prog W .any base 30 v) (h : DataW.Trod enc Try.prog W 0 (fun _ => true) true 30 v d p) :
    ∃ (f : FV) (F : FC), v = f.v ∧ FIs W Any_ f F := by
  obtain ⟨cs, rfl, hsz⟩ := okWide_struct Try.underlying30 hv
  obtain ⟨l⟩ := cs
  obtain ⟨fuel, hf⟩ := h
  obtain ⟨f, F, h1, h2⟩ := open_fr (cs := l) (by simpa using hsz.trans cells_fr) (by simpa [Value.cells] using hf)
  subst h1
  exact ⟨f, F, rfl, h2⟩
theorem open_fl {fuel : Nat} {cs : List Value} {y : DataW H × List MemPlace} (hl : cs.length = 3) (hf : DataW.trod enc Try.prog W 0 (fun _ => true) true fuel 61 cs = some y) : ∃ f : FL, cs = f.cs ∧ Wide f := by
  match cs, hl with
  | [e0, e1, e2], _ =>
    obtain ⟨xs, n, _, _, _, hlen, hg⟩ := DataW.trod_struct Try.underlying61 hf
    match xs, hlen with
    | [y0, y1, y2], _ =>
      have g0 : DataW.trod enc Try.prog W 0 (fun _ => true) true n 4 [e0] = some y0 := by simpa [Value.cells, cells_bool] using hg 0 _ rfl
      have g1 : DataW.trod enc Try.prog W 0 (fun _ => true) true n 3 [e1] = some y1 := by simpa [Value.cells, cells_int] using hg 1 _ rfl
      have g2 : DataW.trod enc Try.prog W 0 (fun _ => true) true n 3 [e2] = some y2 := by simpa [Value.cells, cells_int] using hg 2 _ rfl
      obtain ⟨x, hx, _⟩ := DataW.trod_bool Try.underlying4 g0
      obtain ⟨k, hk, _, wk⟩ := DataW.trod_int Try.underlying3 g1
      obtain ⟨m, hm, _, wm⟩ := DataW.trod_int Try.underlying3 g2
      cases hx; cases hk; cases hm
      have b1 := bounds_i64 wk
      have b2 := bounds_i64 wm
      exact ⟨⟨x, k, m⟩, rfl, ⟨b1.1, by have := b1.2; dsimp only; omega⟩, ⟨b2.1, by have := b2.2; dsimp only; omega⟩⟩
theorem open_fls {fuel : Nat} {v : Value} {y : DataW H × List MemPlace} (hf : DataW.trod enc Try.prog W 0 (fun _ => true) true fuel 23 [v] = some y) :
    ∃ (a : Option Addr) (len cap : Nat) (fs : List FL), v = .slice a len cap ∧ LSl W Any_ a len cap fs := by
  rcases Go.Deep.open_slice Try.underlying23 hf with ⟨hcs, _⟩ | ⟨x, l, c, m, n, D, Pl, hcs, _, hl, hm, hmm, _, hx⟩
  · cases hcs
    exact ⟨none, 0, 0, [], rfl, LSl.none_⟩
  · cases hcs
    simp only [if_true] at hmm
    subst hmm
    rw [cells_fl] at hx
    obtain ⟨F, hF⟩ := Go.Deep.choose_lt (α := FL) (n := m) (p := fun i f => LAt W (x.add (i * 3)) f ∧ Wide f) (fun i hi => by
      obtain ⟨cs', h1, h2⟩ := hx i hi
      obtain ⟨_, hlen, hcell⟩ := World.cells?_some h1
      obtain ⟨f, rfl, hd⟩ := open_fl hlen h2
      refine ⟨f, ⟨?_, ?_, ?_⟩, hd⟩
      · have := hcell 0 (by omega)
        simpa [FL.cs, Addr.add] using this
      · have := hcell 1 (by omega)
        rw [add_pos _ 1 (by omega)] at this
        simpa [FL.cs] using this
      · have := hcell 2 (by omega)
        rw [add_pos _ 2 (by omega)] at this
        simpa [FL.cs] using this)
    refine ⟨some x, l, m, (List.range l).map F, rfl, by simp, hl, Nat.le_trans hl hm, ?_, ?_, fun _ _ _ => trivial⟩
    · intro f hf
      obtain ⟨j, hj, rfl⟩ := List.mem_map.1 hf
      exact (hF j (by have := List.mem_range.1 hj; omega)).2.2
    · by_cases h0 : l = 0
      · left; simp [h0]
      · right
        refine ⟨x, rfl, ?_, fun k f hf => ?_⟩
        · have := World.block_lt_of_cell? W _ (hF 0 (by omega)).1.1
          rwa [addr_block] at this
        · rw [List.getElem?_map, Option.map_eq_some_iff] at hf
          obtain ⟨j, hj, rfl⟩ := hf
          have hk := (List.getElem?_eq_some_iff.1 hj).1
          rw [List.getElem?_range (by simpa using hk)] at hj
          obtain rfl := Option.some.inj hj
          exact (hF k (by simp at hk; omega)).1
theorem open_frs {fuel : Nat} {v : Value} {y : DataW H × List MemPlace} (hf : DataW.trod enc Try.prog W 0 (fun _ => true) true fuel 22 [v] = some y) :
    ∃ (a : Option Addr) (len cap : Nat) (Fs : List FC), v = .slice a len cap ∧ FSl W Any_ a len cap Fs := by
  rcases Go.Deep.open_slice Try.underlying22 hf with ⟨hcs, _⟩ | ⟨x, l, c, m, n, D, Pl, hcs, _, hl, hm, hmm, _, hx⟩
  · cases hcs
    exact ⟨none, 0, 0, [], rfl, FSl.none_⟩
  · cases hcs
    simp only [if_true] at hmm
    subst hmm
    rw [cells_fr] at hx
    obtain ⟨F, hF⟩ := Go.Deep.choose_lt (α := FV × FC) (n := m) (p := fun i f => FAt W (x.add (i * 5)) f.1 ∧ FIs W Any_ f.1 f.2) (fun i hi => by
      obtain ⟨cs', h1, h2⟩ := hx i hi
      obtain ⟨_, hlen, hcell⟩ := World.cells?_some h1
      obtain ⟨f, F, rfl, hd⟩ := open_fr hlen h2
      refine ⟨(f, F), ⟨?_, ?_, ?_, ?_, ?_⟩, hd⟩
      · have := hcell 0 (by omega)
        simpa [FV.cs, Addr.add] using this
      · have := hcell 1 (by omega)
        rw [add_pos _ 1 (by omega)] at this
        simpa [FV.cs] using this
      · have := hcell 2 (by omega)
        rw [add_pos _ 2 (by omega)] at this
        simpa [FV.cs] using this
      · have := hcell 3 (by omega)
        rw [add_pos _ 3 (by omega)] at this
        simpa [FV.cs] using this
      · have := hcell 4 (by omega)
        rw [add_pos _ 4 (by omega)] at this
        simpa [FV.cs] using this)
    refine ⟨some x, l, m, (List.range l).map (fun j => (F j).2), rfl, by simp, hl, Nat.le_trans hl hm, ⟨(List.range l).map (fun j => (F j).1), ?_, by simp, ?_⟩, fun _ _ _ => trivial⟩
    · by_cases h0 : l = 0
      · left; simp [h0]
      · right
        refine ⟨x, rfl, ?_, fun k f hf => ?_⟩
        · have := World.block_lt_of_cell? W _ (hF 0 (by omega)).1.1
          rwa [addr_block] at this
        · rw [List.getElem?_map, Option.map_eq_some_iff] at hf
          obtain ⟨j, hj, rfl⟩ := hf
          have hk := (List.getElem?_eq_some_iff.1 hj).1
          rw [List.getElem?_range (by simpa using hk)] at hj
          obtain rfl := Option.some.inj hj
          exact (hF k (by simp at hk; omega)).1
    · intro k f G h1 h2
      rw [List.getElem?_map, Option.map_eq_some_iff] at h1 h2
      obtain ⟨j, hj, rfl⟩ := h1
      obtain ⟨j', hj', rfl⟩ := h2
      obtain rfl := Option.some.inj (hj.symm.trans hj')
      have hk := (List.getElem?_eq_some_iff.1 hj).1
      rw [List.getElem?_range (by simpa using hk)] at hj
      obtain rfl := Option.some.inj hj
      exact (hF k (by simp at hk; omega)).2
set_option maxRecDepth 100000 in
theorem open_frames9 {base : Nat} {v : Value} {d : DataW H} {p : List MemPlace} (hv : Value.okWide Try.prog W .any base 22 v) (h : DataW.Trod enc Try.prog W 0 (fun _ => true) true 22 v d p) :
    ∃ (a : Option Addr) (len cap : Nat) (Fs : List FC), v = .slice a len cap ∧ FSl W Any_ a len cap Fs := by
  obtain ⟨a, len, cap, rfl⟩ := okWide_slice Try.underlying22 hv
  obtain ⟨fuel, hf⟩ := h
  exact open_frs (by simpa [Value.cells] using hf)
set_option maxRecDepth 100000 in
theorem open_filters9 {base : Nat} {v : Value} {d : DataW H} {p : List MemPlace} (hv : Value.okWide Try.prog W .any base 23 v) (h : DataW.Trod enc Try.prog W 0 (fun _ => true) true 23 v d p) :
    ∃ (a : Option Addr) (len cap : Nat) (fs : List FL), v = .slice a len cap ∧ LSl W Any_ a len cap fs := by
  obtain ⟨a, len, cap, rfl⟩ := okWide_slice Try.underlying23 hv
  obtain ⟨fuel, hf⟩ := h
  exact open_fls (by simpa [Value.cells] using hf)
theorem open_ct {fuel : Nat} {e0 e1 e2 e3 : Value} {y : DataW H × List MemPlace} (hf : DataW.trod enc Try.prog W 0 (fun _ => true) true fuel 25 [e0, e1, e2, e3] = some y) :
    ∃ c : CV, e0 = .int .i64 c.t ∧ e1 = .int .i64 c.r ∧ e2 = .int .i64 c.s ∧ e3 = .int .i64 c.q := by
  obtain ⟨xs, n, _, _, _, hlen, hg⟩ := DataW.trod_struct Try.underlying25 hf
  match xs, hlen with
  | [y0, y1, y2, y3], _ =>
    have g0 : DataW.trod enc Try.prog W 0 (fun _ => true) true n 3 [e0] = some y0 := by simpa [Value.cells, cells_int] using hg 0 _ rfl
    have g1 : DataW.trod enc Try.prog W 0 (fun _ => true) true n 3 [e1] = some y1 := by simpa [Value.cells, cells_int] using hg 1 _ rfl
    have g2 : DataW.trod enc Try.prog W 0 (fun _ => true) true n 3 [e2] = some y2 := by simpa [Value.cells, cells_int] using hg 2 _ rfl
    have g3 : DataW.trod enc Try.prog W 0 (fun _ => true) true n 3 [e3] = some y3 := by simpa [Value.cells, cells_int] using hg 3 _ rfl
    obtain ⟨t, ht, _⟩ := DataW.trod_int Try.underlying3 g0
    obtain ⟨r, hr, _⟩ := DataW.trod_int Try.underlying3 g1
    obtain ⟨s, hs, _⟩ := DataW.trod_int Try.underlying3 g2
    obtain ⟨q, hq, _⟩ := DataW.trod_int Try.underlying3 g3
    cases ht; cases hr; cases hs; cases hq
    exact ⟨⟨t, r, s, q⟩, rfl, rfl, rfl, rfl⟩
set_option maxRecDepth 100000 in
theorem open_node {base : Nat} {v : Value} {d : DataW H} {p : List MemPlace} (hv : Value.okWide Try.prog W .any base 27 v) (h : DataW.Trod enc Try.prog W 0 (fun _ => true) true 27 v d p) :
    ∃ (n : NV) (N : NC), v = n.v ∧ NIs W Any_ n N := by
  obtain ⟨cs, rfl, hsz⟩ := okWide_struct Try.underlying27 hv
  obtain ⟨l⟩ := cs
  obtain ⟨fuel, hf⟩ := h
  have hf' : DataW.trod enc Try.prog W 0 (fun _ => true) true fuel 27 l = some (d, p) := by simpa [Value.cells] using hf
  have hl : l.length = 7 := by simpa using hsz.trans cells_nd
  match l, hl, hf' with
  | [e0, e1, e2, e3, e4, e5, e6], _, hf' =>
    obtain ⟨xs, n, _, _, _, hlen, hg⟩ := DataW.trod_struct Try.underlying27 hf'
    match xs, hlen with
    | [y0, y1, y2, y3], _ =>
      have g0 : DataW.trod enc Try.prog W 0 (fun _ => true) true n 22 [e0] = some y0 := by simpa [Value.cells, cells_frs] using hg 0 _ rfl
      have g1 : DataW.trod enc Try.prog W 0 (fun _ => true) true n 23 [e1] = some y1 := by simpa [Value.cells, cells_fls] using hg 1 _ rfl
      have g2 : DataW.trod enc Try.prog W 0 (fun _ => true) true n 25 [e2, e3, e4, e5] = some y2 := by simpa [Value.cells, cells_ct] using hg 2 _ rfl
      have g3 : DataW.trod enc Try.prog W 0 (fun _ => true) true n 22 [e6] = some y3 := by simpa [Value.cells, cells_frs] using hg 3 _ rfl
      obtain ⟨qa, qm, qc, Q, rfl, hq⟩ := open_frs g0
      obtain ⟨la, lm, lc, ls, rfl, hls⟩ := open_fls g1
      obtain ⟨c, rfl, rfl, rfl, rfl⟩ := open_ct g2
      obtain ⟨ga, gm, gc, G, rfl, hgg⟩ := open_frs g3
      exact ⟨⟨qa, qm, qc, la, lm, lc, c, ga, gm, gc⟩, ⟨Q, ls, c, G⟩, rfl, ⟨hq, hls, rfl, hgg⟩⟩
end

end Go.Proofs.Ytlbgilbigcnleaa
