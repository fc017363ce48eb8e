/-
  Filters, slices of filters and frames that came in as arguments.
-/
import Derived.Test.YtmffflckcpgjiaaFil3
import Derived.ProofKit
import Derived.OpenShut
import Derived.ChangeOld
import Derived.Deep.Grids
namespace Go.Proofs.Ytmffflckcpgjiaa
open Go.ChangeShapes Go.WideShapes Go.ChangeAt Go.RowKit
set_option linter.unusedVariables false

theorem cells_fr : Try.prog.cellsOf 27 = 5 := by kernel_rfl
theorem cells_fl : Try.prog.cellsOf 23 = 3 := by kernel_rfl
theorem cells_bool : Try.prog.cellsOf 4 = 1 := by kernel_rfl
theorem cells_int : Try.prog.cellsOf 3 = 1 := by kernel_rfl
theorem cells_bytes : Try.prog.cellsOf 25 = 1 := by kernel_rfl
theorem cells_byte : Try.prog.cellsOf 5 = 1 := by kernel_rfl
instance : Inhabited FL := ⟨⟨false, 0, 0⟩⟩
/-- A filter's numbers are of 64 bits. -/
def Wide (f : FL) : Prop := (-9223372036854775808 ≤ f.k ∧ f.k < 9223372036854775808) ∧ (-9223372036854775808 ≤ f.m ∧ f.m < 9223372036854775808)

section
variable {H : Type} {enc : TypeId × Value → H} {W : World}
theorem open_data {fuel : Nat} {v : Value} {y : DataW H × List MemPlace} (h : DataW.trod enc Try.prog W 0 (fun _ => true) true fuel 25 [v] = some y) :
    ∃ (a : Option Addr) (len cap : Nat), v = .slice a len cap ∧ len ≤ cap ∧ cap ≤ maxLen := by
  rcases open_ints Try.underlying25 Try.underlying5 cells_byte h with ⟨hcs, _⟩ | ⟨x, l, c, zs, hcs, _, hl, hm, hz, _, hcell, hwz⟩
  · cases hcs
    exact ⟨none, 0, 0, rfl, Nat.le_refl _, by decide⟩
  · cases hcs
    exact ⟨some x, l, c, rfl, hl, hm⟩
theorem open_frame7 {base : Nat} {v : Value} {d : DataW H} {p : List MemPlace} (hv : Value.okWide Try.prog W .any base 27 v) (h : DataW.Trod enc Try.prog W 0 (fun _ => true) true 27 v d p) :
    ∃ f : FV, v = f.v ∧ f.m ≤ maxLen := by
  obtain ⟨cs, rfl, hsz⟩ := okWide_struct Try.underlying27 hv
  obtain ⟨l⟩ := cs
  obtain ⟨fuel, hf⟩ := h
  have hf' : DataW.trod enc Try.prog W 0 (fun _ => true) true fuel 27 l = some (d, p) := by simpa [Value.cells] using hf
  have hl : l.length = 5 := by simpa using hsz.trans cells_fr
  match l, hl, hf' with
  | [e0, e1, e2, e3, e4], _, hf' =>
    obtain ⟨xs, n, _, _, _, hlen, hg⟩ := DataW.trod_struct Try.underlying27 hf'
    match xs, hlen with
    | [y0, y1, y2, y3, y4], _ =>
      have g0 : DataW.trod enc Try.prog W 0 (fun _ => true) true n 4 [e0] = some y0 := by simpa [Value.cells, cells_bool] using hg 0 _ rfl
      have g1 : DataW.trod enc Try.prog W 0 (fun _ => true) true n 3 [e1] = some y1 := by simpa [Value.cells, cells_int] using hg 1 _ rfl
      have g2 : DataW.trod enc Try.prog W 0 (fun _ => true) true n 4 [e2] = some y2 := by simpa [Value.cells, cells_bool] using hg 2 _ rfl
      have g3 : DataW.trod enc Try.prog W 0 (fun _ => true) true n 3 [e3] = some y3 := by simpa [Value.cells, cells_int] using hg 3 _ rfl
      have g4 : DataW.trod enc Try.prog W 0 (fun _ => true) true n 25 [e4] = some y4 := by simpa [Value.cells, cells_bytes] using hg 4 _ rfl
      obtain ⟨x, hx, _⟩ := DataW.trod_bool Try.underlying4 g0
      obtain ⟨i, hi, _⟩ := DataW.trod_int Try.underlying3 g1
      obtain ⟨r, hr, _⟩ := DataW.trod_bool Try.underlying4 g2
      obtain ⟨m, hm, _⟩ := DataW.trod_int Try.underlying3 g3
      obtain ⟨a, len, cap, hd, h4, h5⟩ := open_data g4
      cases hx; cases hi; cases hr; cases hm; cases hd
      exact ⟨⟨x, i, r, m, a, len, cap⟩, rfl, Nat.le_trans h4 h5⟩
theorem open_fl {fuel : Nat} {cs : List Value} {y : DataW H × List MemPlace} (hl : cs.length = 3) (hf : DataW.trod enc Try.prog W 0 (fun _ => true) true fuel 23 cs = some y) : ∃ f : FL, cs = f.cs ∧ Wide f := by
  match cs, hl with
  | [e0, e1, e2], _ =>
    obtain ⟨xs, n, _, _, _, hlen, hg⟩ := DataW.trod_struct Try.underlying23 hf
    match xs, hlen with
    | [y0, y1, y2], _ =>
      have g0 : DataW.trod enc Try.prog W 0 (fun _ => true) true n 4 [e0] = some y0 := by simpa [Value.cells, cells_bool] using hg 0 _ rfl
      have g1 : DataW.trod enc Try.prog W 0 (fun _ => true) true n 3 [e1] = some y1 := by simpa [Value.cells, cells_int] using hg 1 _ rfl
      have g2 : DataW.trod enc Try.prog W 0 (fun _ => true) true n 3 [e2] = some y2 := by simpa [Value.cells, cells_int] using hg 2 _ rfl
      obtain ⟨x, hx, _⟩ := DataW.trod_bool Try.underlying4 g0
      obtain ⟨k, hk, _, wk⟩ := DataW.trod_int Try.underlying3 g1
      obtain ⟨m, hm, _, wm⟩ := DataW.trod_int Try.underlying3 g2
      cases hx; cases hk; cases hm
      have b1 := bounds_i64 wk
      have b2 := bounds_i64 wm
      exact ⟨⟨x, k, m⟩, rfl, ⟨b1.1, by have := b1.2; dsimp only; omega⟩, ⟨b2.1, by have := b2.2; dsimp only; omega⟩⟩
theorem open_filter {base : Nat} {v : Value} {d : DataW H} {p : List MemPlace} (hv : Value.okWide Try.prog W .any base 23 v) (h : DataW.Trod enc Try.prog W 0 (fun _ => true) true 23 v d p) :
    ∃ f : FL, v = f.v ∧ Wide f := by
  obtain ⟨cs, rfl, hsz⟩ := okWide_struct Try.underlying23 hv
  obtain ⟨l⟩ := cs
  obtain ⟨fuel, hf⟩ := h
  obtain ⟨f, h1, h2⟩ := open_fl (cs := l) (by simpa using hsz.trans cells_fl) (by simpa [Value.cells] using hf)
  subst h1
  exact ⟨f, rfl, h2⟩
theorem open_filters {base : Nat} {v : Value} {d : DataW H} {p : List MemPlace} (hv : Value.okWide Try.prog W .any base 24 v) (h : DataW.Trod enc Try.prog W 0 (fun _ => true) true 24 v d p) :
    ∃ (a : Option Addr) (len cap : Nat) (fs : List FL), v = .slice a len cap ∧ fs.length = len ∧ LRow W W.heap.size a fs ∧ (∀ f ∈ fs, Wide f) ∧ len ≤ cap ∧ cap ≤ maxLen := by
  obtain ⟨a, len, cap, rfl⟩ := okWide_slice Try.underlying24 hv
  obtain ⟨fuel, hf⟩ := h
  rcases Go.Deep.open_slice Try.underlying24 hf with ⟨hcs, _⟩ | ⟨x, l, c, m, n, D, Pl, hcs, _, hl, hm, hmm, _, hx⟩
  · simp [Value.cells] at hcs
    obtain ⟨rfl, rfl, rfl⟩ := hcs
    exact ⟨none, 0, 0, [], rfl, rfl, .inl rfl, by simp, Nat.le_refl _, by decide⟩
  · simp [Value.cells] at hcs
    obtain ⟨rfl, rfl, rfl⟩ := hcs
    simp only [if_true] at hmm
    subst hmm
    rw [cells_fl] at hx
    obtain ⟨F, hF⟩ := Go.Deep.choose_lt (α := FL) (n := m) (p := fun i f => LAt W (x.add (i * 3)) f ∧ Wide f) (fun i hi => by
      obtain ⟨cs', h1, h2⟩ := hx i hi
      obtain ⟨_, hlen, hcell⟩ := World.cells?_some h1
      obtain ⟨f, rfl, hd⟩ := open_fl hlen h2
      refine ⟨f, ⟨?_, ?_, ?_⟩, hd⟩
      · have := hcell 0 (by omega)
        simpa [FL.cs, Addr.add] using this
      · have := hcell 1 (by omega)
        rw [add_pos _ 1 (by omega)] at this
        simpa [FL.cs] using this
      · have := hcell 2 (by omega)
        rw [add_pos _ 2 (by omega)] at this
        simpa [FL.cs] using this)
    refine ⟨some x, len, m, (List.range len).map F, rfl, by simp, ?_, ?_, hl, hm⟩
    · by_cases h0 : len = 0
      · left; simp [h0]
      · right
        refine ⟨x, rfl, ?_, fun k f hf => ?_⟩
        · have := World.block_lt_of_cell? W _ (hF 0 (by omega)).1.1
          rwa [addr_block] at this
        · rw [List.getElem?_map, Option.map_eq_some_iff] at hf
          obtain ⟨j, hj, rfl⟩ := hf
          have hk := (List.getElem?_eq_some_iff.1 hj).1
          rw [List.getElem?_range (by simpa using hk)] at hj
          obtain rfl := Option.some.inj hj
          exact (hF k (by simp at hk; omega)).1
    · intro f hf
      obtain ⟨j, hj, rfl⟩ := List.mem_map.1 hf
      exact (hF j (by have := List.mem_range.1 hj; omega)).2
end

end Go.Proofs.Ytmffflckcpgjiaa
