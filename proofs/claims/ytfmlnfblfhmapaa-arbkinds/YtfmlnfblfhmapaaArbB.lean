/-
  Frames in a slice; where bits come from (arb.sourcesOf).
-/
import Derived.Test.YtfmlnfblfhmapaaArbA
import Derived.Test.YtfmlnfblfhmapaaRankN
import Derived.Lib.JoinLaws
import Derived.Deep.OwnRows
namespace Go.Proofs.Ytfmlnfblfhmapaa
open Go.RowKit
set_option linter.unusedVariables false

/-- A frame as it lies in memory. -/
structure FV where
  x : Bool
  i : Int
  r : Bool
  n : Int
  a : Option Addr
  m : Nat
  c : Nat
abbrev FV.v (f : FV) : Value := .agg #[.bool f.x, .int .i64 f.i, .bool f.r, .int .i64 f.n, .slice f.a f.m f.c]
def FV.cs (f : FV) : List Value := [.bool f.x, .int .i64 f.i, .bool f.r, .int .i64 f.n, .slice f.a f.m f.c]
def FAt (w : World) (a : Addr) (f : FV) : Prop :=
  w.cell? a = some (.bool f.x) ∧ w.cell? ⟨a.block, a.off + 1, none⟩ = some (.int .i64 f.i) ∧ w.cell? ⟨a.block, a.off + 2, none⟩ = some (.bool f.r) ∧ w.cell? ⟨a.block, a.off + 3, none⟩ = some (.int .i64 f.n) ∧ w.cell? ⟨a.block, a.off + 4, none⟩ = some (.slice f.a f.m f.c)
/-- A slice of frames. -/
def FRow (w : World) (B : Nat) (A : Option Addr) (fs : List FV) : Prop :=
  fs = [] ∨ ∃ ad, A = some ad ∧ ad.block < B ∧ ∀ k f, fs[k]? = some f → FAt w (ad.add (k * 5)) f
/-- Its identifier is one of its kind. -/
def FOk (f : FV) : Prop := ∃ ID : Nat, f.i = ID ∧ idOk f.x ID
def rankF (f : FV) : List Int := rankV f.x f.i.toNat f.r
def ranks (fs : List FV) : List (List Int) := fs.map rankF
theorem rankF_len (f : FV) : (rankF f).length = rn f.x := rankV_len _ _ _

theorem FRow.get_ {w : World} {B : Nat} {A : Option Addr} {fs : List FV} (h : FRow w B A fs) {k : Nat} (hk : k < fs.length) : ∃ ad f, A = some ad ∧ fs[k]? = some f ∧ FAt w (ad.add (k * 5)) f := by
  rcases h with rfl | ⟨ad, e, _, hc⟩
  · simp at hk
  · exact ⟨ad, fs[k], e, List.getElem?_eq_getElem hk, hc k _ (List.getElem?_eq_getElem hk)⟩
theorem FRow.move {w w' : World} {B : Nat} {A : Option Addr} {fs : List FV} (h : FRow w B A fs) (hk : ∀ p : Addr, p.block < B → w'.cell? p = w.cell? p) : FRow w' B A fs := by
  rcases h with rfl | ⟨ad, e, hb, hc⟩
  · exact .inl rfl
  · refine .inr ⟨ad, e, hb, fun k f hf => ?_⟩
    obtain ⟨h0, h1, h2, h3, h4⟩ := hc k f hf
    have hb' : (ad.add (k * 5)).block < B := by rw [addr_block]; exact hb
    exact ⟨(hk _ hb').trans h0, (hk ⟨_, _, none⟩ hb').trans h1, (hk ⟨_, _, none⟩ hb').trans h2, (hk ⟨_, _, none⟩ hb').trans h3, (hk ⟨_, _, none⟩ hb').trans h4⟩
theorem FRow.more {w : World} {B B' : Nat} {A : Option Addr} {fs : List FV} (h : FRow w B A fs) (hB : B ≤ B') : FRow w B' A fs := by
  rcases h with rfl | ⟨ad, e, hb, hc⟩
  · exact .inl rfl
  · exact .inr ⟨ad, e, by omega, hc⟩
theorem FRow.below {w w' : World} {B : Nat} {A : Option Addr} {fs : List FV} (h : FRow w B A fs) (hb : Below B w w') : FRow w' B A fs := h.move fun _ hp => hb.cell hp
theorem FRow.to {a b : World} {A : Option Addr} {fs : List FV} (h : FRow a a.heap.size A fs) (k : Below a.heap.size a b) : FRow b b.heap.size A fs := (h.below k).more k.size

theorem rankF_at (f : FV) (hf : FOk f) (n : Nat) (hn : (rankF f).length = n) (w : World) :
    Calls Try.prog 32 #[f.v] w fun e w' => ∃ ad c', e = .returned (.slice (some ad) n c') ∧ Row .i64 w' w'.heap.size (some ad) (rankF f) ∧ n ≤ c' ∧ Below w.heap.size w w' ∧ w.heap.size ≤ ad.block := by
  obtain ⟨x, i, r, m, a, l, c⟩ := f
  obtain ⟨ID, rfl, hID⟩ := hf
  have e : rn x = n := by rw [← hn, rankF_len]
  refine (rank_new x ID r m a l c hID n e w).mono ?_
  rintro e' w' ⟨A', c', rfl, hr, hc, hB, hfr⟩
  obtain ⟨ad, rfl⟩ := hr.some_ (by rw [rankV_len]; cases x <;> decide)
  exact ⟨ad, c', rfl, by simpa [rankF] using hr, hc, hB, hfr ad rfl⟩

/-- Where a frame's bits come from. -/
structure Src where
  ad : Addr
  n : Nat
  c : Nat
  r : List Int
abbrev Src.v (s : Src) : Value := .func (.func 33) #[.slice (some s.ad) s.n s.c] #[]
/-- Its bits lie there, and not in block G. -/
structure SrcOk (w : World) (G : Nat) (s : Src) : Prop where
  len : s.r.length = s.n
  small : s.n ≤ 32
  lt : s.ad.block < w.heap.size
  ne : s.ad.block ≠ G
  row : Row .i64 w w.heap.size (some s.ad) s.r
theorem SrcOk.to {w w' : World} {G : Nat} {s : Src} (h : SrcOk w G s) (g : w.grownBy w' (some G)) : SrcOk w' G s := by
  refine ⟨h.len, h.small, by have := g.size; have := h.lt; omega, h.ne, ?_⟩
  rcases h.row with e | ⟨ad, e, hb, hc⟩
  · exact .inl e
  · obtain rfl := Option.some.inj e
    refine .inr ⟨_, rfl, by have := g.size; omega, fun k x hx => ?_⟩
    rw [← hc k x hx]
    exact World.cell?_of_block (by rw [addr_block]; exact g.block _ h.lt (by simp; exact h.ne))

/-- The list of sources in block G: vs ahead, its cells all told. -/
def SBlk (w : World) (G : Nat) (cs : List Value) : Prop := w.heap[G]? = some (.cells cs.toArray 48 (0, 0))
theorem SBlk.cell {w : World} {G : Nat} {cs : List Value} (h : SBlk w G cs) {k : Nat} {v : Value} (hk : cs[k]? = some v) : w.cell? ⟨G, k, none⟩ = some v := by
  simp [World.cell?, show w.heap[G]? = _ from h, hk]
theorem SBlk.lt {w : World} {G : Nat} {cs : List Value} (h : SBlk w G cs) : G < w.heap.size := (Array.getElem?_eq_some_iff.1 h).1
theorem SBlk.to {w w' : World} {G : Nat} {cs : List Value} (h : SBlk w G cs) (b : Below w.heap.size w w') : SBlk w' G cs := (b.block G h.lt).trans h
theorem Try.infoSrc : (Try.prog.info? 48).map (fun i => (i.zero, i.size, i.bytes)) = some (some .nilFunc, 1, 8) := by kernel_rfl

/-- An append into room: one source. -/
theorem run_append_src (w : World) (ty : TypeId) (G j cap : Nat) (cs : List Value) (hG : SBlk w G cs) (hcap : cs.length = cap) (hj : j < cap) (a : Addr) (c : Nat) (v : Value) (hv : w.cell? a = some v) (h1 : v.oneCell' = true) :
    (Builtin.append_ #[45, 45] ty #[.slice (some ⟨G, 0, none⟩) j cap, .slice (some a) 1 c]).run Try.prog w = .ok (.slice (some ⟨G, 0, none⟩) (j + 1) cap) (w.setRow G (cs.set j v).toArray) := by
  obtain ⟨i0, hi, hz0, hz1, hz2⟩ := info_parts Try.infoSrc
  have h := run_append_room (P := Try.prog) w 45 ty 48 i0 Try.underlying45 hi G j cap cs.toArray hG a 1 c [v] (by simp [hz1]) (by
    intro k u hu
    cases k with
    | zero => simp at hu; subst hu; simpa [Addr.add] using hv
    | succ k => simp at hu) (by simpa using h1) (by omega) (by simp [hz1]; omega)
  rw [h]
  congr 3
  simp only [hz1, Nat.mul_one, List.length_singleton]
  rw [List.set_eq_take_append_cons_drop, if_pos (by omega)]
  simp
theorem SBlk.set {w : World} {G : Nat} {cs : List Value} (h : SBlk w G cs) (cs' : List Value) : SBlk (w.setRow G cs'.toArray) G cs' := setRow_heap _ _ _ _ _ _ h
theorem grown_setRow (w : World) (G : Nat) (cs : Array Value) : w.grownBy (w.setRow G cs) (some G) :=
  ⟨rfl, rfl, rfl, by simp [World.setRow], fun k _ hk => setRow_other _ _ _ _ (by intro e; subst e; exact hk rfl)⟩
theorem below_setRow {w : World} {B G : Nat} (cs : Array Value) (h : B ≤ G) : Below B w (w.setRow G cs) :=
  ⟨rfl, rfl, rfl, by simp [World.setRow], fun k hk => setRow_other _ _ _ _ (by omega)⟩

end Go.Proofs.Ytfmlnfblfhmapaa
