/-
  What frames, slices of frames and nodes hold, and that it is so still behind what a call does: no function of the program's.
-/
import Derived.Test.YtlbgilbigcnleaaNCn
import Derived.Test.YtlbgilbigcnleaaNFm
namespace Go.Proofs.Ytlbgilbigcnleaa
open Go.RowKit
set_option linter.unusedVariables false
set_option linter.unusedSimpArgs false

/-- A slice of some elements lies in a block of which P is true. -/
def InP (P : Nat → Prop) (A : Option Addr) (n : Nat) : Prop := 0 < n → ∀ ad, A = some ad → P ad.block
theorem InP.mono {P Q : Nat → Prop} {A : Option Addr} {n : Nat} (h : InP P A n) (hq : ∀ b, P b → Q b) : InP Q A n := fun hn ad e => hq _ (h hn ad e)

/-- What a frame holds. -/
structure FC where
  x : Bool
  i : Int
  r : Bool
  n : Int
  d : List Int
deriving DecidableEq
def zeroF : FC := ⟨false, 0, false, 0, []⟩
abbrev zeroFV : FV := ⟨false, 0, false, 0, none, 0, 0⟩

/-- The frame f reads as F; its bytes lie where P is true. -/
structure FIs (w : World) (P : Nat → Prop) (f : FV) (F : FC) : Prop where
  x : f.x = F.x
  i : f.i = F.i
  r : f.r = F.r
  n : f.n = F.n
  len : F.d.length = f.m
  cap : f.m ≤ f.c
  big : f.m ≤ maxLen
  byte : byteB F.d
  row : Row .u8 w w.heap.size f.a F.d
  inP : InP P f.a f.m

theorem row_grow {κ : IntKind} {w w' : World} {A : Option Addr} {l : List Int} {X : Nat} (h : Row κ w w.heap.size A l) (g : w.grownBy w' (some X)) (hX : l ≠ [] → ∀ ad, A = some ad → ad.block ≠ X) : Row κ w' w'.heap.size A l := by
  rcases h with rfl | ⟨ad, e, hb, hc⟩
  · exact .inl rfl
  · by_cases hl : l = []
    · exact .inl hl
    · refine .inr ⟨ad, e, Nat.lt_of_lt_of_le hb g.size, fun k x hx => ?_⟩
      rw [← hc k x hx]
      exact World.cell?_of_block (by rw [addr_block]; exact g.block _ hb (by simpa using hX hl ad e))
theorem frow_grow {w w' : World} {A : Option Addr} {fs : List FV} {X : Nat} (h : FRow w w.heap.size A fs) (g : w.grownBy w' (some X)) (hX : fs ≠ [] → ∀ ad, A = some ad → ad.block ≠ X) : FRow w' w'.heap.size A fs := by
  rcases h with rfl | ⟨ad, e, hb, hc⟩
  · exact .inl rfl
  · by_cases hl : fs = []
    · exact .inl hl
    · refine .inr ⟨ad, e, Nat.lt_of_lt_of_le hb g.size, fun k f hf => ?_⟩
      obtain ⟨h0, h1, h2, h3, h4⟩ := hc k f hf
      have hk : ∀ p : Addr, p.block = ad.block → w'.cell? p = w.cell? p := fun p hp => World.cell?_of_block (by rw [hp]; exact g.block _ hb (by simpa using hX hl ad e))
      have hb' : (ad.add (k * 5)).block = ad.block := addr_block _ _
      exact ⟨(hk _ hb').trans h0, (hk ⟨_, _, none⟩ hb').trans h1, (hk ⟨_, _, none⟩ hb').trans h2, (hk ⟨_, _, none⟩ hb').trans h3, (hk ⟨_, _, none⟩ hb').trans h4⟩
theorem lrow_grow {w w' : World} {A : Option Addr} {fs : List FL} {X : Nat} (h : LRow w w.heap.size A fs) (g : w.grownBy w' (some X)) (hX : fs ≠ [] → ∀ ad, A = some ad → ad.block ≠ X) : LRow w' w'.heap.size A fs := by
  rcases h with rfl | ⟨ad, e, hb, hc⟩
  · exact .inl rfl
  · by_cases hl : fs = []
    · exact .inl hl
    · refine .inr ⟨ad, e, Nat.lt_of_lt_of_le hb g.size, fun k f hf => ?_⟩
      obtain ⟨h0, h1, h2⟩ := hc k f hf
      have hk : ∀ p : Addr, p.block = ad.block → w'.cell? p = w.cell? p := fun p hp => World.cell?_of_block (by rw [hp]; exact g.block _ hb (by simpa using hX hl ad e))
      have hb' : (ad.add (k * 3)).block = ad.block := addr_block _ _
      exact ⟨(hk _ hb').trans h0, (hk ⟨_, _, none⟩ hb').trans h1, (hk ⟨_, _, none⟩ hb').trans h2⟩

section
variable {w w' : World} {P Q : Nat → Prop} {f : FV} {F : FC}
theorem FIs.to (h : FIs w P f F) (b : Below w.heap.size w w') : FIs w' P f F := ⟨h.x, h.i, h.r, h.n, h.len, h.cap, h.big, h.byte, h.row.to b, h.inP⟩
theorem InP.grow {A : Option Addr} {n X : Nat} (h : InP P A n) (hX : ¬ P X) (h0 : 0 < n) (ad : Addr) (e : A = some ad) : ad.block ≠ X := fun e' => hX (e' ▸ h h0 ad e)
theorem FIs.grow {X : Nat} (h : FIs w P f F) (g : w.grownBy w' (some X)) (hX : ¬ P X) : FIs w' P f F :=
  ⟨h.x, h.i, h.r, h.n, h.len, h.cap, h.big, h.byte, row_grow h.row g (fun hl => h.inP.grow hX (by rw [← h.len]; exact List.length_pos_iff.2 hl)), h.inP⟩
theorem inP_row {κ : IntKind} {A : Option Addr} {l : List Int} {n : Nat} (hr : Row κ w w.heap.size A l) (hn : l.length = n) (h : InP P A n) (hq : ∀ b, b < w.heap.size → P b → Q b) : InP Q A n := by
  intro h0 ad e
  rcases hr with rfl | ⟨ad', e', hb, _⟩
  · simp at hn; omega
  · have : ad' = ad := Option.some.inj (e'.symm.trans e)
    subst this
    exact hq _ hb (h h0 _ e)
theorem FIs.mono (h : FIs w P f F) (hq : ∀ b, b < w.heap.size → P b → Q b) : FIs w Q f F := ⟨h.x, h.i, h.r, h.n, h.len, h.cap, h.big, h.byte, h.row, inP_row h.row h.len h.inP hq⟩
theorem fis_zero : FIs w P zeroFV zeroF := ⟨rfl, rfl, rfl, rfl, rfl, Nat.le_refl _, by decide, (fun _ h => by cases h), .inl rfl, fun h => absurd h (by decide)⟩
end

/-- The frames fs read as Fs. -/
def FsIs (w : World) (P : Nat → Prop) (fs : List FV) (Fs : List FC) : Prop := fs.length = Fs.length ∧ ∀ (k : Nat) (f : FV) (F : FC), fs[k]? = some f → Fs[k]? = some F → FIs w P f F
section
variable {w w' : World} {P Q : Nat → Prop} {fs gs : List FV} {Fs Gs : List FC}
theorem FsIs.to (h : FsIs w P fs Fs) (b : Below w.heap.size w w') : FsIs w' P fs Fs := ⟨h.1, fun k f F h1 h2 => (h.2 k f F h1 h2).to b⟩
theorem FsIs.grow {X : Nat} (h : FsIs w P fs Fs) (g : w.grownBy w' (some X)) (hX : ¬ P X) : FsIs w' P fs Fs := ⟨h.1, fun k f F h1 h2 => (h.2 k f F h1 h2).grow g hX⟩
theorem FsIs.mono (h : FsIs w P fs Fs) (hq : ∀ b, b < w.heap.size → P b → Q b) : FsIs w Q fs Fs := ⟨h.1, fun k f F h1 h2 => (h.2 k f F h1 h2).mono hq⟩
theorem FsIs.nil : FsIs w P [] [] := ⟨rfl, fun k f F h => by simp at h⟩
theorem FsIs.one {f : FV} {F : FC} (h : FIs w P f F) : FsIs w P [f] [F] := by
  refine ⟨rfl, fun k g G h1 h2 => ?_⟩
  cases k with
  | zero => simp at h1 h2; subst h1 h2; exact h
  | succ k => simp at h1
theorem FsIs.append (h : FsIs w P fs Fs) (h' : FsIs w P gs Gs) : FsIs w P (fs ++ gs) (Fs ++ Gs) := by
  refine ⟨by simp [h.1, h'.1], fun k f F h1 h2 => ?_⟩
  by_cases hk : k < fs.length
  · rw [List.getElem?_append_left hk] at h1
    rw [List.getElem?_append_left (by rw [← h.1]; exact hk)] at h2
    exact h.2 k f F h1 h2
  · rw [List.getElem?_append_right (by omega)] at h1
    rw [List.getElem?_append_right (by rw [← h.1]; omega), ← h.1] at h2
    exact h'.2 _ f F h1 h2
theorem FsIs.take (h : FsIs w P fs Fs) (j : Nat) : FsIs w P (fs.take j) (Fs.take j) := by
  refine ⟨by simp [h.1], fun k f F h1 h2 => ?_⟩
  rw [List.getElem?_take] at h1 h2
  split at h1
  · rename_i hk; rw [if_pos hk] at h2; exact h.2 k f F h1 h2
  · cases h1
theorem FsIs.drop (h : FsIs w P fs Fs) (j : Nat) : FsIs w P (fs.drop j) (Fs.drop j) := by
  refine ⟨by simp [h.1], fun k f F h1 h2 => ?_⟩
  rw [List.getElem?_drop] at h1 h2
  exact h.2 _ f F h1 h2
end

/-- A slice of frames that reads as Fs. -/
structure FSl (w : World) (P : Nat → Prop) (A : Option Addr) (n c : Nat) (Fs : List FC) : Prop where
  len : Fs.length = n
  cap : n ≤ c
  big : n ≤ maxLen
  row : ∃ fs, FRow w w.heap.size A fs ∧ FsIs w P fs Fs
  inP : InP P A n
/-- A slice of filters that reads as ls. -/
structure LSl (w : World) (P : Nat → Prop) (A : Option Addr) (n c : Nat) (ls : List FL) : Prop where
  len : ls.length = n
  cap : n ≤ c
  big : n ≤ maxLen
  wide : ∀ f ∈ ls, -9223372036854775808 ≤ f.m ∧ f.m < 9223372036854775808
  row : LRow w w.heap.size A ls
  inP : InP P A n
section
variable {w w' : World} {P Q : Nat → Prop} {A : Option Addr} {n c : Nat} {Fs : List FC} {ls : List FL}
theorem FSl.to (h : FSl w P A n c Fs) (b : Below w.heap.size w w') : FSl w' P A n c Fs := ⟨h.len, h.cap, h.big, (let ⟨fs, h1, h2⟩ := h.row; ⟨fs, h1.to b, h2.to b⟩), h.inP⟩
theorem FSl.grow {X : Nat} (h : FSl w P A n c Fs) (g : w.grownBy w' (some X)) (hX : ¬ P X) : FSl w' P A n c Fs := by
  refine ⟨h.len, h.cap, h.big, ?_, h.inP⟩
  obtain ⟨fs, h1, h2⟩ := h.row
  exact ⟨fs, frow_grow h1 g (fun hl => h.inP.grow hX (by have h3 := List.length_pos_iff.2 hl; have h4 := h2.1; have h5 := h.len; omega)), h2.grow g hX⟩
theorem FSl.mono (h : FSl w P A n c Fs) (hq : ∀ b, b < w.heap.size → P b → Q b) : FSl w Q A n c Fs := by
  refine ⟨h.len, h.cap, h.big, (let ⟨fs, h1, h2⟩ := h.row; ⟨fs, h1, h2.mono hq⟩), fun h0 ad e => ?_⟩
  obtain ⟨fs, h1, h2⟩ := h.row
  rcases h1 with rfl | ⟨ad', e', hb, _⟩
  · have := h2.1; have := h.len; simp at *; omega
  · have : ad' = ad := Option.some.inj (e'.symm.trans e)
    subst this
    exact hq _ hb (h.inP h0 _ e)
theorem FSl.none_ : FSl w P none 0 0 [] := ⟨rfl, Nat.le_refl _, by decide, ⟨[], .inl rfl, FsIs.nil⟩, fun h => absurd h (by decide)⟩
/-- An element. -/
theorem FSl.at_ (h : FSl w P A n c Fs) {k : Nat} (hk : k < n) : ∃ ad f F, A = some ad ∧ Fs[k]? = some F ∧ FAt w (ad.add (k * 5)) f ∧ FIs w P f F := by
  obtain ⟨fs, h1, h2⟩ := h.row
  have hk2 : k < fs.length := by rw [h2.1, h.len]; exact hk
  obtain ⟨ad, f, e, hf, ha⟩ := h1.get_ hk2
  obtain ⟨F, hF⟩ : ∃ F, Fs[k]? = some F := ⟨_, List.getElem?_eq_getElem (by rw [h.len]; exact hk)⟩
  exact ⟨ad, f, F, e, hF, ha, h2.2 k f F hf hF⟩
theorem LSl.to (h : LSl w P A n c ls) (b : Below w.heap.size w w') : LSl w' P A n c ls := ⟨h.len, h.cap, h.big, h.wide, h.row.to b, h.inP⟩
theorem LSl.grow {X : Nat} (h : LSl w P A n c ls) (g : w.grownBy w' (some X)) (hX : ¬ P X) : LSl w' P A n c ls :=
  ⟨h.len, h.cap, h.big, h.wide, lrow_grow h.row g (fun hl => h.inP.grow hX (by rw [← h.len]; exact List.length_pos_iff.2 hl)), h.inP⟩
theorem LSl.mono (h : LSl w P A n c ls) (hq : ∀ b, b < w.heap.size → P b → Q b) : LSl w Q A n c ls := by
  refine ⟨h.len, h.cap, h.big, h.wide, h.row, fun h0 ad e => ?_⟩
  have h1 := h.row
  rcases h1 with rfl | ⟨ad', e', hb, _⟩
  · have := h.len; simp at this; omega
  · have : ad' = ad := Option.some.inj (e'.symm.trans e)
    subst this
    exact hq _ hb (h.inP h0 _ e)
theorem LSl.none_ : LSl w P none 0 0 [] := ⟨rfl, Nat.le_refl _, by decide, by simp, .inl rfl, fun h => absurd h (by decide)⟩
theorem LSl.at_ (h : LSl w P A n c ls) {k : Nat} (hk : k < n) : ∃ ad f, A = some ad ∧ ls[k]? = some f ∧ LAt w (ad.add (k * 3)) f := h.row.get_ (by rw [h.len]; exact hk)
end

/-- A row that the call itself made. -/
theorem own_inP {w : World} {base : Nat} {e : TypeId} {size n c m : Nat} {A : Option Addr} {xs : List Value} {P : Nat → Prop} (h : w.ownsRow base e size (.slice A n c) m xs) (hP : ∀ b, base ≤ b → P b) (k : Nat) : InP P A k := by
  intro _ ad e
  subst e
  rcases h.2 with ⟨e1, _⟩ | ⟨g, cap, cur, e1, hb, _⟩
  · cases e1
  · injection e1 with e1
    obtain rfl := Option.some.inj e1
    exact hP _ hb
theorem FSl.own {w : World} {base : Nat} {A : Option Addr} {n c : Nat} {fs : List FV} {Fs : List FC} {P : Nat → Prop} (h : FOwn w base A n c fs) (h' : FsIs w P fs Fs) (hn : n ≤ 1000) (hP : ∀ b, base ≤ b → P b) : FSl w P A n c Fs :=
  ⟨by rw [← h'.1]; exact h.len, h.cap, by unfold maxLen; omega, ⟨fs, FRow.own h, h'⟩, own_inP h hP n⟩
theorem LOwn.cap {w : World} {base : Nat} {A : Option Addr} {n c : Nat} {fs : List FL} (h : LOwn w base A n c fs) : n ≤ c := by
  rcases h.2 with ⟨e1, e2⟩ | ⟨g, cap, cur, e1, hb, hg, hn, _⟩
  · omega
  · injection e1 with _ _ e; omega
theorem LSl.own {w : World} {base : Nat} {A : Option Addr} {n c : Nat} {fs : List FL} {P : Nat → Prop} (h : LOwn w base A n c fs) (hn : n ≤ 1000) (hw : ∀ f ∈ fs, -9223372036854775808 ≤ f.m ∧ f.m < 9223372036854775808) (hP : ∀ b, base ≤ b → P b) : LSl w P A n c fs :=
  ⟨h.len, h.cap, by unfold maxLen; omega, hw, LRow.own h, own_inP h hP n⟩

/-- A node as it lies in memory; what one holds. -/
structure NV where
  qa : Option Addr
  qm : Nat
  qc : Nat
  la : Option Addr
  lm : Nat
  lc : Nat
  k : CV
  ga : Option Addr
  gm : Nat
  gc : Nat
abbrev NV.v (n : NV) : Value := .agg #[.slice n.qa n.qm n.qc, .slice n.la n.lm n.lc, .int .i64 n.k.t, .int .i64 n.k.r, .int .i64 n.k.s, .int .i64 n.k.q, .slice n.ga n.gm n.gc]
structure NC where
  q : List FC
  l : List FL
  k : CV
  g : List FC
deriving DecidableEq
structure NIs (w : World) (P : Nat → Prop) (n : NV) (N : NC) : Prop where
  q : FSl w P n.qa n.qm n.qc N.q
  l : LSl w P n.la n.lm n.lc N.l
  k : n.k = N.k
  g : FSl w P n.ga n.gm n.gc N.g
section
variable {w w' : World} {P Q : Nat → Prop} {n : NV} {N : NC}
theorem NIs.to (h : NIs w P n N) (b : Below w.heap.size w w') : NIs w' P n N := ⟨h.q.to b, h.l.to b, h.k, h.g.to b⟩
theorem NIs.grow {X : Nat} (h : NIs w P n N) (g : w.grownBy w' (some X)) (hX : ¬ P X) : NIs w' P n N := ⟨h.q.grow g hX, h.l.grow g hX, h.k, h.g.grow g hX⟩
theorem NIs.mono (h : NIs w P n N) (hq : ∀ b, b < w.heap.size → P b → Q b) : NIs w Q n N := ⟨h.q.mono hq, h.l.mono hq, h.k, h.g.mono hq⟩
end
abbrev zeroNV : NV := ⟨none, 0, 0, none, 0, 0, ⟨0, 0, 0, 0⟩, none, 0, 0⟩
def zeroN : NC := ⟨[], [], ⟨0, 0, 0, 0⟩, []⟩
theorem nis_zero {w : World} {P : Nat → Prop} : NIs w P zeroNV zeroN := ⟨FSl.none_, LSl.none_, rfl, FSl.none_⟩

/-- A node lies in block F. -/
abbrev HasN (w : World) (F : Nat) (n : NV) : Prop := w.heap[F]? = some (.cells #[.slice n.qa n.qm n.qc, .slice n.la n.lm n.lc, .int .i64 n.k.t, .int .i64 n.k.r, .int .i64 n.k.s, .int .i64 n.k.q, .slice n.ga n.gm n.gc] 27)
theorem cells7 {w : World} {F : Nat} {a b c d e f g : Value} {t : TypeId} (h : w.heap[F]? = some (.cells #[a, b, c, d, e, f, g] t)) :
    (w.cell? ⟨F, 0, none⟩ = some a ∧ w.cell? ⟨F, 1, none⟩ = some b ∧ w.cell? ⟨F, 2, none⟩ = some c ∧ w.cell? ⟨F, 3, none⟩ = some d ∧ w.cell? ⟨F, 4, none⟩ = some e ∧ w.cell? ⟨F, 5, none⟩ = some f ∧ w.cell? ⟨F, 6, none⟩ = some g) ∧
    w.frozen? ⟨F, 0, none⟩ = false ∧ w.frozen? ⟨F, 1, none⟩ = false ∧ w.frozen? ⟨F, 2, none⟩ = false ∧ w.frozen? ⟨F, 3, none⟩ = false ∧ w.frozen? ⟨F, 4, none⟩ = false ∧ w.frozen? ⟨F, 5, none⟩ = false ∧ w.frozen? ⟨F, 6, none⟩ = false := by
  simp [World.cell?, World.frozen?, h]
theorem cells7' {w : World} {F : Nat} {a b c d e f g : Value} {t : TypeId} (h : w.heap[F]? = some (.cells #[a, b, c, d, e, f, g] t)) :
    w.cell? ⟨F, 0, none⟩ = some a ∧ w.cell? ⟨F, 1, none⟩ = some b ∧ w.cell? ⟨F, 2, none⟩ = some c ∧ w.cell? ⟨F, 3, none⟩ = some d ∧ w.cell? ⟨F, 4, none⟩ = some e ∧ w.cell? ⟨F, 5, none⟩ = some f ∧ w.cell? ⟨F, 6, none⟩ = some g := (cells7 h).1
theorem load_n {w : World} {F : Nat} {n : NV} (h : HasN w F n) : (loadVar 27 ⟨F, 0, none⟩).run Try.prog w = .ok n.v w := by
  obtain ⟨⟨c0, c1, c2, c3, c4, c5, c6⟩, _⟩ := cells7 h
  simp [go_sem, c0, c1, c2, c3, c4, c5, c6]
theorem load_f {w : World} {F : Nat} {f : FV} (h : HasF w F f) : (loadVar 30 ⟨F, 0, none⟩).run Try.prog w = .ok f.v w := by
  obtain ⟨⟨c0, c1, c2, c3, c4⟩, _⟩ := cells5 h
  simp [go_sem, c0, c1, c2, c3, c4]
theorem results_n {fn : Func} {p : Tmp} (hf : fn.results = #[.cell p 27]) (tmps : Array Value) {w : World} {F : Nat} {n : NV} (ht : tmps.getD p undef = .pointer (some ⟨F, 0, none⟩)) (h : HasN w F n) :
    (results fn tmps).run Try.prog w = .ok n.v w := by
  have hl := load_n h
  have ht' : tmps[p]?.getD undef = .pointer (some ⟨F, 0, none⟩) := by simpa using ht
  simp only [results, hf]
  simp [ht', asAddr, hl]
theorem results_f {fn : Func} {p : Tmp} (hf : fn.results = #[.cell p 30]) (tmps : Array Value) {w : World} {F : Nat} {f : FV} (ht : tmps.getD p undef = .pointer (some ⟨F, 0, none⟩)) (h : HasF w F f) :
    (results fn tmps).run Try.prog w = .ok f.v w := by
  have hl := load_f h
  have ht' : tmps[p]?.getD undef = .pointer (some ⟨F, 0, none⟩) := by simpa using ht
  simp only [results, hf]
  simp [ht', asAddr, hl]
theorem results_n1 {fn : Func} {p q : Tmp} (hf : fn.results = #[.cell p 27, .tmp q]) (tmps : Array Value) {w : World} {F : Nat} {n : NV} {u : Value} (ht : tmps.getD p undef = .pointer (some ⟨F, 0, none⟩)) (hq : tmps.getD q undef = u) (h : HasN w F n) :
    (results fn tmps).run Try.prog w = .ok (.tuple #[n.v, u]) w := by
  have hl := load_n h
  have ht' : tmps[p]?.getD undef = .pointer (some ⟨F, 0, none⟩) := by simpa using ht
  have hq' : tmps[q]?.getD undef = u := by simpa using hq
  simp only [results, hf]
  simp [ht', hq', asAddr, hl]
theorem results_f1 {fn : Func} {p q : Tmp} (hf : fn.results = #[.cell p 30, .tmp q]) (tmps : Array Value) {w : World} {F : Nat} {f : FV} {u : Value} (ht : tmps.getD p undef = .pointer (some ⟨F, 0, none⟩)) (hq : tmps.getD q undef = u) (h : HasF w F f) :
    (results fn tmps).run Try.prog w = .ok (.tuple #[f.v, u]) w := by
  have hl := load_f h
  have ht' : tmps[p]?.getD undef = .pointer (some ⟨F, 0, none⟩) := by simpa using ht
  have hq' : tmps[q]?.getD undef = u := by simpa using hq
  simp only [results, hf]
  simp [ht', hq', asAddr, hl]
theorem results_nf1 {fn : Func} {p p' q : Tmp} (hf : fn.results = #[.cell p 27, .cell p' 30, .tmp q]) (tmps : Array Value) {w : World} {F G : Nat} {n : NV} {f : FV} {u : Value} (ht : tmps.getD p undef = .pointer (some ⟨F, 0, none⟩)) (ht2 : tmps.getD p' undef = .pointer (some ⟨G, 0, none⟩)) (hq : tmps.getD q undef = u) (h : HasN w F n) (h' : HasF w G f) :
    (results fn tmps).run Try.prog w = .ok (.tuple #[n.v, f.v, u]) w := by
  have hl := load_n h
  have hl' := load_f h'
  have ht' : tmps[p]?.getD undef = .pointer (some ⟨F, 0, none⟩) := by simpa using ht
  have ht2' : tmps[p']?.getD undef = .pointer (some ⟨G, 0, none⟩) := by simpa using ht2
  have hq' : tmps[q]?.getD undef = u := by simpa using hq
  simp only [results, hf]
  simp [ht', ht2', hq', asAddr, hl, hl']
/-- A node stored over one. -/
def set7 (w : World) (F : Nat) (a b c d e f g : Value) : World := ((((((w.setCell ⟨F, 0, none⟩ a).setCell ⟨F, 1, none⟩ b).setCell ⟨F, 2, none⟩ c).setCell ⟨F, 3, none⟩ d).setCell ⟨F, 4, none⟩ e).setCell ⟨F, 5, none⟩ f).setCell ⟨F, 6, none⟩ g
theorem set7_obj {w : World} {F : Nat} {a b c d e f g : Value} {t : TypeId} (h : w.heap[F]? = some (.cells #[a, b, c, d, e, f, g] t)) (a' b' c' d' e' f' g' : Value) :
    (set7 w F a' b' c' d' e' f' g').heap[F]? = some (.cells #[a', b', c', d', e', f', g'] t) := by
  simp [set7, World.setCell, Array.getElem?_modify, h]
theorem set7_grown (w : World) (F : Nat) (a b c d e f g : Value) : w.grownBy (set7 w F a b c d e f g) (some F) :=
  ((((((grown_setAt w F 0 a).trans (grown_setAt _ F 1 b)).trans (grown_setAt _ F 2 c)).trans (grown_setAt _ F 3 d)).trans (grown_setAt _ F 4 e)).trans (grown_setAt _ F 5 f)).trans (grown_setAt _ F 6 g)
theorem set0_obj7 {w : World} {F : Nat} {a b c d e f g : Value} {t : TypeId} (h : w.heap[F]? = some (.cells #[a, b, c, d, e, f, g] t)) (a' : Value) :
    (w.setCell ⟨F, 0, none⟩ a').heap[F]? = some (.cells #[a', b, c, d, e, f, g] t) := by
  simp [World.setCell, Array.getElem?_modify, h]
theorem set6_obj7 {w : World} {F : Nat} {a b c d e f g : Value} {t : TypeId} (h : w.heap[F]? = some (.cells #[a, b, c, d, e, f, g] t)) (g' : Value) :
    (w.setCell ⟨F, 6, none⟩ g').heap[F]? = some (.cells #[a, b, c, d, e, f, g'] t) := by
  simp [World.setCell, Array.getElem?_modify, h]
def set25 (w : World) (F : Nat) (c d e f : Value) : World := (((w.setCell ⟨F, 2, none⟩ c).setCell ⟨F, 3, none⟩ d).setCell ⟨F, 4, none⟩ e).setCell ⟨F, 5, none⟩ f
theorem set25_obj {w : World} {F : Nat} {a b c d e f g : Value} {t : TypeId} (h : w.heap[F]? = some (.cells #[a, b, c, d, e, f, g] t)) (c' d' e' f' : Value) :
    (set25 w F c' d' e' f').heap[F]? = some (.cells #[a, b, c', d', e', f', g] t) := by
  simp [set25, World.setCell, Array.getElem?_modify, h]
theorem set25_grown (w : World) (F : Nat) (c d e f : Value) : w.grownBy (set25 w F c d e f) (some F) :=
  ((((grown_setAt w F 2 c)).trans (grown_setAt _ F 3 d)).trans (grown_setAt _ F 4 e)).trans (grown_setAt _ F 5 f)
theorem set4_obj5 {w : World} {F : Nat} {a b c d e : Value} {t : TypeId} (h : w.heap[F]? = some (.cells #[a, b, c, d, e] t)) (e' : Value) :
    (w.setCell ⟨F, 4, none⟩ e').heap[F]? = some (.cells #[a, b, c, d, e'] t) := by
  simp [World.setCell, Array.getElem?_modify, h]
theorem below_g {w0 w w' : World} {F : Nat} (b : Below w0.heap.size w0 w) (g : w.grownBy w' (some F)) (hF : w0.heap.size ≤ F) : Below w0.heap.size w0 w' :=
  ⟨g.os.trans b.os, g.tape.trans b.tape, g.output.trans b.output, Nat.le_trans b.size g.size, fun k hk => (g.block k (Nat.lt_of_lt_of_le hk b.size) (by simp; omega)).trans (b.block k hk)⟩
theorem other_g {w w' : World} {F G : Nat} {o : Obj} (g : w.grownBy w' (some F)) (h : w.heap[G]? = some o) (hne : G ≠ F) : w'.heap[G]? = some o :=
  (g.block G (Array.getElem?_eq_some_iff.1 h).1 (by simpa using hne)).trans h
/-- Where P is true, but for the call's own boxes. -/
def Gap (P : Nat → Prop) (lo hi : Nat) : Nat → Prop := fun b => P b ∧ (b < lo ∨ hi ≤ b)
theorem gap_up {P : Nat → Prop} {lo hi : Nat} (hP : ∀ b, lo ≤ b → P b) (h : lo ≤ hi) : ∀ b, hi ≤ b → Gap P lo hi b := fun b hb => ⟨hP b (Nat.le_trans h hb), .inr hb⟩
theorem gap_not {P : Nat → Prop} {lo hi X : Nat} (h1 : lo ≤ X) (h2 : X < hi) : ¬ Gap P lo hi X := fun h => by rcases h.2 with h | h <;> omega
theorem FIs.gap {w : World} {P : Nat → Prop} {f : FV} {F : FC} (h : FIs w P f F) (hi : Nat) : FIs w (Gap P w.heap.size hi) f F := h.mono fun b hb hp => ⟨hp, .inl hb⟩
theorem FSl.gap {w : World} {P : Nat → Prop} {A : Option Addr} {n c : Nat} {Fs : List FC} (h : FSl w P A n c Fs) (hi : Nat) : FSl w (Gap P w.heap.size hi) A n c Fs := h.mono fun b hb hp => ⟨hp, .inl hb⟩
theorem LSl.gap {w : World} {P : Nat → Prop} {A : Option Addr} {n c : Nat} {Fs : List FL} (h : LSl w P A n c Fs) (hi : Nat) : LSl w (Gap P w.heap.size hi) A n c Fs := h.mono fun b hb hp => ⟨hp, .inl hb⟩
theorem NIs.gap {w : World} {P : Nat → Prop} {n : NV} {N : NC} (h : NIs w P n N) (hi : Nat) : NIs w (Gap P w.heap.size hi) n N := h.mono fun b hb hp => ⟨hp, .inl hb⟩
theorem FIs.ungap {w : World} {P : Nat → Prop} {lo hi : Nat} {f : FV} {F : FC} (h : FIs w (Gap P lo hi) f F) : FIs w P f F := h.mono fun _ _ hp => hp.1
theorem FSl.ungap {w : World} {P : Nat → Prop} {lo hi : Nat} {A : Option Addr} {n c : Nat} {Fs : List FC} (h : FSl w (Gap P lo hi) A n c Fs) : FSl w P A n c Fs := h.mono fun _ _ hp => hp.1
theorem NIs.ungap {w : World} {P : Nat → Prop} {lo hi : Nat} {n : NV} {N : NC} (h : NIs w (Gap P lo hi) n N) : NIs w P n N := h.mono fun _ _ hp => hp.1
theorem alloc_at {X : Nat} (w : World) (o : Obj) (h : w.heap.size = X) : (w.alloc o).heap[X]? = some o := by subst h; exact World.alloc_heap_new w o
theorem HasN.lt {w : World} {F : Nat} {n : NV} (h : HasN w F n) : F < w.heap.size := (Array.getElem?_eq_some_iff.1 h).1
theorem HasF.lt {w : World} {F : Nat} {n : FV} (h : HasF w F n) : F < w.heap.size := (Array.getElem?_eq_some_iff.1 h).1

end Go.Proofs.Ytlbgilbigcnleaa
