/-
  NFi · NCn · NFm · NdB · NdF · NdR · NdC · NdM · NbM · NAny · NdS · NdN · NdK · NdW · NdP · NdQ.
-/
import Derived.Test.YtcifjccojmfpaaaGreatJ0
import Derived.WalkKit
import Derived.WalkSpells
import Derived.WalkLawsBesides
import Derived.Deep.QuietTactic
import Derived.BigQuiet
import Derived.Deep.Draws
import Derived.Lib.Hide
import Derived.Laws.BitsAllLaws
import Derived.Laws.BitsLemmas
import Derived.Maps.AppendAt
import Derived.OwnWalk
import Derived.Below
import Derived.RangeFuncBox
import Derived.Deep.RegionHeld3
import Derived.Deep.CutRange
import Derived.Deep.OwnRows
import Derived.Lib.JoinLaws
import Derived.Lib.MinMax
import Derived.Laws.EntriesVeiled
import Derived.Maps.OwnOps
import Derived.Deep.RegionWith
import Derived.Lib.SliceRun
set_option maxRecDepth 100000
set_option maxHeartbeats 4000000
namespace Go.Proofs.YtcifjccojmfpaaaGreat
open Go.RowKit
set_option linter.unusedVariables false
set_option linter.unusedSimpArgs false
theorem cells3 {w : World} {F : Nat} {a b c : Value} {t : TypeId} (h : w.heap[F]? = some (.cells #[a, b, c] t)) :
    (w.cell? ⟨F, 0, none⟩ = some a ∧ w.cell? ⟨F, 1, none⟩ = some b ∧ w.cell? ⟨F, 2, none⟩ = some c) ∧
    w.frozen? ⟨F, 0, none⟩ = false ∧ w.frozen? ⟨F, 1, none⟩ = false ∧ w.frozen? ⟨F, 2, none⟩ = false := by
  simp [World.cell?, World.frozen?, h]
theorem cells3' {w : World} {F : Nat} {a b c : Value} {t : TypeId} (h : w.heap[F]? = some (.cells #[a, b, c] t)) :
    w.cell? ⟨F, 0, none⟩ = some a ∧ w.cell? ⟨F, 1, none⟩ = some b ∧ w.cell? ⟨F, 2, none⟩ = some c := (cells3 h).1
structure FL where
  x : Bool
  k : Int
  m : Int
deriving DecidableEq
abbrev FL.v (f : FL) : Value := .agg #[.bool f.x, .int .i64 f.k, .int .i64 f.m]
def FL.cs (f : FL) : List Value := [.bool f.x, .int .i64 f.k, .int .i64 f.m]
abbrev HasL (w : World) (F : Nat) (f : FL) : Prop := w.heap[F]? = some (.cells #[.bool f.x, .int .i64 f.k, .int .i64 f.m] 85)
abbrev HasF (w : World) (F : Nat) (f : FV) : Prop := w.heap[F]? = some (.cells #[.bool f.x, .int .i64 f.i, .bool f.r, .int .i64 f.n, .slice f.a f.m f.c] 34)
abbrev CL (W : World) (F : Nat) (f : FL) : Prop := W.cell? ⟨F, 0, none⟩ = some (.bool f.x) ∧ W.cell? ⟨F, 1, none⟩ = some (.int .i64 f.k) ∧ W.cell? ⟨F, 2, none⟩ = some (.int .i64 f.m)
abbrev CF (W : World) (F : Nat) (f : FV) : Prop := W.cell? ⟨F, 0, none⟩ = some (.bool f.x) ∧ W.cell? ⟨F, 1, none⟩ = some (.int .i64 f.i) ∧ W.cell? ⟨F, 2, none⟩ = some (.bool f.r) ∧ W.cell? ⟨F, 3, none⟩ = some (.int .i64 f.n) ∧ W.cell? ⟨F, 4, none⟩ = some (.slice f.a f.m f.c)
def takesV (f : FL) (x : Bool) (i : Int) : Bool := (x == f.x) && (bits .and .i64 i f.k == f.m)
def withinV (f : FL) (k : Int) : FL := ⟨f.x, bits .and .i64 f.k k, bits .and .i64 f.m k⟩
def coversV (a b : FL) : Bool := decide (withinV b a.k = a)
def meetsV (a b : FL) : Bool := decide (withinV a b.k = withinV b a.k)
def sameL (a b : FL) : Bool := decide (a = b)
theorem eqIn_fl (x : Bool) (k m : Int) (x' : Bool) (k' m' : Int) (w : World) :
    (Op.equalIn 10000 85 (.agg #[.bool x, .int .i64 k, .int .i64 m]) (.agg #[.bool x', .int .i64 k', .int .i64 m'])).run Tryz.prog w = .ok (sameL ⟨x, k, m⟩ ⟨x', k', m'⟩) w := by
  by_cases h1 : x = x' <;> by_cases h2 : k = k' <;> by_cases h3 : m = m' <;> simp [go_sem, sameL, h1, h2, h3]
theorem below_two (w : World) (o1 o2 : Obj) : Below w.heap.size w ((w.alloc o1).alloc o2) := below_then (below_alloc1 _ _) (below_alloc1 _ _)
theorem takes_any (f : FL) (g : FV) (w : World) :
    Calls Tryz.prog 106 #[f.v, g.v] w fun e w' => e = .returned (.bool (takesV f g.x g.i)) ∧ Below w.heap.size w w' := by
  go_enter Tryz.func106, Tryz.ntmps106
  go_wp2_with fail
  all_goals
    go_ret
    exact ⟨ret_bool (by simp [takesV, *]), below_two _ _ _⟩
theorem refTakes_any (f : FL) (g : FV) (w : World) :
    Calls Tryz.prog 52 #[f.v, g.v] w fun e w' => e = .returned (.bool (takesV f g.x g.i)) ∧ Below w.heap.size w w' := by
  cases hx : f.x == g.x
  all_goals
    go_enter Tryz.func52, Tryz.ntmps52
    go_wp2_with fail
    go_ret
    refine ⟨ret_bool ?_, below_two _ _ _⟩
    rw [Bool.eq_iff_iff]
    simp only [beq_eq_false_iff_ne, beq_iff_eq, ne_eq] at hx
    simp [takesV, hx]
    try (intro h; exact absurd h.symm hx)
theorem blk1 (w : World) (o1 o2 : Obj) : ((w.alloc o1).alloc o2).heap[w.heap.size]? = some o1 := block_below (below_alloc1 _ _) (World.alloc_heap_new _ _)
theorem blk2_NFi (w : World) (o1 o2 : Obj) : ((w.alloc o1).alloc o2).heap[w.heap.size + 1]? = some o2 := by
  have := World.alloc_heap_new (w.alloc o1) o2
  simpa using this
def mostL (x : Bool) : Int := if x then 536870912 else 2048
def rightP (f : FL) : Bool := decide (0 ≤ f.k ∧ f.k < mostL f.x) && (bits .andNot .i64 f.m f.k == 0)
def refRightP (f : FL) : Bool := decide (0 ≤ f.k ∧ f.k < mostL f.x ∧ 0 ≤ f.m ∧ f.m < mostL f.x) && (bits .and .i64 f.m f.k == f.m)
def refCoversP (a b : FL) : Bool := (a.x == b.x) && (bits .and .i64 a.k b.k == a.k) && (bits .and .i64 b.m a.k == a.m)
def refMeetsP (a b : FL) : Bool := (a.x == b.x) && (bits .and .i64 (bits .and .i64 (bits .xor .i64 a.m b.m) a.k) b.k == 0)
theorem refRight_any (f : FL) (w : World) :
    Calls Tryz.prog 63 #[f.v] w fun e w' => e = .returned (.bool (refRightP f)) ∧ Below w.heap.size w w' := by
  obtain ⟨x, k, m⟩ := f
  have Hfin := Lib.hid (below_alloc1 w (.cells #[.bool x, .int .i64 k, .int .i64 m] 85))
  obtain ⟨M, hM⟩ : ∃ M, mostL x = M := ⟨_, rfl⟩
  rcases dec (0 ≤ k) with ⟨d1, h1⟩ | ⟨d1, h1⟩
  · cases x
    · rcases dec (k < 2048) with ⟨d2, h2⟩ | ⟨d2, h2⟩
      · rcases dec (0 ≤ m) with ⟨d3, h3⟩ | ⟨d3, h3⟩
        · rcases dec (m < 2048) with ⟨d4, h4⟩ | ⟨d4, h4⟩
          all_goals
            go_enter Tryz.func63, Tryz.ntmps63
            go_wp2_with fail
            go_ret
            exact ⟨ret_bool (by rw [Bool.eq_iff_iff]; simp [refRightP, mostL]; omega), Hfin.out⟩
        · go_enter Tryz.func63, Tryz.ntmps63
          go_wp2_with fail
          go_ret
          exact ⟨ret_bool (by rw [Bool.eq_iff_iff]; simp [refRightP, mostL]; omega), Hfin.out⟩
      · go_enter Tryz.func63, Tryz.ntmps63
        go_wp2_with fail
        go_ret
        exact ⟨ret_bool (by rw [Bool.eq_iff_iff]; simp [refRightP, mostL]; omega), Hfin.out⟩
    · rcases dec (k < 536870912) with ⟨d2, h2⟩ | ⟨d2, h2⟩
      · rcases dec (0 ≤ m) with ⟨d3, h3⟩ | ⟨d3, h3⟩
        · rcases dec (m < 536870912) with ⟨d4, h4⟩ | ⟨d4, h4⟩
          all_goals
            go_enter Tryz.func63, Tryz.ntmps63
            go_wp2_with fail
            go_ret
            exact ⟨ret_bool (by rw [Bool.eq_iff_iff]; simp [refRightP, mostL]; omega), Hfin.out⟩
        · go_enter Tryz.func63, Tryz.ntmps63
          go_wp2_with fail
          go_ret
          exact ⟨ret_bool (by rw [Bool.eq_iff_iff]; simp [refRightP, mostL]; omega), Hfin.out⟩
      · go_enter Tryz.func63, Tryz.ntmps63
        go_wp2_with fail
        go_ret
        exact ⟨ret_bool (by rw [Bool.eq_iff_iff]; simp [refRightP, mostL]; omega), Hfin.out⟩
  · cases x
    all_goals
      go_enter Tryz.func63, Tryz.ntmps63
      go_wp2_with fail
      go_ret
      exact ⟨ret_bool (by rw [Bool.eq_iff_iff]; simp [refRightP, mostL]; omega), Hfin.out⟩
def frRightP (g : FV) : Bool := decide (0 ≤ g.i ∧ g.i < mostL g.x ∧ 0 ≤ g.n ∧ g.n ≤ 8 ∧ (g.m : Int) = if g.r then 0 else g.n)
def LAt (w : World) (a : Addr) (f : FL) : Prop :=
  w.cell? a = some (.bool f.x) ∧ w.cell? ⟨a.block, a.off + 1, none⟩ = some (.int .i64 f.k) ∧ w.cell? ⟨a.block, a.off + 2, none⟩ = some (.int .i64 f.m)
def LRow (w : World) (B : Nat) (A : Option Addr) (fs : List FL) : Prop :=
  fs = [] ∨ ∃ ad, A = some ad ∧ ad.block < B ∧ ∀ k f, fs[k]? = some f → LAt w (ad.add (k * 3)) f
theorem LRow.get_ {w : World} {B : Nat} {A : Option Addr} {fs : List FL} (h : LRow w B A fs) {k : Nat} (hk : k < fs.length) : ∃ ad f, A = some ad ∧ fs[k]? = some f ∧ LAt w (ad.add (k * 3)) f := by
  rcases h with rfl | ⟨ad, e, _, hc⟩
  · simp at hk
  · exact ⟨ad, fs[k], e, List.getElem?_eq_getElem hk, hc k _ (List.getElem?_eq_getElem hk)⟩
theorem LRow.move {w w' : World} {B : Nat} {A : Option Addr} {fs : List FL} (h : LRow w B A fs) (hk : ∀ p : Addr, p.block < B → w'.cell? p = w.cell? p) : LRow w' B A fs := by
  rcases h with rfl | ⟨ad, e, hb, hc⟩
  · exact .inl rfl
  · refine .inr ⟨ad, e, hb, fun k f hf => ?_⟩
    obtain ⟨h0, h1, h2⟩ := hc k f hf
    have hb' : (ad.add (k * 3)).block < B := by rw [addr_block]; exact hb
    exact ⟨(hk _ hb').trans h0, (hk ⟨_, _, none⟩ hb').trans h1, (hk ⟨_, _, none⟩ hb').trans h2⟩
theorem LRow.more {w : World} {B B' : Nat} {A : Option Addr} {fs : List FL} (h : LRow w B A fs) (hB : B ≤ B') : LRow w B' A fs := by
  rcases h with rfl | ⟨ad, e, hb, hc⟩
  · exact .inl rfl
  · exact .inr ⟨ad, e, by omega, hc⟩
theorem LRow.below {w w' : World} {B : Nat} {A : Option Addr} {fs : List FL} (h : LRow w B A fs) (hb : Below B w w') : LRow w' B A fs := h.move fun _ hp => hb.cell hp
theorem LRow.to {a b : World} {A : Option Addr} {fs : List FL} (h : LRow a a.heap.size A fs) (k : Below a.heap.size a b) : LRow b b.heap.size A fs := (h.below k).more k.size
def lcells (fs : List FL) : List Value := fs.flatMap FL.cs
theorem lcells_len (fs : List FL) : (lcells fs).length = fs.length * 3 := by
  induction fs with
  | nil => rfl
  | cons f fs ih => simp only [lcells, List.flatMap_cons, List.length_append, List.length_cons] at ih ⊢; rw [ih]; simp [FL.cs]; omega
theorem lcells_at : ∀ (fs : List FL) (k : Nat) (f : FL), fs[k]? = some f → (lcells fs)[k * 3]? = some (.bool f.x) ∧ (lcells fs)[k * 3 + 1]? = some (.int .i64 f.k) ∧ (lcells fs)[k * 3 + 2]? = some (.int .i64 f.m)
  | [], k, f, h => by simp at h
  | g :: fs, 0, f, h => by
    simp at h
    subst h
    simp [lcells, FL.cs]
  | g :: fs, k + 1, f, h => by
    obtain ⟨h0, h1, h2⟩ := lcells_at fs k f (by simpa using h)
    have e : lcells (g :: fs) = FL.cs g ++ lcells fs := rfl
    have hl : (FL.cs g).length = 3 := rfl
    rw [e]
    refine ⟨?_, ?_, ?_⟩
    · rw [List.getElem?_append_right (by omega), hl, show (k + 1) * 3 - 3 = k * 3 by omega]; exact h0
    · rw [List.getElem?_append_right (by omega), hl, show (k + 1) * 3 + 1 - 3 = k * 3 + 1 by omega]; exact h1
    · rw [List.getElem?_append_right (by omega), hl, show (k + 1) * 3 + 2 - 3 = k * 3 + 2 by omega]; exact h2
abbrev LOwn (w : World) (base : Nat) (A : Option Addr) (n c : Nat) (fs : List FL) : Prop := w.ownsRow base 85 3 (.slice A n c) n (lcells fs)
theorem LRow.of_cells {w : World} {g : Nat} {fs : List FL} (hg : g < w.heap.size) (h : ∀ j u, (lcells fs)[j]? = some u → w.cell? ((⟨g, 0, none⟩ : Addr).add j) = some u) : LRow w w.heap.size (some ⟨g, 0, none⟩) fs := by
  refine .inr ⟨_, rfl, hg, fun k f hf => ?_⟩
  obtain ⟨h0, h1, h2⟩ := lcells_at fs k f hf
  have e : ∀ i, (⟨g, 0, none⟩ : Addr).add (k * 3 + i) = ⟨((⟨g, 0, none⟩ : Addr).add (k * 3)).block, ((⟨g, 0, none⟩ : Addr).add (k * 3)).off + i, none⟩ := by
    intro i
    rw [add0, add0]
  exact ⟨h _ _ h0, by rw [← e]; exact h _ _ h1, by rw [← e]; exact h _ _ h2⟩
theorem LRow.own {w : World} {base : Nat} {A : Option Addr} {n c : Nat} {fs : List FL} (h : LOwn w base A n c fs) : LRow w w.heap.size A fs := by
  rcases h.2 with ⟨e1, e2⟩ | ⟨g, cap, cur, e1, hb, hg, _, _, _, ht⟩
  · left
    have := h.1
    rw [lcells_len] at this
    cases fs with
    | nil => rfl
    | cons f fs => simp at this; omega
  · have hA : A = some ⟨g, 0, none⟩ := by injection e1
    subst hA
    exact LRow.of_cells (Array.getElem?_eq_some_iff.1 hg).1 (h.cells (g := g) rfl)
theorem LOwn.len {w : World} {base : Nat} {A : Option Addr} {n c : Nat} {fs : List FL} (h : LOwn w base A n c fs) : fs.length = n := by
  have := h.1
  rw [lcells_len] at this
  omega
def anyV (fs : List FL) (x : Bool) (i : Int) : Bool := fs.isEmpty || fs.any (takesV · x i)
def goodV (fs : List FL) : Bool := fs.all refRightP
def noneUpto (fs : List FL) (x : Bool) (i : Int) (k : Nat) : Prop := ∀ j f, j < k → fs[j]? = some f → takesV f x i = false
theorem noneUpto.next {fs : List FL} {x : Bool} {i : Int} {k : Nat} (h : noneUpto fs x i k) {f : FL} (hf : fs[k]? = some f) (ht : takesV f x i = false) : noneUpto fs x i (k + 1) := by
  intro j g hj hg
  by_cases hjk : j < k
  · exact h j g hjk hg
  · obtain rfl : j = k := by omega
    rw [hf] at hg
    obtain rfl := Option.some.inj hg
    exact ht
theorem noneUpto.all {fs : List FL} {x : Bool} {i : Int} (h : noneUpto fs x i fs.length) : fs.any (takesV · x i) = false := by
  rw [List.any_eq_false]
  intro f hf
  obtain ⟨j, hj, e⟩ := List.getElem_of_mem hf
  have := h j f hj (by rw [List.getElem?_eq_getElem hj, e])
  simp [this]
theorem any_at {fs : List FL} {x : Bool} {i : Int} {k : Nat} {f : FL} (hf : fs[k]? = some f) (ht : takesV f x i = true) : fs.any (takesV · x i) = true := by
  rw [List.any_eq_true]
  exact ⟨f, List.mem_of_getElem? hf, ht⟩
theorem any1_any (f : FL) (g : FV) (X : Nat) (w : World) (hX : HasF w X g) (q : Bool) (hq : takesV f g.x g.i = q) :
    Calls Tryz.prog 105 #[f.v, .pointer (some ⟨X, 0, none⟩)] w fun e w' => e = .returned (.bool q) ∧ Below w.heap.size w w' := by
  have Hq := Lib.hid hq
  clear hq
  obtain ⟨w0, hw0⟩ : ∃ w0, w.alloc (.cells #[.bool f.x, .int .i64 f.k, .int .i64 f.m] 85) = w0 := ⟨_, rfl⟩
  have hT0 : Below w.heap.size w w0 := by rw [← hw0]; exact below_alloc1 _ _
  have hA0 : HasL w0 w.heap.size f := by rw [← hw0]; exact World.alloc_heap_new _ _
  have hX0 : HasF w0 X g := block_below hT0 hX
  obtain ⟨a0, a1, a2⟩ := cells3' hA0
  obtain ⟨b0, b1, b2, b3, b4⟩ := cells5' hX0
  go_enter Tryz.func105, Tryz.ntmps105
  go_wp2_with (first | (go_at_call 106; refine (takes_any f g _).mono ?_; rw [Hq.out]; rintro e w1 ⟨rfl, hB1⟩) | fail)
  go_ret
  exact ⟨rfl, below_then hT0 hB1⟩
abbrev clos (X : Nat) : Value := .func (.func 105) #[] #[.pointer (some ⟨X, 0, none⟩)]
theorem index_any_NFi (fs : List FL) (g : FV) (X n : Nat) (hn : fs.length = n) (A : Option Addr) (c : Nat) (w : World) (h : LRow w w.heap.size A fs) (hX : HasF w X g) (hm : n ≤ 1000) :
    Calls Tryz.prog 122 #[.slice A n c, clos X] w fun e w' => ∃ z : Int, e = .returned (.int .i64 z) ∧ decide (0 ≤ z) = fs.any (takesV · g.x g.i) ∧ Below w.heap.size w w' := by
  have Hn := Lib.hid hn
  clear hn
  go_enter Tryz.func122, Tryz.ntmps122
  go_wp2_with fail
  go_loopw [8] (fun i wr => ∃ k : Nat, k ≤ n ∧ i = .int .i64 k ∧ noneUpto fs g.x g.i k ∧ Below w.heap.size w wr) (fun i _ => n - (intOf i).toNat)
  case atStart => exact ⟨0, Nat.zero_le _, rfl, fun j f hj => absurd hj (by omega), Below.refl _ _⟩
  case round =>
    obtain ⟨k, hk, rfl, hr, hB⟩ := hrel
    have Hr := Lib.hid hr
    clear hr
    by_cases hlt : k < n
    · obtain ⟨ad, f, rfl, hf, h0, h1, h2⟩ := (h.below hB).get_ (k := k) (by rw [Hn.out]; exact hlt)
      have Hf := Lib.hid hf
      clear hf
      obtain ⟨q, hq⟩ : ∃ q, takesV f g.x g.i = q := ⟨_, rfl⟩
      have Hq := Lib.hid hq
      clear hq
      have hX1 : HasF wr X g := block_below hB hX
      have HX := Lib.hid hX1
      clear hX1
      cases q
      · go_wp2_with (first | (go_at_call 105; refine (any1_any f g X _ HX.out false Hq.out).mono ?_; rintro e w1 ⟨rfl, hB1⟩) | fail)
        go_round
        case measure => simp [intOf]; omega
        exact ⟨k + 1, by omega, by go_num, Hr.out.next Hf.out Hq.out, hB.trans (hB1.mono hB.size)⟩
      · go_wp2_with (first | (go_at_call 105; refine (any1_any f g X _ HX.out true Hq.out).mono ?_; rintro e w1 ⟨rfl, hB1⟩) | fail)
        go_ret
        exact ⟨_, rfl, by rw [any_at Hf.out Hq.out]; simp, hB.trans (hB1.mono hB.size)⟩
    · obtain rfl : k = n := by omega
      go_wp2_with fail
      go_ret
      refine ⟨_, rfl, ?_, hB⟩
      rw [noneUpto.all (by rw [Hn.out]; exact Hr.out)]
      rfl
theorem contains_any_NFi (fs : List FL) (g : FV) (X n : Nat) (hn : fs.length = n) (A : Option Addr) (c : Nat) (w : World) (h : LRow w w.heap.size A fs) (hX : HasF w X g) (hm : n ≤ 1000) (q : Bool) (hq : fs.any (takesV · g.x g.i) = q) :
    Calls Tryz.prog 107 #[.slice A n c, clos X] w fun e w' => e = .returned (.bool q) ∧ Below w.heap.size w w' := by
  have Hq := Lib.hid hq
  clear hq
  go_enter Tryz.func107, Tryz.ntmps107
  go_wp2_with (first | (go_at_call 122; refine (index_any_NFi fs g X n hn A c _ h hX hm).mono ?_; rw [Hq.out]; rintro e w1 ⟨z, rfl, hz, hB1⟩) | fail)
  go_ret
  exact ⟨rfl, hB1⟩
theorem any_any (fs : List FL) (g : FV) (n : Nat) (hn : fs.length = n) (A : Option Addr) (c : Nat) (w : World) (h : LRow w w.heap.size A fs) (hm : n ≤ 1000) :
    Calls Tryz.prog 92 #[.slice A n c, g.v] w fun e w' => e = .returned (.bool (anyV fs g.x g.i)) ∧ Below w.heap.size w w' := by
  obtain ⟨w0, hw0⟩ : ∃ w0, w.alloc (.cells #[.bool g.x, .int .i64 g.i, .bool g.r, .int .i64 g.n, .slice g.a g.m g.c] 34) = w0 := ⟨_, rfl⟩
  have hT0 : Below w.heap.size w w0 := by rw [← hw0]; exact below_alloc1 _ _
  have hX0 : HasF w0 w.heap.size g := by rw [← hw0]; exact World.alloc_heap_new _ _
  have HX := Lib.hid hX0
  clear hX0
  by_cases h0 : n = 0
  · subst h0
    obtain rfl := List.eq_nil_of_length_eq_zero hn
    go_enter Tryz.func92, Tryz.ntmps92
    go_wp2_with fail
    go_ret
    exact ⟨rfl, hT0⟩
  · obtain ⟨q, hq⟩ : ∃ q, fs.any (takesV · g.x g.i) = q := ⟨_, rfl⟩
    have Hq := Lib.hid hq
    clear hq
    have hd1 : ((n : Int) == 0) = false := by simp; omega
    have hd2 : (n == 0) = false := by simp; omega
    go_enter Tryz.func92, Tryz.ntmps92
    go_wp2_with (first | (go_at_call 107; refine (contains_any_NFi fs g w.heap.size n hn A c _ (h.to hT0) HX.out hm q Hq.out).mono ?_; rintro e w1 ⟨rfl, hB1⟩) | fail)
    go_ret
    refine ⟨ret_bool ?_, below_then hT0 hB1⟩
    unfold anyV
    rw [Hq.out]
    cases fs with
    | nil => simp at hn; omega
    | cons => simp
section
variable (f g : FL) (x : FV) (fs : List FL) (w : World) (q : Bool)
theorem refTakes_q (hq : takesV f x.x x.i = q) : Calls Tryz.prog 52 #[f.v, x.v] w fun e w' => e = .returned (.bool q) ∧ Below w.heap.size w w' := by subst hq; exact refTakes_any f x w
end
theorem held_lf {w W : World} {a : Addr} {f : FL} {G : Nat} {g : FV} (h1 : LAt w a f) (ha : a.block < w.heap.size) (h2 : HasF w G g) (b : Below w.heap.size w W) :
    W.cell? a = some (.bool f.x) ∧ W.cell? ⟨a.block, a.off + 1, none⟩ = some (.int .i64 f.k) ∧ W.cell? ⟨a.block, a.off + 2, none⟩ = some (.int .i64 f.m) ∧ W.cell? ⟨G, 0, none⟩ = some (.bool g.x) ∧ W.cell? ⟨G, 1, none⟩ = some (.int .i64 g.i) ∧ W.cell? ⟨G, 2, none⟩ = some (.bool g.r) ∧ W.cell? ⟨G, 3, none⟩ = some (.int .i64 g.n) ∧ W.cell? ⟨G, 4, none⟩ = some (.slice g.a g.m g.c) := by
  obtain ⟨a0, a1, a2⟩ := h1
  obtain ⟨b0, b1, b2, b3, b4⟩ := cells5' (block_below b h2)
  exact ⟨(b.cell ha).trans a0, (b.cell (p := ⟨a.block, a.off + 1, none⟩) ha).trans a1, (b.cell (p := ⟨a.block, a.off + 2, none⟩) ha).trans a2, b0, b1, b2, b3, b4⟩
theorem refAny_q (fs : List FL) (g : FV) (n : Nat) (hn : fs.length = n) (A : Option Addr) (c : Nat) (w : World) (h : LRow w w.heap.size A fs) (hm : n ≤ 1000) (q : Bool) (hq : anyV fs g.x g.i = q) :
    Calls Tryz.prog 23 #[.slice A n c, g.v] w fun e w' => e = .returned (.bool q) ∧ Below w.heap.size w w' := by
  subst hq
  have Hn := Lib.hid hn
  clear hn
  obtain ⟨w0, hw0⟩ : ∃ w0, w.alloc (.cells #[.bool g.x, .int .i64 g.i, .bool g.r, .int .i64 g.n, .slice g.a g.m g.c] 34) = w0 := ⟨_, rfl⟩
  have hT0 : Below w.heap.size w w0 := by rw [← hw0]; exact below_alloc1 _ _
  have hX0 : HasF w0 w.heap.size g := by rw [← hw0]; exact World.alloc_heap_new _ _
  have h0 := h.to hT0
  have HX := Lib.hid hX0
  clear hX0 h
  go_enter Tryz.func23, Tryz.ntmps23
  go_wp2_with fail
  clear hw0
  go_loopw [5] (fun i wr => ∃ k : Nat, k ≤ n ∧ i = .int .i64 k ∧ noneUpto fs g.x g.i k ∧ Below w0.heap.size w0 wr) (fun i _ => n - (intOf i).toNat)
  case atStart => exact ⟨0, Nat.zero_le _, rfl, fun j f hj => absurd hj (by omega), Below.refl _ _⟩
  case round =>
    obtain ⟨k, hk, rfl, hr, hB⟩ := hrel
    have Hr := Lib.hid hr
    clear hr
    by_cases hlt : k < n
    · obtain ⟨ad, f, rfl, hf, l0, l1, l2⟩ := (h0.below hB).get_ (k := k) (by rw [Hn.out]; exact hlt)
      have hbl : ad.block < wr.heap.size := by
        have := World.block_lt_of_cell? wr _ l0
        rwa [addr_block] at this
      have Hf := Lib.hid hf
      clear hf
      obtain ⟨q, hq⟩ : ∃ q, takesV f g.x g.i = q := ⟨_, rfl⟩
      have Hq := Lib.hid hq
      clear hq
      have hX1 : HasF wr w.heap.size g := block_below hB HX.out
      have hd1 : decide ((k : Int) < (n : Int)) = true := by simp; omega
      go_wp2_with fail
      go_cut [17] from 12 to 17 (fun s wc => s = .bool q ∧ Below wr.heap.size wr wc)
      case first =>
        go_region_held3 (fun W => W.cell? (ad.add (k * 3)) = some (.bool f.x) ∧ W.cell? ⟨(ad.add (k * 3)).block, (ad.add (k * 3)).off + 1, none⟩ = some (.int .i64 f.k) ∧ W.cell? ⟨(ad.add (k * 3)).block, (ad.add (k * 3)).off + 2, none⟩ = some (.int .i64 f.m) ∧ W.cell? ⟨w.heap.size, 0, none⟩ = some (.bool g.x) ∧ W.cell? ⟨w.heap.size, 1, none⟩ = some (.int .i64 g.i) ∧ W.cell? ⟨w.heap.size, 2, none⟩ = some (.bool g.r) ∧ W.cell? ⟨w.heap.size, 3, none⟩ = some (.int .i64 g.n) ∧ W.cell? ⟨w.heap.size, 4, none⟩ = some (.slice g.a g.m g.c))
          (exact held_lf ⟨l0, l1, l2⟩ (by rw [addr_block]; exact hbl) hX1 (by repeat (first | assumption | exact Below.refl _ _ | ((with_reducible refine lit2 _ _ _ _ _ ?_); (first | (with_reducible rfl) | (simp; done))) | ((with_reducible refine lit1 _ _ _ _ ?_); (first | (with_reducible rfl) | (simp; done))) | refine row_step (by first | assumption | exact below_alloc1 _ _ | exact below_drew1 _ | exact below_drewN0 _ _) ?_ | refine block_below (by first | assumption | exact below_alloc1 _ _ | exact below_drew1 _ | exact below_drewN0 _ _) ?_ | refine below_then ?_ (by first | assumption | exact below_alloc1 _ _ | exact below_drew1 _ | exact below_drewN0 _ _))))
          (first
            | (go_at_call 106; fail)
            | (go_at_call 52; refine (refTakes_q f g _ q Hq.out).mono ?_; rintro e w1 ⟨rfl, hB1⟩)
            | fail)
        all_goals
          have hBw : Below wr.heap.size wr w1 := by repeat (first | assumption | exact Below.refl _ _ | ((with_reducible refine lit2 _ _ _ _ _ ?_); (first | (with_reducible rfl) | (simp; done))) | ((with_reducible refine lit1 _ _ _ _ ?_); (first | (with_reducible rfl) | (simp; done))) | refine row_step (by first | assumption | exact below_alloc1 _ _ | exact below_drew1 _ | exact below_drewN0 _ _) ?_ | refine block_below (by first | assumption | exact below_alloc1 _ _ | exact below_drew1 _ | exact below_drewN0 _ _) ?_ | refine below_then ?_ (by first | assumption | exact below_alloc1 _ _ | exact below_drew1 _ | exact below_drewN0 _ _))
          go_wp2_with fail
          go_meet
          exact ⟨rfl, hBw⟩
      case rest =>
      obtain ⟨rfl, hBc⟩ := hcut
      cases q
      · go_wp2_with fail
        go_round
        case measure => simp [intOf]; omega
        exact ⟨k + 1, by omega, by go_num, Hr.out.next Hf.out Hq.out, hB.trans (hBc.mono hB.size)⟩
      · go_wp2_with fail
        go_ret
        refine ⟨ret_bool ?_, below_then hT0 (hB.trans (hBc.mono hB.size))⟩
        unfold anyV
        rw [any_at Hf.out Hq.out]
        simp
    · obtain rfl : k = n := by omega
      go_wp2_with fail
      go_ret
      refine ⟨ret_bool ?_, below_then hT0 hB⟩
      unfold anyV
      rw [noneUpto.all (by rw [Hn.out]; exact Hr.out), Bool.or_false, Bool.eq_iff_iff]
      have := Hn.out
      simp [List.isEmpty_iff]
      rw [← List.length_eq_zero_iff, this]
end Go.Proofs.YtcifjccojmfpaaaGreat

namespace Go.Proofs.YtcifjccojmfpaaaGreat
open Go.RowKit
set_option linter.unusedVariables false
set_option linter.unusedSimpArgs false
theorem blk2_NCn (w : World) (o1 o2 : Obj) : ((w.alloc o1).alloc o2).heap[w.heap.size + 1]? = some o2 := by
  have := World.alloc_heap_new (w.alloc o1) o2
  simpa using this
structure CV where
  t : Int
  r : Int
  s : Int
  q : Int
deriving DecidableEq
abbrev CV.v (c : CV) : Value := .agg #[.int .i64 c.t, .int .i64 c.r, .int .i64 c.s, .int .i64 c.q]
abbrev HasC (w : World) (F : Nat) (c : CV) : Prop := w.heap[F]? = some (.cells #[.int .i64 c.t, .int .i64 c.r, .int .i64 c.s, .int .i64 c.q] 47)
abbrev HasY (w : World) (F : Nat) (c : CV) : Prop := w.heap[F]? = some (.cells #[.int .i64 c.t, .int .i64 c.r, .int .i64 c.s, .int .i64 c.q] 152)
theorem cells4 {w : World} {F : Nat} {a b c d : Value} {t : TypeId} (h : w.heap[F]? = some (.cells #[a, b, c, d] t)) :
    (w.cell? ⟨F, 0, none⟩ = some a ∧ w.cell? ⟨F, 1, none⟩ = some b ∧ w.cell? ⟨F, 2, none⟩ = some c ∧ w.cell? ⟨F, 3, none⟩ = some d) ∧
    w.frozen? ⟨F, 0, none⟩ = false ∧ w.frozen? ⟨F, 1, none⟩ = false ∧ w.frozen? ⟨F, 2, none⟩ = false ∧ w.frozen? ⟨F, 3, none⟩ = false := by
  simp [World.cell?, World.frozen?, h]
abbrev CC (W : World) (F : Nat) (c : CV) : Prop := W.cell? ⟨F, 0, none⟩ = some (.int .i64 c.t) ∧ W.cell? ⟨F, 1, none⟩ = some (.int .i64 c.r) ∧ W.cell? ⟨F, 2, none⟩ = some (.int .i64 c.s) ∧ W.cell? ⟨F, 3, none⟩ = some (.int .i64 c.q)
theorem load_c {w : World} {F : Nat} {c : CV} (h : HasC w F c) : (loadVar 47 ⟨F, 0, none⟩).run Tryz.prog w = .ok c.v w := by
  obtain ⟨⟨c0, c1, c2, c3⟩, _⟩ := cells4 h
  simp [go_sem, c0, c1, c2, c3]
theorem load_y {w : World} {F : Nat} {c : CV} (h : HasY w F c) : (loadVar 152 ⟨F, 0, none⟩).run Tryz.prog w = .ok c.v w := by
  obtain ⟨⟨c0, c1, c2, c3⟩, _⟩ := cells4 h
  simp [go_sem, c0, c1, c2, c3]
theorem results_c {fn : Func} {p : Tmp} (hf : fn.results = #[.cell p 47]) (tmps : Array Value) {w : World} {F : Nat} {c : CV} (ht : tmps.getD p undef = .pointer (some ⟨F, 0, none⟩)) (h : HasC w F c) :
    (results fn tmps).run Tryz.prog w = .ok c.v w := by
  have hl := load_c h
  have ht' : tmps[p]?.getD undef = .pointer (some ⟨F, 0, none⟩) := by simpa using ht
  simp only [results, hf]
  simp [ht', asAddr, hl]
theorem results_y {fn : Func} {p : Tmp} (hf : fn.results = #[.cell p 152]) (tmps : Array Value) {w : World} {F : Nat} {c : CV} (ht : tmps.getD p undef = .pointer (some ⟨F, 0, none⟩)) (h : HasY w F c) :
    (results fn tmps).run Tryz.prog w = .ok c.v w := by
  have hl := load_y h
  have ht' : tmps[p]?.getD undef = .pointer (some ⟨F, 0, none⟩) := by simpa using ht
  simp only [results, hf]
  simp [ht', asAddr, hl]
def sameC (a b : CV) : Bool := decide (a = b)
theorem eqIn_c (t r s q t' r' s' q' : Int) (w : World) :
    (Op.equalIn 10000 47 (.agg #[.int .i64 t, .int .i64 r, .int .i64 s, .int .i64 q]) (.agg #[.int .i64 t', .int .i64 r', .int .i64 s', .int .i64 q'])).run Tryz.prog w = .ok (sameC ⟨t, r, s, q⟩ ⟨t', r', s', q'⟩) w := by
  by_cases h1 : t = t' <;> by_cases h2 : r = r' <;> by_cases h3 : s = s' <;> by_cases h4 : q = q' <;> simp [go_sem, sameC, h1, h2, h3, h4]
theorem eq_c (t r s q t' r' s' q' : Int) (w : World) :
    (binOp .eql 47 (.agg #[.int .i64 t, .int .i64 r, .int .i64 s, .int .i64 q]) (.agg #[.int .i64 t', .int .i64 r', .int .i64 s', .int .i64 q'])).run Tryz.prog w = .ok (.bool (sameC ⟨t, r, s, q⟩ ⟨t', r', s', q'⟩)) w := by
  rw [run_eql_struct, eqIn_c]
  rfl
def newV : CV := ⟨0, 0, 1, 0⟩
def OkC (c : CV) : Prop :=
  (c.s = 1 ∧ 0 ≤ c.t ∧ c.t ≤ 127 ∧ 0 ≤ c.r ∧ c.r ≤ 127 ∧ c.q = 0) ∨
  (c.s = 2 ∧ 0 ≤ c.t ∧ c.t ≤ 255 ∧ 0 ≤ c.r ∧ c.r ≤ 255 ∧ (127 < c.t ∨ 127 < c.r) ∧ c.q = 0) ∨
  (c.s = 3 ∧ c.t = 256 ∧ c.r = 0 ∧ 0 ≤ c.q ∧ c.q ≤ 127)
instance (c : CV) : Decidable (OkC c) := by unfold OkC; infer_instance
def rightV_NCn (c : CV) : Bool := decide (OkC c)
def sentV (c : CV) : CV := ⟨max (c.t - 1) 0, c.r, c.s, c.q⟩
def heardV (c : CV) : CV := ⟨c.t, if 127 < c.r then 127 else max (c.r - 1) 0, c.s, c.q⟩
def wrongV (c : CV) : CV := ⟨c.t + 8, c.r, c.s, c.q⟩
def longV (b : Int) (c : CV) : CV := ⟨c.t, min (c.r + b) 255, c.s, c.q⟩
def settleV (c : CV) : CV := if 255 < c.t then ⟨256, 0, 3, 0⟩ else if 127 < c.t ∨ 127 < c.r then ⟨c.t, c.r, 2, c.q⟩ else ⟨c.t, c.r, 1, c.q⟩
def restV (c : CV) (k : Int) : CV := if k = 6 then (if c.q = 127 then newV else ⟨c.t, c.r, c.s, c.q + 1⟩) else c
def effV (c : CV) (k : Int) : CV := if k = 1 then sentV c else if k = 2 then heardV c else if k = 3 then wrongV c else if k = 4 then longV 1 c else if k = 5 then longV 8 c else c
def stepV (c : CV) (k : Int) : CV := if c.s = 3 then restV c k else settleV (effV c k)
def stepsV (c : CV) (l : List Int) : CV := l.foldl stepV c
theorem stepsV_snoc (c : CV) (l : List Int) (k : Int) : stepsV c (l ++ [k]) = stepV (stepsV c l) k := by simp [stepsV]
theorem eff_ok (c : CV) (k : Int) (h : 0 ≤ c.t ∧ 0 ≤ c.r ∧ c.r ≤ 255) : 0 ≤ (effV c k).t ∧ (effV c k).t ≤ c.t + 8 ∧ 0 ≤ (effV c k).r ∧ (effV c k).r ≤ 255 ∧ (effV c k).q = c.q := by
  obtain ⟨t, r, s, q⟩ := c
  dsimp only at h
  unfold effV
  by_cases h1 : k = 1
  · rw [if_pos h1]; refine ⟨?_, ?_, ?_, ?_, rfl⟩ <;> dsimp only [sentV] <;> omega
  rw [if_neg h1]
  by_cases h2 : k = 2
  · rw [if_pos h2]
    refine ⟨?_, ?_, ?_, ?_, rfl⟩ <;> dsimp only [heardV] <;> (try split) <;> omega
  rw [if_neg h2]
  by_cases h3 : k = 3
  · rw [if_pos h3]; refine ⟨?_, ?_, ?_, ?_, rfl⟩ <;> dsimp only [wrongV] <;> omega
  rw [if_neg h3]
  by_cases h4 : k = 4
  · rw [if_pos h4]; refine ⟨?_, ?_, ?_, ?_, rfl⟩ <;> dsimp only [longV] <;> omega
  rw [if_neg h4]
  by_cases h5 : k = 5
  · rw [if_pos h5]; refine ⟨?_, ?_, ?_, ?_, rfl⟩ <;> dsimp only [longV] <;> omega
  rw [if_neg h5]
  refine ⟨?_, ?_, ?_, ?_, rfl⟩ <;> dsimp only <;> omega
theorem ok_settle (c : CV) (h : 0 ≤ c.t ∧ 0 ≤ c.r ∧ c.r ≤ 255) (hq : c.q = 0) : OkC (settleV c) := by
  obtain ⟨t, r, s, q⟩ := c
  dsimp only at h hq
  unfold settleV
  by_cases h1 : 255 < t
  · rw [if_pos h1]; exact .inr (.inr (by dsimp only; omega))
  rw [if_neg h1]
  by_cases h2 : 127 < t ∨ 127 < r
  · rw [if_pos h2]; exact .inr (.inl (by dsimp only; omega))
  · rw [if_neg h2]; exact .inl (by dsimp only; omega)
theorem ok_notOff {c : CV} (h : OkC c) (hs : c.s ≠ 3) : 0 ≤ c.t ∧ c.t ≤ 255 ∧ 0 ≤ c.r ∧ c.r ≤ 255 ∧ c.q = 0 := by
  unfold OkC at h; omega
theorem ok_rest (c : CV) (k : Int) (h : OkC c) (hs : c.s = 3) : OkC (restV c k) := by
  have h' : c.t = 256 ∧ c.r = 0 ∧ 0 ≤ c.q ∧ c.q ≤ 127 := by unfold OkC at h; omega
  obtain ⟨t, r, s, q⟩ := c
  dsimp only at h' hs
  unfold restV
  by_cases h1 : k = 6
  · rw [if_pos h1]
    by_cases h2 : q = 127
    · rw [if_pos h2]; exact .inl (by dsimp only [newV]; omega)
    · rw [if_neg h2]; exact .inr (.inr (by dsimp only; omega))
  · rw [if_neg h1]; exact h
theorem ok_step (c : CV) (k : Int) (h : OkC c) : OkC (stepV c k) := by
  unfold stepV
  by_cases hs : c.s = 3
  · rw [if_pos hs]; exact ok_rest c k h hs
  · rw [if_neg hs]
    have h1 := ok_notOff h hs
    have h2 := eff_ok c k ⟨h1.1, h1.2.2.1, h1.2.2.2.1⟩
    exact ok_settle _ ⟨h2.1, h2.2.2.1, h2.2.2.2.1⟩ (h2.2.2.2.2.trans h1.2.2.2.2)
theorem ok_steps (l : List Int) : ∀ (c : CV), OkC c → OkC (stepsV c l) := by
  induction l with
  | nil => intro c h; exact h
  | cons k l ih => intro c h; exact ih _ (ok_step c k h)
theorem ok_box {c : CV} (h : OkC c) : 0 ≤ c.t ∧ c.t ≤ 256 ∧ 0 ≤ c.r ∧ c.r ≤ 255 ∧ 0 ≤ c.q ∧ c.q ≤ 127 := by
  unfold OkC at h; omega
theorem ok_new : OkC newV := by unfold OkC newV; simp
theorem below_grownF {w0 w w' : World} {F : Nat} (b : Below w0.heap.size w0 w) (g : w.grownBy w' (some F)) (hF : w0.heap.size ≤ F) : Below w0.heap.size w0 w' :=
  ⟨g.os.trans b.os, g.tape.trans b.tape, g.output.trans b.output, Nat.le_trans b.size g.size, fun k hk => (g.block k (Nat.lt_of_lt_of_le hk b.size) (by simp; omega)).trans (b.block k hk)⟩
theorem other_grownF {w w' : World} {F G : Nat} {o : Obj} (g : w.grownBy w' (some F)) (h : w.heap[G]? = some o) (hne : G ≠ F) : w'.heap[G]? = some o :=
  (g.block G (Array.getElem?_eq_some_iff.1 h).1 (by simpa using hne)).trans h
def set4 (w : World) (F : Nat) (a b c d : Value) : World := (((w.setCell ⟨F, 0, none⟩ a).setCell ⟨F, 1, none⟩ b).setCell ⟨F, 2, none⟩ c).setCell ⟨F, 3, none⟩ d
theorem set4_obj {w : World} {F : Nat} {a b c d : Value} {t : TypeId} (h : w.heap[F]? = some (.cells #[a, b, c, d] t)) (a' b' c' d' : Value) :
    (set4 w F a' b' c' d').heap[F]? = some (.cells #[a', b', c', d'] t) := by
  simp [set4, World.setCell, Array.getElem?_modify, h]
theorem set4_grown (w : World) (F : Nat) (a b c d : Value) : w.grownBy (set4 w F a b c d) (some F) :=
  (((grown_setAt w F 0 a).trans (grown_setAt _ F 1 b)).trans (grown_setAt _ F 2 c)).trans (grown_setAt _ F 3 d)
theorem sent_any (c d : CV) (hd : sentV c = d) (h : 0 ≤ c.t ∧ c.t ≤ 1000) (w : World) :
    Calls Tryz.prog 134 #[c.v] w fun e w' => e = .returned d.v ∧ Below w.heap.size w w' := by
  have h1 : IntKind.i64.wrap (c.t - 1) = c.t - 1 := by rw [IntKind.wrap_i64]; omega
  have h2 : wrap64 (c.t - 1) = c.t - 1 := by unfold wrap64; omega
  obtain ⟨m, hm⟩ : ∃ m, max (c.t - 1) 0 = m := ⟨_, rfl⟩
  go_enter Tryz.func134, Tryz.ntmps134
  go_wp2_with fail
  refine bodyPost_ret (v := d.v) (results_y rfl _ rfl ?_) rfl ⟨rfl, ?_⟩
  · subst hd
    have := blk2_NCn w (.cells #[.int .i64 m, .int .i64 c.r, .int .i64 c.s, .int .i64 c.q] 152) (.cells #[.int .i64 m, .int .i64 c.r, .int .i64 c.s, .int .i64 c.q] 152)
    simpa [HasY, sentV, hm] using this
  · exact below_two _ _ _
theorem heard_any (c d : CV) (hd : heardV c = d) (h : 0 ≤ c.r ∧ c.r ≤ 1000) (w : World) :
    Calls Tryz.prog 135 #[c.v] w fun e w' => e = .returned d.v ∧ Below w.heap.size w w' := by
  have h1 : IntKind.i64.wrap (c.r - 1) = c.r - 1 := by rw [IntKind.wrap_i64]; omega
  have h2 : wrap64 (c.r - 1) = c.r - 1 := by unfold wrap64; omega
  obtain ⟨m, hm⟩ : ∃ m, max (c.r - 1) 0 = m := ⟨_, rfl⟩
  by_cases h3 : 127 < c.r
  · obtain rfl : d = ⟨c.t, 127, c.s, c.q⟩ := by rw [← hd]; simp [heardV, h3]
    clear hd
    go_enter Tryz.func135, Tryz.ntmps135
    go_wp2_with fail
    refine bodyPost_ret (v := CV.v ⟨c.t, 127, c.s, c.q⟩) (results_y (c := ⟨c.t, 127, c.s, c.q⟩) rfl _ rfl ?_) rfl ⟨rfl, ?_⟩
    · have := blk2_NCn w (.cells #[.int .i64 c.t, .int .i64 127, .int .i64 c.s, .int .i64 c.q] 152) (.cells #[.int .i64 c.t, .int .i64 127, .int .i64 c.s, .int .i64 c.q] 152)
      simpa [HasY, heardV, h3] using this
    · exact below_two _ _ _
  · obtain rfl : d = ⟨c.t, m, c.s, c.q⟩ := by rw [← hd]; simp [heardV, h3, hm]
    clear hd
    go_enter Tryz.func135, Tryz.ntmps135
    go_wp2_with fail
    refine bodyPost_ret (v := CV.v ⟨c.t, m, c.s, c.q⟩) (results_y (c := ⟨c.t, m, c.s, c.q⟩) rfl _ rfl ?_) rfl ⟨rfl, ?_⟩
    · have := blk2_NCn w (.cells #[.int .i64 c.t, .int .i64 m, .int .i64 c.s, .int .i64 c.q] 152) (.cells #[.int .i64 c.t, .int .i64 m, .int .i64 c.s, .int .i64 c.q] 152)
      simpa [HasY, heardV, h3, hm] using this
    · exact below_two _ _ _
theorem wrong_any (c d : CV) (hd : wrongV c = d) (h : 0 ≤ c.t ∧ c.t ≤ 1000) (w : World) :
    Calls Tryz.prog 136 #[c.v] w fun e w' => e = .returned d.v ∧ Below w.heap.size w w' := by
  have h1 : IntKind.i64.wrap (c.t + 8) = c.t + 8 := by rw [IntKind.wrap_i64]; omega
  have h2 : wrap64 (c.t + 8) = c.t + 8 := by unfold wrap64; omega
  go_enter Tryz.func136, Tryz.ntmps136
  go_wp2_with fail
  refine bodyPost_ret (v := d.v) (results_y rfl _ rfl ?_) rfl ⟨rfl, ?_⟩
  · subst hd
    have := blk2_NCn w (.cells #[.int .i64 (c.t + 8), .int .i64 c.r, .int .i64 c.s, .int .i64 c.q] 152) (.cells #[.int .i64 (c.t + 8), .int .i64 c.r, .int .i64 c.s, .int .i64 c.q] 152)
    simpa [HasY, wrongV] using this
  · exact below_two _ _ _
theorem long_any (b : Int) (hb : 0 ≤ b ∧ b ≤ 1000) (c d : CV) (hd : longV b c = d) (h : 0 ≤ c.r ∧ c.r ≤ 1000) (X : Nat) (w : World) (hX : w.cell? ⟨X, 0, none⟩ = some (.int .i64 b)) :
    Calls Tryz.prog 133 #[c.v, .pointer (some ⟨X, 0, none⟩)] w fun e w' => e = .returned d.v ∧ Below w.heap.size w w' := by
  have h1 : IntKind.i64.wrap (c.r + b) = c.r + b := by rw [IntKind.wrap_i64]; omega
  have h2 : wrap64 (c.r + b) = c.r + b := by unfold wrap64; omega
  obtain ⟨m, hm⟩ : ∃ m, min (c.r + b) 255 = m := ⟨_, rfl⟩
  have hl := World.block_lt_of_cell? w _ hX
  have hX2 : ∀ o1 o2, ((w.alloc o1).alloc o2).cell? ⟨X, 0, none⟩ = some (.int .i64 b) := fun o1 o2 => ((below_two w o1 o2).cell hl).trans hX
  go_enter Tryz.func133, Tryz.ntmps133
  go_wp2_with fail
  refine bodyPost_ret (v := d.v) (results_y rfl _ rfl ?_) rfl ⟨rfl, ?_⟩
  · subst hd
    have := blk2_NCn w (.cells #[.int .i64 c.t, .int .i64 m, .int .i64 c.s, .int .i64 c.q] 152) (.cells #[.int .i64 c.t, .int .i64 m, .int .i64 c.s, .int .i64 c.q] 152)
    simpa [HasY, longV, hm] using this
  · exact below_two _ _ _
theorem made_any_NCn (b : Int) (w : World) :
    Calls Tryz.prog 132 #[.int .i64 b] w fun e w' => ∃ X, e = .returned (.func (.func 133) #[] #[.pointer (some ⟨X, 0, none⟩)]) ∧ w.heap.size ≤ X ∧ w'.heap[X]? = some (.cells #[.int .i64 b] 3) ∧ Below w.heap.size w w' := by
  go_enter Tryz.func132, Tryz.ntmps132
  go_wp2_with fail
  go_ret
  exact ⟨w.heap.size, rfl, Nat.le_refl _, World.alloc_heap_new _ _, below_alloc1 _ _⟩
theorem new_any (w : World) :
    Calls Tryz.prog 143 #[] w fun e w' => e = .returned newV.v ∧ Below w.heap.size w w' := by
  go_enter Tryz.func143, Tryz.ntmps143
  go_wp2_with fail
  refine bodyPost_ret (v := newV.v) (results_c rfl _ rfl ?_) rfl ⟨rfl, below_alloc1 _ _⟩
  have := World.alloc_heap_new w (.cells #[.int .i64 0, .int .i64 0, .int .i64 1, .int .i64 0] 47)
  simpa [HasC, newV] using this
theorem refNew_any (w : World) :
    Calls Tryz.prog 29 #[] w fun e w' => e = .returned newV.v ∧ Below w.heap.size w w' := by
  go_enter Tryz.func29, Tryz.ntmps29
  go_wp2_with fail
  refine bodyPost_ret (v := newV.v) (results_c rfl _ rfl ?_) rfl ⟨rfl, below_alloc1 _ _⟩
  have := World.alloc_heap_new w (.cells #[.int .i64 0, .int .i64 0, .int .i64 1, .int .i64 0] 47)
  simpa [HasC, newV] using this
theorem settle_any (c d : CV) (hd : settleV c = d) (w : World) :
    Calls Tryz.prog 138 #[c.v] w fun e w' => e = .returned d.v ∧ Below w.heap.size w w' := by
  by_cases h1 : 255 < c.t
  · obtain rfl : d = ⟨256, 0, 3, 0⟩ := by rw [← hd]; simp [settleV, h1]
    clear hd
    go_enter Tryz.func138, Tryz.ntmps138
    go_wp2_with fail
    refine bodyPost_ret (v := CV.v ⟨256, 0, 3, 0⟩) (results_c (c := ⟨256, 0, 3, 0⟩) rfl _ rfl ?_) rfl ⟨rfl, ?_⟩
    · have := blk2_NCn w (.cells #[.int .i64 c.t, .int .i64 c.r, .int .i64 c.s, .int .i64 c.q] 47) (.cells #[.int .i64 256, .int .i64 0, .int .i64 3, .int .i64 0] 47)
      simpa [HasC, settleV, h1] using this
    · exact below_two _ _ _
  · by_cases h2 : 127 < c.t
    · obtain rfl : d = ⟨c.t, c.r, 2, c.q⟩ := by rw [← hd]; simp [settleV, h1, h2]
      clear hd
      go_enter Tryz.func138, Tryz.ntmps138
      go_wp2_with fail
      refine bodyPost_ret (v := CV.v ⟨c.t, c.r, 2, c.q⟩) (results_c (c := ⟨c.t, c.r, 2, c.q⟩) rfl _ rfl ?_) rfl ⟨rfl, ?_⟩
      · have := blk2_NCn w (.cells #[.int .i64 c.t, .int .i64 c.r, .int .i64 2, .int .i64 c.q] 47) (.cells #[.int .i64 c.t, .int .i64 c.r, .int .i64 2, .int .i64 c.q] 47)
        simpa [HasC, settleV, h1, h2] using this
      · exact below_two _ _ _
    · by_cases h3 : 127 < c.r
      · obtain rfl : d = ⟨c.t, c.r, 2, c.q⟩ := by rw [← hd]; simp [settleV, h1, h2, h3]
        clear hd
        go_enter Tryz.func138, Tryz.ntmps138
        go_wp2_with fail
        refine bodyPost_ret (v := CV.v ⟨c.t, c.r, 2, c.q⟩) (results_c (c := ⟨c.t, c.r, 2, c.q⟩) rfl _ rfl ?_) rfl ⟨rfl, ?_⟩
        · have := blk2_NCn w (.cells #[.int .i64 c.t, .int .i64 c.r, .int .i64 2, .int .i64 c.q] 47) (.cells #[.int .i64 c.t, .int .i64 c.r, .int .i64 2, .int .i64 c.q] 47)
          simpa [HasC, settleV, h1, h2, h3] using this
        · exact below_two _ _ _
      · obtain rfl : d = ⟨c.t, c.r, 1, c.q⟩ := by rw [← hd]; simp [settleV, h1, h2, h3]
        clear hd
        go_enter Tryz.func138, Tryz.ntmps138
        go_wp2_with fail
        refine bodyPost_ret (v := CV.v ⟨c.t, c.r, 1, c.q⟩) (results_c (c := ⟨c.t, c.r, 1, c.q⟩) rfl _ rfl ?_) rfl ⟨rfl, ?_⟩
        · have := blk2_NCn w (.cells #[.int .i64 c.t, .int .i64 c.r, .int .i64 1, .int .i64 c.q] 47) (.cells #[.int .i64 c.t, .int .i64 c.r, .int .i64 1, .int .i64 c.q] 47)
          simpa [HasC, settleV, h1, h2, h3] using this
        · exact below_two _ _ _
abbrev entry (k : Int) (v : Value) (n : Nat) : MapEntry := ⟨.int .i64 k, v, n⟩
abbrev fnv (f : Nat) : Value := .func (.func f) #[] #[]
abbrev clo (X : Nat) : Value := .func (.func 133) #[] #[.pointer (some ⟨X, 0, none⟩)]
def tab (X Y : Nat) : Array MapEntry := #[entry 1 (fnv 134) 0, entry 2 (fnv 135) 1, entry 3 (fnv 136) 2, entry 4 (clo X) 3, entry 5 (clo Y) 4]
structure HasT (w : World) (B X Y : Nat) : Prop where
  map : w.heap[B]? = some (.map (tab X Y) 5)
  one : w.heap[X]? = some (.cells #[.int .i64 1] 3)
  two : w.heap[Y]? = some (.cells #[.int .i64 8] 3)
theorem HasT.to {w w' : World} {B X Y : Nat} (h : HasT w B X Y) (b : Below w.heap.size w w') : HasT w' B X Y :=
  ⟨block_below b h.map, block_below b h.one, block_below b h.two⟩
theorem Tryz.underMap : Tryz.prog.underlying 134 = some (.map 3 151) := by kernel_rfl
theorem Tryz.underInt : Tryz.prog.underlying 3 = some (.int .i64) := by kernel_rfl
open Go.MapKept in
theorem run_put (w : World) (B : Nat) (es : Array MapEntry) (n : Nat) (h : w.heap[B]? = some (.map es n)) (k : Int) (v : Value) (hf : Instr.findNow (.int .i64) (.int .i64 k) es.toList 0 = some none) :
    ∃ w', (Instr.mapUpdate 134 (.map (some B)) (.int .i64 k) v).run Tryz.prog w = .ok () w' ∧ w'.heap[B]? = some (.map (es.push ⟨.int .i64 k, v, n⟩) (n + 1)) ∧ w.grownBy w' (some B) := by
  have hkey : IsKey (.int .i64) (.int .i64 k) := by simp [IsKey]
  refine ⟨ChangeMaps.setBlock w B (.map (es.push ⟨.int .i64 k, v, n⟩) (n + 1)), ?_, ChangeMaps.heap_setBlock_same h _, ⟨rfl, rfl, rfl, by simp [ChangeMaps.setBlock], fun i _ hi => ChangeMaps.heap_setBlock_other h _ (fun e => hi (by rw [e]))⟩⟩
  simp [Instr.mapUpdate, run_underlying Tryz.underMap, Go.MapKept.run_getObj_map h, run_checkKey Tryz.underInt hkey, run_findKey Tryz.underInt hf, run_setObj_map _ h, Result.andThen, ChangeMaps.setBlock]
theorem wpList_put (w : World) {ops : Array Oper} {rest : List Oper} {o : Oper} {a : Act} {Q : Exit → Act → World → Prop} (hg : o.guard = none) (m x v : Operand)
    (hop : o.op = Op.insert 134 m x v) (B : Nat) (es : Array MapEntry) (n : Nat) (k : Int) (val : Value)
    (hm : a.eval m = .map (some B)) (hx : a.eval x = .int .i64 k) (hv : a.eval v = val) (h : w.heap[B]? = some (.map es n)) (hf : Instr.findNow (.int .i64) (.int .i64 k) es.toList 0 = some none)
    (hK : ∀ w', w'.heap[B]? = some (.map (es.push ⟨.int .i64 k, val, n⟩) (n + 1)) → w.grownBy w' (some B) → wpList Tryz.prog ops Q rest (a.put o.dst undef) w') : wpList Tryz.prog ops Q (o :: rest) a w := by
  refine wpList_plain hg fun K' hK' => ?_
  obtain ⟨w', hrun, r1, r2⟩ := run_put w B es n h k val hf
  unfold Oper.wp
  simp [execOp, hop, hm, hx, hv, hrun, Result.andThen]
  exact hK' _ _ (hK w' r1 r2)
open Go.MapKept in
theorem run_look (w : World) (B : Nat) (es : Array MapEntry) (n : Nat) (h : w.heap[B]? = some (.map es n)) (k : Int) (j : Nat) (v : Value) (hf : Instr.findNow (.int .i64) (.int .i64 k) es.toList 0 = some (some (j, v))) :
    (Instr.lookup 134 (.map (some B)) (.int .i64 k) true).run Tryz.prog w = .ok (.tuple #[v, .bool true]) w := by
  have hkey : IsKey (.int .i64) (.int .i64 k) := by simp [IsKey]
  simp [Instr.lookup, run_underlying Tryz.underMap, Go.MapKept.run_getObj_map h, run_checkKey Tryz.underInt hkey, run_findKey Tryz.underInt hf, Result.andThen]
theorem Tryz.zeroE (w : World) : (zeroValue 151).run Tryz.prog w = .ok .nilFunc w := by kernel_rfl
open Go.MapKept in
theorem run_none (w : World) (B : Nat) (es : Array MapEntry) (n : Nat) (h : w.heap[B]? = some (.map es n)) (k : Int) (hf : Instr.findNow (.int .i64) (.int .i64 k) es.toList 0 = some none) :
    (Instr.lookup 134 (.map (some B)) (.int .i64 k) true).run Tryz.prog w = .ok (.tuple #[.nilFunc, .bool false]) w := by
  have hkey : IsKey (.int .i64) (.int .i64 k) := by simp [IsKey]
  simp [Instr.lookup, run_underlying Tryz.underMap, Go.MapKept.run_getObj_map h, run_checkKey Tryz.underInt hkey, run_findKey Tryz.underInt hf, Tryz.zeroE, Result.andThen]
theorem look1 {w : World} {B X Y : Nat} (h : HasT w B X Y) : (Instr.lookup 134 (.map (some B)) (.int .i64 1) true).run Tryz.prog w = .ok (.tuple #[fnv 134, .bool true]) w := run_look w B _ _ h.map 1 0 _ rfl
theorem look2 {w : World} {B X Y : Nat} (h : HasT w B X Y) : (Instr.lookup 134 (.map (some B)) (.int .i64 2) true).run Tryz.prog w = .ok (.tuple #[fnv 135, .bool true]) w := run_look w B _ _ h.map 2 1 _ rfl
theorem look3 {w : World} {B X Y : Nat} (h : HasT w B X Y) : (Instr.lookup 134 (.map (some B)) (.int .i64 3) true).run Tryz.prog w = .ok (.tuple #[fnv 136, .bool true]) w := run_look w B _ _ h.map 3 2 _ rfl
theorem look4 {w : World} {B X Y : Nat} (h : HasT w B X Y) : (Instr.lookup 134 (.map (some B)) (.int .i64 4) true).run Tryz.prog w = .ok (.tuple #[clo X, .bool true]) w := run_look w B _ _ h.map 4 3 _ rfl
theorem look5 {w : World} {B X Y : Nat} (h : HasT w B X Y) : (Instr.lookup 134 (.map (some B)) (.int .i64 5) true).run Tryz.prog w = .ok (.tuple #[clo Y, .bool true]) w := run_look w B _ _ h.map 5 4 _ rfl
theorem look0 {w : World} {B X Y : Nat} (h : HasT w B X Y) {k : Int} (hk : k ≠ 1 ∧ k ≠ 2 ∧ k ≠ 3 ∧ k ≠ 4 ∧ k ≠ 5) : (Instr.lookup 134 (.map (some B)) (.int .i64 k) true).run Tryz.prog w = .ok (.tuple #[.nilFunc, .bool false]) w :=
  run_none w B _ _ h.map k (by obtain ⟨h1, h2, h3, h4, h5⟩ := hk; simp only [tab, Instr.findNow, Instr.sameNow, if_true, show (k == 1) = false from by simpa using h1, show (k == 2) = false from by simpa using h2, show (k == 3) = false from by simpa using h3, show (k == 4) = false from by simpa using h4, show (k == 5) = false from by simpa using h5])
theorem table_any (w : World) :
    Calls Tryz.prog 120 #[] w fun e w' => ∃ B X Y, e = .returned (.map (some B)) ∧ HasT w' B X Y ∧ Below w.heap.size w w' := by
  have hmm := @run_makeMap Tryz.prog
  go_enter Tryz.func120, Tryz.ntmps120
  have h0 : (w.alloc (.map #[] 0)).heap[w.heap.size]? = some (.map #[] 0) := World.alloc_heap_new _ _
  go_wp2_with (first
    | (have hq_ := b2; clear hq_; refine wpList_put _ rfl _ _ _ rfl w.heap.size _ 4 5 (clo Y) rfl rfl rfl m5_ rfl ?_; intro w7 m5 g5)
    | (have hq_ := m4; clear hq_; go_at_call 132; refine (made_any_NCn 8 _).mono ?_; rintro e w6 ⟨Y, rfl, hY, bY, b2⟩; have m5_ := block_below b2 m4)
    | (have hq_ := b1; clear hq_; refine wpList_put _ rfl _ _ _ rfl w.heap.size _ 3 4 (clo X) rfl rfl rfl m4_ rfl ?_; intro w5 m4 g4)
    | (have hq_ := m3; clear hq_; go_at_call 132; refine (made_any_NCn 1 _).mono ?_; rintro e w4 ⟨X, rfl, hX, bX, b1⟩; have m4_ := block_below b1 m3)
    | (have hq_ := m2; clear hq_; refine wpList_put _ rfl _ _ _ rfl w.heap.size _ 2 3 (fnv 136) rfl rfl rfl m2 rfl ?_; intro w3 m3 g3)
    | (have hq_ := m1; clear hq_; refine wpList_put _ rfl _ _ _ rfl w.heap.size _ 1 2 (fnv 135) rfl rfl rfl m1 rfl ?_; intro w2 m2 g2)
    | (refine wpList_put _ rfl _ _ _ rfl w.heap.size _ 0 1 (fnv 134) rfl rfl rfl h0 rfl ?_; intro w1 m1 g1)
    | fail)
  go_ret
  have i1 : Below w.heap.size w w1 := below_grownF (below_alloc1 _ _) g1 (Nat.le_refl _)
  have i3 : Below w.heap.size w w3 := below_grownF (below_grownF i1 g2 (Nat.le_refl _)) g3 (Nat.le_refl _)
  have i4 : Below w.heap.size w w4 := below_then i3 b1
  have i5 : Below w.heap.size w w5 := below_grownF i4 g4 (Nat.le_refl _)
  have i6 : Below w.heap.size w w6 := below_then i5 b2
  have l3 : w.heap.size < w3.heap.size := (Array.getElem?_eq_some_iff.1 m3).1
  have l5 : w.heap.size < w5.heap.size := (Array.getElem?_eq_some_iff.1 m4).1
  refine ⟨w.heap.size, X, Y, rfl, ⟨?_, ?_, ?_⟩, below_grownF i6 g5 (Nat.le_refl _)⟩
  · exact m5
  · exact other_grownF g5 (block_below b2 (other_grownF g4 bX (by omega))) (by omega)
  · exact other_grownF g5 bY (by omega)
theorem below_set4 {w0 w : World} {F : Nat} (b : Below w0.heap.size w0 w) (hF : w0.heap.size ≤ F) (a b' c d : Value) : Below w0.heap.size w0 (set4 w F a b' c d) := below_grownF b (set4_grown w F a b' c d) hF
abbrev zeroV : CV := ⟨0, 0, 0, 0⟩
theorem rest_any (c d : CV) (k : Int) (hd : restV c k = d) (hq : 0 ≤ c.q ∧ c.q ≤ 127) (w : World) :
    Calls Tryz.prog 137 #[c.v, .int .i64 k] w fun e w' => e = .returned d.v ∧ Below w.heap.size w w' := by
  by_cases hk : k = 6
  · subst hk
    by_cases h1 : c.q = 127
    · obtain rfl : d = newV := by rw [← hd]; simp [restV, h1]
      clear hd
      obtain ⟨t, r, s, q⟩ := c
      dsimp only at h1 hq
      subst h1
      go_enter Tryz.func137, Tryz.ntmps137
      go_wp2_with fail
      obtain ⟨w0, hw0⟩ : ∃ w0, (w.alloc (.cells #[.int .i64 t, .int .i64 r, .int .i64 s, .int .i64 128] 47)).alloc (.cells #[.int .i64 0, .int .i64 0, .int .i64 0, .int .i64 0] 47) = w0 := ⟨_, rfl⟩
      have hT0 : Below w.heap.size w w0 := by rw [← hw0]; exact below_two _ _ _
      have hR0 : HasC w0 (w.heap.size + 1) zeroV := by rw [← hw0]; exact blk2_NCn _ _ _
      rw [hw0]
      clear hw0
      refine (new_any w0).mono ?_
      rintro e w1 ⟨rfl, hB1⟩
      have hT1 := below_then hT0 hB1
      have hR1 := block_below hB1 hR0
      obtain ⟨⟨c0, c1, c2, c3⟩, f0, f1, f2, f3⟩ := cells4 hR1
      go_wp2_with fail
      exact bodyPost_ret (v := newV.v) (results_c rfl _ rfl (set4_obj hR1 _ _ _ _)) rfl ⟨rfl, below_set4 hT1 (by omega) _ _ _ _⟩
    · obtain rfl : d = ⟨c.t, c.r, c.s, c.q + 1⟩ := by rw [← hd]; simp [restV, h1]
      clear hd
      have h2 : wrap64 (c.q + 1) = c.q + 1 := by unfold wrap64; omega
      have h3 : (c.q + 1 == 128) = false := by simp; omega
      have h4 : ¬ (c.q + 1 = 128) := by omega
      clear h1
      go_enter Tryz.func137, Tryz.ntmps137
      go_wp2_with fail
      exact bodyPost_ret (v := CV.v ⟨c.t, c.r, c.s, c.q + 1⟩) (results_c (c := ⟨c.t, c.r, c.s, c.q + 1⟩) rfl _ rfl (blk2_NCn _ _ _)) rfl ⟨rfl, below_two _ _ _⟩
  · obtain rfl : d = c := by rw [← hd]; simp [restV, hk]
    clear hd
    go_enter Tryz.func137, Tryz.ntmps137
    go_wp2_with fail
    exact bodyPost_ret (v := d.v) (results_c rfl _ rfl (blk2_NCn _ _ _)) rfl ⟨rfl, below_two _ _ _⟩
theorem step_off (c d : CV) (k : Int) (hd : restV c k = d) (hs : c.s = 3) (hq : 0 ≤ c.q ∧ c.q ≤ 127) (B : Nat) (w : World) :
    Calls Tryz.prog 121 #[.map (some B), c.v, .int .i64 k] w fun e w' => e = .returned d.v ∧ Below w.heap.size w w' := by
  obtain ⟨t, r, s, q⟩ := c
  dsimp only at hs hq
  subst hs
  have Hd := Lib.hid hd
  clear hd
  go_enter Tryz.func121, Tryz.ntmps121
  go_wp2_with fail
  obtain ⟨w0, hw0⟩ : ∃ w0, (w.alloc (.cells #[.int .i64 t, .int .i64 r, .int .i64 3, .int .i64 q] 47)).alloc (.cells #[.int .i64 0, .int .i64 0, .int .i64 0, .int .i64 0] 47) = w0 := ⟨_, rfl⟩
  have hT0 : Below w.heap.size w w0 := by rw [← hw0]; exact below_two _ _ _
  have hR0 : HasC w0 (w.heap.size + 1) zeroV := by rw [← hw0]; exact blk2_NCn _ _ _
  rw [hw0]
  clear hw0
  refine (rest_any ⟨t, r, 3, q⟩ d k Hd.out hq w0).mono ?_
  rintro e w1 ⟨rfl, hB1⟩
  have hT1 := below_then hT0 hB1
  have hR1 := block_below hB1 hR0
  obtain ⟨⟨c0, c1, c2, c3⟩, f0, f1, f2, f3⟩ := cells4 hR1
  go_wp2_with fail
  exact bodyPost_ret (v := d.v) (results_c rfl _ rfl (set4_obj hR1 _ _ _ _)) rfl ⟨rfl, below_set4 hT1 (by omega) _ _ _ _⟩
theorem step_1 (c d : CV) (hd : settleV (sentV c) = d) (hs : c.s ≠ 3) (hb : 0 ≤ c.t ∧ c.t ≤ 255 ∧ 0 ≤ c.r ∧ c.r ≤ 255) (B X Y : Nat) (w : World) (hT : HasT w B X Y) :
    Calls Tryz.prog 121 #[.map (some B), c.v, .int .i64 1] w fun e w' => e = .returned d.v ∧ Below w.heap.size w w' := by
  have Hd := Lib.hid hd
  clear hd
  have hs1 : (c.s == 3) = false := by simpa using hs
  have hl := look1 (hT.to (below_two w (.cells #[.int .i64 c.t, .int .i64 c.r, .int .i64 c.s, .int .i64 c.q] 47) (.cells #[.int .i64 0, .int .i64 0, .int .i64 0, .int .i64 0] 47)))
  go_enter Tryz.func121, Tryz.ntmps121
  go_wp2_with fail
  obtain ⟨w0, hw0⟩ : ∃ w0, (w.alloc (.cells #[.int .i64 c.t, .int .i64 c.r, .int .i64 c.s, .int .i64 c.q] 47)).alloc (.cells #[.int .i64 0, .int .i64 0, .int .i64 0, .int .i64 0] 47) = w0 := ⟨_, rfl⟩
  have hT0 : Below w.heap.size w w0 := by rw [← hw0]; exact below_two _ _ _
  have hC0 : HasC w0 w.heap.size c := by rw [← hw0]; exact blk1 _ _ _
  have hR0 : HasC w0 (w.heap.size + 1) zeroV := by rw [← hw0]; exact blk2_NCn _ _ _
  have hX0 := hT.to hT0
  rw [hw0]
  rw [hw0] at hl
  clear hw0
  obtain ⟨d1, hd1⟩ : ∃ d1, sentV c = d1 := ⟨_, rfl⟩
  have Hd1 := Lib.hid hd1
  clear hd1
  refine (sent_any c d1 Hd1.out (by omega) w0).mono ?_
  rintro e w1 ⟨rfl, hB1⟩
  have hT1 := below_then hT0 hB1
  have hR1 := block_below hB1 hR0
  have hC1 := block_below hB1 hC0
  obtain ⟨⟨c0, c1, c2, c3⟩, f0, f1, f2, f3⟩ := cells4 hC1
  clear hl hs1 hs
  go_wp2_with fail
  obtain ⟨w2, hw2⟩ : ∃ w2, set4 w1 w.heap.size (.int .i64 d1.t) (.int .i64 d1.r) (.int .i64 d1.s) (.int .i64 d1.q) = w2 := ⟨_, rfl⟩
  have hT2 : Below w.heap.size w w2 := by rw [← hw2]; exact below_set4 hT1 (Nat.le_refl _) _ _ _ _
  have hR2 : HasC w2 (w.heap.size + 1) zeroV := by rw [← hw2]; exact other_grownF (set4_grown _ _ _ _ _ _) hR1 (by omega)
  unfold set4 at hw2
  rw [hw2]
  clear hw2 c0 c1 c2 c3 f0 f1 f2 f3
  refine (settle_any d1 d (by rw [← Hd1.out]; exact Hd.out) w2).mono ?_
  rintro e w3 ⟨rfl, hB3⟩
  have hT3 := below_then hT2 hB3
  have hR3 := block_below hB3 hR2
  obtain ⟨⟨c0, c1, c2, c3⟩, f0, f1, f2, f3⟩ := cells4 hR3
  go_wp2_with fail
  exact bodyPost_ret (v := d.v) (results_c rfl _ rfl (set4_obj hR3 _ _ _ _)) rfl ⟨rfl, below_set4 hT3 (by omega) _ _ _ _⟩
theorem step_2 (c d : CV) (hd : settleV (heardV c) = d) (hs : c.s ≠ 3) (hb : 0 ≤ c.t ∧ c.t ≤ 255 ∧ 0 ≤ c.r ∧ c.r ≤ 255) (B X Y : Nat) (w : World) (hT : HasT w B X Y) :
    Calls Tryz.prog 121 #[.map (some B), c.v, .int .i64 2] w fun e w' => e = .returned d.v ∧ Below w.heap.size w w' := by
  have Hd := Lib.hid hd
  clear hd
  have hs1 : (c.s == 3) = false := by simpa using hs
  have hl := look2 (hT.to (below_two w (.cells #[.int .i64 c.t, .int .i64 c.r, .int .i64 c.s, .int .i64 c.q] 47) (.cells #[.int .i64 0, .int .i64 0, .int .i64 0, .int .i64 0] 47)))
  go_enter Tryz.func121, Tryz.ntmps121
  go_wp2_with fail
  obtain ⟨w0, hw0⟩ : ∃ w0, (w.alloc (.cells #[.int .i64 c.t, .int .i64 c.r, .int .i64 c.s, .int .i64 c.q] 47)).alloc (.cells #[.int .i64 0, .int .i64 0, .int .i64 0, .int .i64 0] 47) = w0 := ⟨_, rfl⟩
  have hT0 : Below w.heap.size w w0 := by rw [← hw0]; exact below_two _ _ _
  have hC0 : HasC w0 w.heap.size c := by rw [← hw0]; exact blk1 _ _ _
  have hR0 : HasC w0 (w.heap.size + 1) zeroV := by rw [← hw0]; exact blk2_NCn _ _ _
  have hX0 := hT.to hT0
  rw [hw0]
  rw [hw0] at hl
  clear hw0
  obtain ⟨d1, hd1⟩ : ∃ d1, heardV c = d1 := ⟨_, rfl⟩
  have Hd1 := Lib.hid hd1
  clear hd1
  refine (heard_any c d1 Hd1.out (by omega) w0).mono ?_
  rintro e w1 ⟨rfl, hB1⟩
  have hT1 := below_then hT0 hB1
  have hR1 := block_below hB1 hR0
  have hC1 := block_below hB1 hC0
  obtain ⟨⟨c0, c1, c2, c3⟩, f0, f1, f2, f3⟩ := cells4 hC1
  clear hl hs1 hs
  go_wp2_with fail
  obtain ⟨w2, hw2⟩ : ∃ w2, set4 w1 w.heap.size (.int .i64 d1.t) (.int .i64 d1.r) (.int .i64 d1.s) (.int .i64 d1.q) = w2 := ⟨_, rfl⟩
  have hT2 : Below w.heap.size w w2 := by rw [← hw2]; exact below_set4 hT1 (Nat.le_refl _) _ _ _ _
  have hR2 : HasC w2 (w.heap.size + 1) zeroV := by rw [← hw2]; exact other_grownF (set4_grown _ _ _ _ _ _) hR1 (by omega)
  unfold set4 at hw2
  rw [hw2]
  clear hw2 c0 c1 c2 c3 f0 f1 f2 f3
  refine (settle_any d1 d (by rw [← Hd1.out]; exact Hd.out) w2).mono ?_
  rintro e w3 ⟨rfl, hB3⟩
  have hT3 := below_then hT2 hB3
  have hR3 := block_below hB3 hR2
  obtain ⟨⟨c0, c1, c2, c3⟩, f0, f1, f2, f3⟩ := cells4 hR3
  go_wp2_with fail
  exact bodyPost_ret (v := d.v) (results_c rfl _ rfl (set4_obj hR3 _ _ _ _)) rfl ⟨rfl, below_set4 hT3 (by omega) _ _ _ _⟩
theorem step_3 (c d : CV) (hd : settleV (wrongV c) = d) (hs : c.s ≠ 3) (hb : 0 ≤ c.t ∧ c.t ≤ 255 ∧ 0 ≤ c.r ∧ c.r ≤ 255) (B X Y : Nat) (w : World) (hT : HasT w B X Y) :
    Calls Tryz.prog 121 #[.map (some B), c.v, .int .i64 3] w fun e w' => e = .returned d.v ∧ Below w.heap.size w w' := by
  have Hd := Lib.hid hd
  clear hd
  have hs1 : (c.s == 3) = false := by simpa using hs
  have hl := look3 (hT.to (below_two w (.cells #[.int .i64 c.t, .int .i64 c.r, .int .i64 c.s, .int .i64 c.q] 47) (.cells #[.int .i64 0, .int .i64 0, .int .i64 0, .int .i64 0] 47)))
  go_enter Tryz.func121, Tryz.ntmps121
  go_wp2_with fail
  obtain ⟨w0, hw0⟩ : ∃ w0, (w.alloc (.cells #[.int .i64 c.t, .int .i64 c.r, .int .i64 c.s, .int .i64 c.q] 47)).alloc (.cells #[.int .i64 0, .int .i64 0, .int .i64 0, .int .i64 0] 47) = w0 := ⟨_, rfl⟩
  have hT0 : Below w.heap.size w w0 := by rw [← hw0]; exact below_two _ _ _
  have hC0 : HasC w0 w.heap.size c := by rw [← hw0]; exact blk1 _ _ _
  have hR0 : HasC w0 (w.heap.size + 1) zeroV := by rw [← hw0]; exact blk2_NCn _ _ _
  have hX0 := hT.to hT0
  rw [hw0]
  rw [hw0] at hl
  clear hw0
  obtain ⟨d1, hd1⟩ : ∃ d1, wrongV c = d1 := ⟨_, rfl⟩
  have Hd1 := Lib.hid hd1
  clear hd1
  refine (wrong_any c d1 Hd1.out (by omega) w0).mono ?_
  rintro e w1 ⟨rfl, hB1⟩
  have hT1 := below_then hT0 hB1
  have hR1 := block_below hB1 hR0
  have hC1 := block_below hB1 hC0
  obtain ⟨⟨c0, c1, c2, c3⟩, f0, f1, f2, f3⟩ := cells4 hC1
  clear hl hs1 hs
  go_wp2_with fail
  obtain ⟨w2, hw2⟩ : ∃ w2, set4 w1 w.heap.size (.int .i64 d1.t) (.int .i64 d1.r) (.int .i64 d1.s) (.int .i64 d1.q) = w2 := ⟨_, rfl⟩
  have hT2 : Below w.heap.size w w2 := by rw [← hw2]; exact below_set4 hT1 (Nat.le_refl _) _ _ _ _
  have hR2 : HasC w2 (w.heap.size + 1) zeroV := by rw [← hw2]; exact other_grownF (set4_grown _ _ _ _ _ _) hR1 (by omega)
  unfold set4 at hw2
  rw [hw2]
  clear hw2 c0 c1 c2 c3 f0 f1 f2 f3
  refine (settle_any d1 d (by rw [← Hd1.out]; exact Hd.out) w2).mono ?_
  rintro e w3 ⟨rfl, hB3⟩
  have hT3 := below_then hT2 hB3
  have hR3 := block_below hB3 hR2
  obtain ⟨⟨c0, c1, c2, c3⟩, f0, f1, f2, f3⟩ := cells4 hR3
  go_wp2_with fail
  exact bodyPost_ret (v := d.v) (results_c rfl _ rfl (set4_obj hR3 _ _ _ _)) rfl ⟨rfl, below_set4 hT3 (by omega) _ _ _ _⟩
theorem step_4 (c d : CV) (hd : settleV (longV 1 c) = d) (hs : c.s ≠ 3) (hb : 0 ≤ c.t ∧ c.t ≤ 255 ∧ 0 ≤ c.r ∧ c.r ≤ 255) (B X Y : Nat) (w : World) (hT : HasT w B X Y) :
    Calls Tryz.prog 121 #[.map (some B), c.v, .int .i64 4] w fun e w' => e = .returned d.v ∧ Below w.heap.size w w' := by
  have Hd := Lib.hid hd
  clear hd
  have hs1 : (c.s == 3) = false := by simpa using hs
  have hl := look4 (hT.to (below_two w (.cells #[.int .i64 c.t, .int .i64 c.r, .int .i64 c.s, .int .i64 c.q] 47) (.cells #[.int .i64 0, .int .i64 0, .int .i64 0, .int .i64 0] 47)))
  go_enter Tryz.func121, Tryz.ntmps121
  go_wp2_with fail
  obtain ⟨w0, hw0⟩ : ∃ w0, (w.alloc (.cells #[.int .i64 c.t, .int .i64 c.r, .int .i64 c.s, .int .i64 c.q] 47)).alloc (.cells #[.int .i64 0, .int .i64 0, .int .i64 0, .int .i64 0] 47) = w0 := ⟨_, rfl⟩
  have hT0 : Below w.heap.size w w0 := by rw [← hw0]; exact below_two _ _ _
  have hC0 : HasC w0 w.heap.size c := by rw [← hw0]; exact blk1 _ _ _
  have hR0 : HasC w0 (w.heap.size + 1) zeroV := by rw [← hw0]; exact blk2_NCn _ _ _
  have hX0 := hT.to hT0
  rw [hw0]
  rw [hw0] at hl
  clear hw0
  obtain ⟨d1, hd1⟩ : ∃ d1, longV 1 c = d1 := ⟨_, rfl⟩
  have Hd1 := Lib.hid hd1
  clear hd1
  refine (long_any 1 (by omega) c d1 Hd1.out (by omega) X w0 (by simp [World.cell?, hX0.one])).mono ?_
  rintro e w1 ⟨rfl, hB1⟩
  have hT1 := below_then hT0 hB1
  have hR1 := block_below hB1 hR0
  have hC1 := block_below hB1 hC0
  obtain ⟨⟨c0, c1, c2, c3⟩, f0, f1, f2, f3⟩ := cells4 hC1
  clear hl hs1 hs
  go_wp2_with fail
  obtain ⟨w2, hw2⟩ : ∃ w2, set4 w1 w.heap.size (.int .i64 d1.t) (.int .i64 d1.r) (.int .i64 d1.s) (.int .i64 d1.q) = w2 := ⟨_, rfl⟩
  have hT2 : Below w.heap.size w w2 := by rw [← hw2]; exact below_set4 hT1 (Nat.le_refl _) _ _ _ _
  have hR2 : HasC w2 (w.heap.size + 1) zeroV := by rw [← hw2]; exact other_grownF (set4_grown _ _ _ _ _ _) hR1 (by omega)
  unfold set4 at hw2
  rw [hw2]
  clear hw2 c0 c1 c2 c3 f0 f1 f2 f3
  refine (settle_any d1 d (by rw [← Hd1.out]; exact Hd.out) w2).mono ?_
  rintro e w3 ⟨rfl, hB3⟩
  have hT3 := below_then hT2 hB3
  have hR3 := block_below hB3 hR2
  obtain ⟨⟨c0, c1, c2, c3⟩, f0, f1, f2, f3⟩ := cells4 hR3
  go_wp2_with fail
  exact bodyPost_ret (v := d.v) (results_c rfl _ rfl (set4_obj hR3 _ _ _ _)) rfl ⟨rfl, below_set4 hT3 (by omega) _ _ _ _⟩
theorem step_5 (c d : CV) (hd : settleV (longV 8 c) = d) (hs : c.s ≠ 3) (hb : 0 ≤ c.t ∧ c.t ≤ 255 ∧ 0 ≤ c.r ∧ c.r ≤ 255) (B X Y : Nat) (w : World) (hT : HasT w B X Y) :
    Calls Tryz.prog 121 #[.map (some B), c.v, .int .i64 5] w fun e w' => e = .returned d.v ∧ Below w.heap.size w w' := by
  have Hd := Lib.hid hd
  clear hd
  have hs1 : (c.s == 3) = false := by simpa using hs
  have hl := look5 (hT.to (below_two w (.cells #[.int .i64 c.t, .int .i64 c.r, .int .i64 c.s, .int .i64 c.q] 47) (.cells #[.int .i64 0, .int .i64 0, .int .i64 0, .int .i64 0] 47)))
  go_enter Tryz.func121, Tryz.ntmps121
  go_wp2_with fail
  obtain ⟨w0, hw0⟩ : ∃ w0, (w.alloc (.cells #[.int .i64 c.t, .int .i64 c.r, .int .i64 c.s, .int .i64 c.q] 47)).alloc (.cells #[.int .i64 0, .int .i64 0, .int .i64 0, .int .i64 0] 47) = w0 := ⟨_, rfl⟩
  have hT0 : Below w.heap.size w w0 := by rw [← hw0]; exact below_two _ _ _
  have hC0 : HasC w0 w.heap.size c := by rw [← hw0]; exact blk1 _ _ _
  have hR0 : HasC w0 (w.heap.size + 1) zeroV := by rw [← hw0]; exact blk2_NCn _ _ _
  have hX0 := hT.to hT0
  rw [hw0]
  rw [hw0] at hl
  clear hw0
  obtain ⟨d1, hd1⟩ : ∃ d1, longV 8 c = d1 := ⟨_, rfl⟩
  have Hd1 := Lib.hid hd1
  clear hd1
  refine (long_any 8 (by omega) c d1 Hd1.out (by omega) Y w0 (by simp [World.cell?, hX0.two])).mono ?_
  rintro e w1 ⟨rfl, hB1⟩
  have hT1 := below_then hT0 hB1
  have hR1 := block_below hB1 hR0
  have hC1 := block_below hB1 hC0
  obtain ⟨⟨c0, c1, c2, c3⟩, f0, f1, f2, f3⟩ := cells4 hC1
  clear hl hs1 hs
  go_wp2_with fail
  obtain ⟨w2, hw2⟩ : ∃ w2, set4 w1 w.heap.size (.int .i64 d1.t) (.int .i64 d1.r) (.int .i64 d1.s) (.int .i64 d1.q) = w2 := ⟨_, rfl⟩
  have hT2 : Below w.heap.size w w2 := by rw [← hw2]; exact below_set4 hT1 (Nat.le_refl _) _ _ _ _
  have hR2 : HasC w2 (w.heap.size + 1) zeroV := by rw [← hw2]; exact other_grownF (set4_grown _ _ _ _ _ _) hR1 (by omega)
  unfold set4 at hw2
  rw [hw2]
  clear hw2 c0 c1 c2 c3 f0 f1 f2 f3
  refine (settle_any d1 d (by rw [← Hd1.out]; exact Hd.out) w2).mono ?_
  rintro e w3 ⟨rfl, hB3⟩
  have hT3 := below_then hT2 hB3
  have hR3 := block_below hB3 hR2
  obtain ⟨⟨c0, c1, c2, c3⟩, f0, f1, f2, f3⟩ := cells4 hR3
  go_wp2_with fail
  exact bodyPost_ret (v := d.v) (results_c rfl _ rfl (set4_obj hR3 _ _ _ _)) rfl ⟨rfl, below_set4 hT3 (by omega) _ _ _ _⟩
theorem step_0 (c d : CV) (k : Int) (hk : k ≠ 1 ∧ k ≠ 2 ∧ k ≠ 3 ∧ k ≠ 4 ∧ k ≠ 5) (hd : settleV c = d) (hs : c.s ≠ 3) (B X Y : Nat) (w : World) (hT : HasT w B X Y) :
    Calls Tryz.prog 121 #[.map (some B), c.v, .int .i64 k] w fun e w' => e = .returned d.v ∧ Below w.heap.size w w' := by
  have Hd := Lib.hid hd
  clear hd
  have hs1 : (c.s == 3) = false := by simpa using hs
  have hl := look0 (hT.to (below_two w (.cells #[.int .i64 c.t, .int .i64 c.r, .int .i64 c.s, .int .i64 c.q] 47) (.cells #[.int .i64 0, .int .i64 0, .int .i64 0, .int .i64 0] 47))) hk
  clear hk
  go_enter Tryz.func121, Tryz.ntmps121
  go_wp2_with fail
  obtain ⟨w0, hw0⟩ : ∃ w0, (w.alloc (.cells #[.int .i64 c.t, .int .i64 c.r, .int .i64 c.s, .int .i64 c.q] 47)).alloc (.cells #[.int .i64 0, .int .i64 0, .int .i64 0, .int .i64 0] 47) = w0 := ⟨_, rfl⟩
  have hT0 : Below w.heap.size w w0 := by rw [← hw0]; exact below_two _ _ _
  have hR0 : HasC w0 (w.heap.size + 1) zeroV := by rw [← hw0]; exact blk2_NCn _ _ _
  rw [hw0]
  clear hl hw0
  refine (settle_any c d Hd.out w0).mono ?_
  rintro e w3 ⟨rfl, hB3⟩
  have hT3 := below_then hT0 hB3
  have hR3 := block_below hB3 hR0
  obtain ⟨⟨c0, c1, c2, c3⟩, f0, f1, f2, f3⟩ := cells4 hR3
  go_wp2_with fail
  exact bodyPost_ret (v := d.v) (results_c rfl _ rfl (set4_obj hR3 _ _ _ _)) rfl ⟨rfl, below_set4 hT3 (by omega) _ _ _ _⟩
theorem step_any (c d : CV) (k : Int) (hd : stepV c k = d) (hok : OkC c) (B X Y : Nat) (w : World) (hT : HasT w B X Y) :
    Calls Tryz.prog 121 #[.map (some B), c.v, .int .i64 k] w fun e w' => e = .returned d.v ∧ Below w.heap.size w w' := by
  have hb := ok_box hok
  by_cases hs : c.s = 3
  · exact step_off c d k (by rw [← hd, stepV, if_pos hs]) hs ⟨hb.2.2.2.2.1, hb.2.2.2.2.2⟩ B w
  · have hn := ok_notOff hok hs
    have hn' : 0 ≤ c.t ∧ c.t ≤ 255 ∧ 0 ≤ c.r ∧ c.r ≤ 255 := by omega
    rw [stepV, if_neg hs] at hd
    by_cases h1 : k = 1
    · subst h1; exact step_1 c d (by rw [← hd]; simp [effV]) hs hn' B X Y w hT
    by_cases h2 : k = 2
    · subst h2; exact step_2 c d (by rw [← hd]; simp [effV]) hs hn' B X Y w hT
    by_cases h3 : k = 3
    · subst h3; exact step_3 c d (by rw [← hd]; simp [effV]) hs hn' B X Y w hT
    by_cases h4 : k = 4
    · subst h4; exact step_4 c d (by rw [← hd]; simp [effV]) hs hn' B X Y w hT
    by_cases h5 : k = 5
    · subst h5; exact step_5 c d (by rw [← hd]; simp [effV]) hs hn' B X Y w hT
    exact step_0 c d k ⟨h1, h2, h3, h4, h5⟩ (by rw [← hd]; simp [effV, h1, h2, h3, h4, h5]) hs B X Y w hT
theorem HasT.set {w : World} {B X Y F : Nat} {c : CV} (h : HasT w B X Y) (hc : HasC w F c) (a b c' d : Value) : HasT (set4 w F a b c' d) B X Y := by
  refine ⟨other_grownF (set4_grown _ _ _ _ _ _) h.map ?_, other_grownF (set4_grown _ _ _ _ _ _) h.one ?_, other_grownF (set4_grown _ _ _ _ _ _) h.two ?_⟩
  · rintro rfl; have := h.map; unfold HasC at hc; rw [hc] at this; cases this
  · rintro rfl; have := h.one; unfold HasC at hc; rw [hc] at this; simp at this
  · rintro rfl; have := h.two; unfold HasC at hc; rw [hc] at this; simp at this
theorem stepsV_take {c : CV} {l : List Int} {k : Nat} {x : Int} (hx : l[k]? = some x) : stepsV c (l.take (k + 1)) = stepV (stepsV c (l.take k)) x := by
  rw [take_snoc hx, stepsV_snoc]
theorem steps_any (c d : CV) (l : List Int) (hd : stepsV c l = d) (hok : OkC c) (n : Nat) (hn : l.length = n) (hm : n ≤ 1000000) (A : Option Addr) (cp : Nat) (w : World) (h : Row .i64 w w.heap.size A l) :
    Calls Tryz.prog 104 #[c.v, .slice A n cp] w fun e w' => e = .returned d.v ∧ Below w.heap.size w w' := by
  have Hd := Lib.hid hd
  have Hn := Lib.hid hn
  have Hok := Lib.hid hok
  clear hd hn hok
  go_enter Tryz.func104, Tryz.ntmps104
  go_wp2_with fail
  obtain ⟨w0, hw0⟩ : ∃ w0, (w.alloc (.cells #[.int .i64 c.t, .int .i64 c.r, .int .i64 c.s, .int .i64 c.q] 47)).alloc (.cells #[.int .i64 0, .int .i64 0, .int .i64 0, .int .i64 0] 47) = w0 := ⟨_, rfl⟩
  have hT0 : Below w.heap.size w w0 := by rw [← hw0]; exact below_two _ _ _
  have hC0 : HasC w0 w.heap.size c := by rw [← hw0]; exact blk1 _ _ _
  have hR0 : HasC w0 (w.heap.size + 1) zeroV := by rw [← hw0]; exact blk2_NCn _ _ _
  rw [hw0]
  clear hw0
  refine (table_any w0).mono ?_
  rintro e w1 ⟨B, X, Y, rfl, hX1, hB1⟩
  have hT1 := below_then hT0 hB1
  have hR1 := block_below hB1 hR0
  have hC1 := block_below hB1 hC0
  go_wp2_with fail
  go_loopw [11] (fun i wr => ∃ (k : Nat) (b : CV), k ≤ n ∧ i = .int .i64 k ∧ Hid (stepsV c (l.take k) = b) ∧ HasC wr w.heap.size b ∧ HasC wr (w.heap.size + 1) zeroV ∧ HasT wr B X Y ∧ Below w.heap.size w wr) (fun i _ => n - (intOf i).toNat)
  case atStart => exact ⟨0, c, Nat.zero_le _, rfl, Lib.hid rfl, hC1, hR1, hX1, hT1⟩
  case round =>
    clear hT0 hC0 hR0 hX1 hB1 hT1 hR1 hC1
    obtain ⟨k, b, hk, rfl, Hb, hC, hR, hX, hB⟩ := hrel
    by_cases hlt : k < n
    · obtain ⟨ad, x, rfl, hx, hc⟩ := (h.below hB).get_ (k := k) (by rw [Hn.out]; exact hlt)
      obtain ⟨b2, hb2⟩ : ∃ b2, stepV b x = b2 := ⟨_, rfl⟩
      have Hs := Lib.hid (show stepsV c (l.take (k + 1)) = b2 from by rw [stepsV_take hx, Hb.out]; exact hb2)
      have Hb2 := Lib.hid hb2
      clear hx hb2
      obtain ⟨⟨c0, c1, c2, c3⟩, f0, f1, f2, f3⟩ := cells4 hC
      go_wp2_with fail
      clear c0 c1 c2 c3 f0 f1 f2 f3
      refine (step_any b b2 x Hb2.out (by rw [← Hb.out]; exact ok_steps _ _ Hok.out) B X Y wr hX).mono ?_
      rintro e w2 ⟨rfl, hB2⟩
      have hC2 := block_below hB2 hC
      have hR2 := block_below hB2 hR
      have hX2 := hX.to hB2
      have hBB := below_then hB hB2
      obtain ⟨⟨c0, c1, c2, c3⟩, f0, f1, f2, f3⟩ := cells4 hC2
      go_wp2_with fail
      go_round
      case measure => simp [intOf]; omega
      exact ⟨k + 1, b2, by omega, by go_num, Hs, set4_obj hC2 _ _ _ _, other_grownF (set4_grown _ _ _ _ _ _) hR2 (by omega), hX2.set hC2 _ _ _ _, below_set4 hBB (Nat.le_refl _) _ _ _ _⟩
    · obtain rfl : k = n := by omega
      have e1 : l.take k = l := by rw [← Hn.out, List.take_length]
      obtain rfl : b = d := by rw [← Hb.out, ← Hd.out, e1]
      clear e1
      obtain ⟨⟨c0, c1, c2, c3⟩, f0, f1, f2, f3⟩ := cells4 hC
      obtain ⟨⟨r0, r1, r2, r3⟩, g0, g1, g2, g3⟩ := cells4 hR
      go_wp2_with fail
      exact bodyPost_ret (v := b.v) (results_c rfl _ rfl (set4_obj hR _ _ _ _)) rfl ⟨rfl, below_set4 hB (by omega) _ _ _ _⟩
theorem step1_any (c d : CV) (k : Int) (hd : stepV c k = d) (hok : OkC c) (w : World) :
    Calls Tryz.prog 90 #[c.v, .int .i64 k] w fun e w' => e = .returned d.v ∧ Below w.heap.size w w' := by
  have Hd := Lib.hid hd
  have Hok := Lib.hid hok
  clear hd hok
  go_enter Tryz.func90, Tryz.ntmps90
  go_wp2_with fail
  obtain ⟨w0, hw0⟩ : ∃ w0, (w.alloc (.cells #[.int .i64 c.t, .int .i64 c.r, .int .i64 c.s, .int .i64 c.q] 47)).alloc (.cells #[.int .i64 0, .int .i64 0, .int .i64 0, .int .i64 0] 47) = w0 := ⟨_, rfl⟩
  have hT0 : Below w.heap.size w w0 := by rw [← hw0]; exact below_two _ _ _
  have hR0 : HasC w0 (w.heap.size + 1) zeroV := by rw [← hw0]; exact blk2_NCn _ _ _
  have hsz : w.heap.size + 2 = w0.heap.size := by rw [← hw0]; simp
  rw [hw0, hsz]
  clear hw0 hsz
  obtain ⟨w1, hw1⟩ : ∃ w1, w0.alloc (.cells #[.int .i64 k] 3) = w1 := ⟨_, rfl⟩
  have hT1 : Below w.heap.size w w1 := by rw [← hw1]; exact below_then hT0 (below_alloc1 _ _)
  have hR1 : HasC w1 (w.heap.size + 1) zeroV := by rw [← hw1]; exact block_below (below_alloc1 _ _) hR0
  have hL1 : Row .i64 w1 w1.heap.size (some ⟨w0.heap.size, 0, none⟩) [k] := by rw [← hw1]; simpa using Row.lit w0 .i64 [k] 3 rfl
  rw [hw1]
  clear hw1
  refine (steps_any c d [k] (by rw [← Hd.out]; rfl) Hok.out 1 rfl (by omega) _ 1 w1 hL1).mono ?_
  rintro e w2 ⟨rfl, hB2⟩
  have hT2 := below_then hT1 hB2
  have hR2 := block_below hB2 hR1
  obtain ⟨⟨c0, c1, c2, c3⟩, f0, f1, f2, f3⟩ := cells4 hR2
  go_wp2_with fail
  exact bodyPost_ret (v := d.v) (results_c rfl _ rfl (set4_obj hR2 _ _ _ _)) rfl ⟨rfl, below_set4 hT2 (by omega) _ _ _ _⟩
theorem below_three (w : World) (o1 o2 o3 : Obj) : Below w.heap.size w (((w.alloc o1).alloc o2).alloc o3) := below_then (below_two _ _ _) (below_alloc1 _ _)
theorem blk2of3 (w : World) (o1 o2 o3 : Obj) : (((w.alloc o1).alloc o2).alloc o3).heap[w.heap.size + 1]? = some o2 := block_below (below_alloc1 _ _) (blk2_NCn _ _ _)
theorem refStep_off (c d : CV) (k : Int) (hd : restV c k = d) (hs : c.s = 3) (hq : 0 ≤ c.q ∧ c.q ≤ 127) (w : World) :
    Calls Tryz.prog 55 #[c.v, .int .i64 k] w fun e w' => e = .returned d.v ∧ Below w.heap.size w w' := by
  obtain ⟨t, r, s, q⟩ := c
  dsimp only at hs hq
  subst hs
  by_cases hk : k = 6
  · subst hk
    by_cases h1 : q = 127
    · obtain rfl : d = newV := by rw [← hd]; simp [restV, h1]
      clear hd
      subst h1
      go_enter Tryz.func55, Tryz.ntmps55
      go_wp2_with fail
      obtain ⟨w0, hw0⟩ : ∃ w0, ((w.alloc (.cells #[.int .i64 t, .int .i64 r, .int .i64 3, .int .i64 127] 47)).alloc (.cells #[.int .i64 0, .int .i64 0, .int .i64 0, .int .i64 0] 47)).alloc (.cells #[.int .i64 t, .int .i64 r, .int .i64 3, .int .i64 128] 47) = w0 := ⟨_, rfl⟩
      have hT0 : Below w.heap.size w w0 := by rw [← hw0]; exact below_three _ _ _ _
      have hR0 : HasC w0 (w.heap.size + 1) zeroV := by rw [← hw0]; exact blk2of3 _ _ _ _
      rw [hw0]
      clear hw0
      refine (refNew_any w0).mono ?_
      rintro e w1 ⟨rfl, hB1⟩
      have hT1 := below_then hT0 hB1
      have hR1 := block_below hB1 hR0
      obtain ⟨⟨c0, c1, c2, c3⟩, f0, f1, f2, f3⟩ := cells4 hR1
      go_wp2_with fail
      exact bodyPost_ret (v := newV.v) (results_c rfl _ rfl (set4_obj hR1 _ _ _ _)) rfl ⟨rfl, below_set4 hT1 (by omega) _ _ _ _⟩
    · obtain rfl : d = ⟨t, r, 3, q + 1⟩ := by rw [← hd]; simp [restV, h1]
      clear hd
      have h2 : wrap64 (q + 1) = q + 1 := by unfold wrap64; omega
      have h3 : (q + 1 == 128) = false := by simp; omega
      have h4 : ¬ (q + 1 = 128) := by omega
      clear h1
      go_enter Tryz.func55, Tryz.ntmps55
      go_wp2_with fail
      exact bodyPost_ret (v := CV.v ⟨t, r, 3, q + 1⟩) (results_c (c := ⟨t, r, 3, q + 1⟩) rfl _ rfl (blk2of3 _ _ _ _)) rfl ⟨rfl, below_three _ _ _ _⟩
  · obtain rfl : d = ⟨t, r, 3, q⟩ := by rw [← hd]; simp [restV, hk]
    clear hd
    go_enter Tryz.func55, Tryz.ntmps55
    go_wp2_with fail
    exact bodyPost_ret (v := CV.v ⟨t, r, 3, q⟩) (results_c (c := ⟨t, r, 3, q⟩) rfl _ rfl (blk2of3 _ _ _ _)) rfl ⟨rfl, below_three _ _ _ _⟩
theorem refStep_1 (c d : CV) (hd : settleV (sentV c) = d) (hs : c.s ≠ 3) (hb : 0 ≤ c.t ∧ c.t ≤ 255 ∧ 0 ≤ c.r ∧ c.r ≤ 255) (w : World) :
    Calls Tryz.prog 55 #[c.v, .int .i64 1] w fun e w' => e = .returned d.v ∧ Below w.heap.size w w' := by
  have hs1 : (c.s == 3) = false := by simpa using hs
  have h7 : wrap64 (c.t - 1) = c.t - 1 := by unfold wrap64; omega
  obtain ⟨m, hm⟩ : ∃ m, max (c.t - 1) 0 = m := ⟨_, rfl⟩
  have Hd := Lib.hid hd
  clear hd hb hs
  by_cases h1 : 255 < m
  · obtain rfl : d = ⟨256, 0, 3, 0⟩ := by rw [← Hd.out]; simp [settleV, sentV, heardV, wrongV, longV, h1, *]
    clear Hd
    go_enter Tryz.func55, Tryz.ntmps55
    go_wp2_with fail
    exact bodyPost_ret (v := CV.v ⟨256, 0, 3, 0⟩) (results_c (c := ⟨256, 0, 3, 0⟩) rfl _ rfl (blk2of3 _ _ _ _)) rfl ⟨rfl, below_three _ _ _ _⟩
  by_cases h2 : 127 < m
  · obtain rfl : d = ⟨m, c.r, 2, c.q⟩ := by rw [← Hd.out]; simp [settleV, sentV, heardV, wrongV, longV, h1, h2, *]
    clear Hd
    go_enter Tryz.func55, Tryz.ntmps55
    go_wp2_with fail
    exact bodyPost_ret (v := CV.v ⟨m, c.r, 2, c.q⟩) (results_c (c := ⟨m, c.r, 2, c.q⟩) rfl _ rfl (blk2of3 _ _ _ _)) rfl ⟨rfl, below_three _ _ _ _⟩
  by_cases h3 : 127 < c.r
  · obtain rfl : d = ⟨m, c.r, 2, c.q⟩ := by rw [← Hd.out]; simp [settleV, sentV, heardV, wrongV, longV, h1, h2, h3, *]
    clear Hd
    go_enter Tryz.func55, Tryz.ntmps55
    go_wp2_with fail
    exact bodyPost_ret (v := CV.v ⟨m, c.r, 2, c.q⟩) (results_c (c := ⟨m, c.r, 2, c.q⟩) rfl _ rfl (blk2of3 _ _ _ _)) rfl ⟨rfl, below_three _ _ _ _⟩
  obtain rfl : d = ⟨m, c.r, 1, c.q⟩ := by rw [← Hd.out]; simp [settleV, sentV, heardV, wrongV, longV, h1, h2, h3, *]
  clear Hd
  go_enter Tryz.func55, Tryz.ntmps55
  go_wp2_with fail
  exact bodyPost_ret (v := CV.v ⟨m, c.r, 1, c.q⟩) (results_c (c := ⟨m, c.r, 1, c.q⟩) rfl _ rfl (blk2of3 _ _ _ _)) rfl ⟨rfl, below_three _ _ _ _⟩
theorem refStep_2a (c d : CV) (hr : 127 < c.r) (hd : settleV (heardV c) = d) (hs : c.s ≠ 3) (hb : 0 ≤ c.t ∧ c.t ≤ 255 ∧ 0 ≤ c.r ∧ c.r ≤ 255) (w : World) :
    Calls Tryz.prog 55 #[c.v, .int .i64 2] w fun e w' => e = .returned d.v ∧ Below w.heap.size w w' := by
  have hs1 : (c.s == 3) = false := by simpa using hs
  have h7 : wrap64 (c.r - 1) = c.r - 1 := by unfold wrap64; omega
  obtain ⟨m, hm⟩ : ∃ m, max (c.r - 1) 0 = m := ⟨_, rfl⟩
  have Hd := Lib.hid hd
  clear hd hb hs
  by_cases h1 : 255 < c.t
  · obtain rfl : d = ⟨256, 0, 3, 0⟩ := by rw [← Hd.out]; simp [settleV, sentV, heardV, wrongV, longV, h1, *]
    clear Hd
    go_enter Tryz.func55, Tryz.ntmps55
    go_wp2_with fail
    exact bodyPost_ret (v := CV.v ⟨256, 0, 3, 0⟩) (results_c (c := ⟨256, 0, 3, 0⟩) rfl _ rfl (blk2of3 _ _ _ _)) rfl ⟨rfl, below_three _ _ _ _⟩
  by_cases h2 : 127 < c.t
  · obtain rfl : d = ⟨c.t, (127 : Int), 2, c.q⟩ := by rw [← Hd.out]; simp [settleV, sentV, heardV, wrongV, longV, h1, h2, *]
    clear Hd
    go_enter Tryz.func55, Tryz.ntmps55
    go_wp2_with fail
    exact bodyPost_ret (v := CV.v ⟨c.t, (127 : Int), 2, c.q⟩) (results_c (c := ⟨c.t, (127 : Int), 2, c.q⟩) rfl _ rfl (blk2of3 _ _ _ _)) rfl ⟨rfl, below_three _ _ _ _⟩
  obtain rfl : d = ⟨c.t, (127 : Int), 1, c.q⟩ := by rw [← Hd.out]; simp [settleV, sentV, heardV, wrongV, longV, h1, h2, *]
  clear Hd
  go_enter Tryz.func55, Tryz.ntmps55
  go_wp2_with fail
  exact bodyPost_ret (v := CV.v ⟨c.t, (127 : Int), 1, c.q⟩) (results_c (c := ⟨c.t, (127 : Int), 1, c.q⟩) rfl _ rfl (blk2of3 _ _ _ _)) rfl ⟨rfl, below_three _ _ _ _⟩
theorem refStep_2b (c d : CV) (hr : ¬ 127 < c.r) (hd : settleV (heardV c) = d) (hs : c.s ≠ 3) (hb : 0 ≤ c.t ∧ c.t ≤ 255 ∧ 0 ≤ c.r ∧ c.r ≤ 255) (w : World) :
    Calls Tryz.prog 55 #[c.v, .int .i64 2] w fun e w' => e = .returned d.v ∧ Below w.heap.size w w' := by
  have hs1 : (c.s == 3) = false := by simpa using hs
  have h7 : wrap64 (c.r - 1) = c.r - 1 := by unfold wrap64; omega
  obtain ⟨m, hm⟩ : ∃ m, max (c.r - 1) 0 = m := ⟨_, rfl⟩
  have Hd := Lib.hid hd
  clear hd hb hs
  by_cases h1 : 255 < c.t
  · obtain rfl : d = ⟨256, 0, 3, 0⟩ := by rw [← Hd.out]; simp [settleV, sentV, heardV, wrongV, longV, h1, *]
    clear Hd
    go_enter Tryz.func55, Tryz.ntmps55
    go_wp2_with fail
    exact bodyPost_ret (v := CV.v ⟨256, 0, 3, 0⟩) (results_c (c := ⟨256, 0, 3, 0⟩) rfl _ rfl (blk2of3 _ _ _ _)) rfl ⟨rfl, below_three _ _ _ _⟩
  by_cases h2 : 127 < c.t
  · obtain rfl : d = ⟨c.t, m, 2, c.q⟩ := by rw [← Hd.out]; simp [settleV, sentV, heardV, wrongV, longV, h1, h2, *]
    clear Hd
    go_enter Tryz.func55, Tryz.ntmps55
    go_wp2_with fail
    exact bodyPost_ret (v := CV.v ⟨c.t, m, 2, c.q⟩) (results_c (c := ⟨c.t, m, 2, c.q⟩) rfl _ rfl (blk2of3 _ _ _ _)) rfl ⟨rfl, below_three _ _ _ _⟩
  by_cases h3 : 127 < m
  · exfalso; omega
  obtain rfl : d = ⟨c.t, m, 1, c.q⟩ := by rw [← Hd.out]; simp [settleV, sentV, heardV, wrongV, longV, h1, h2, h3, *]
  clear Hd
  go_enter Tryz.func55, Tryz.ntmps55
  go_wp2_with fail
  exact bodyPost_ret (v := CV.v ⟨c.t, m, 1, c.q⟩) (results_c (c := ⟨c.t, m, 1, c.q⟩) rfl _ rfl (blk2of3 _ _ _ _)) rfl ⟨rfl, below_three _ _ _ _⟩
theorem refStep_3 (c d : CV) (hd : settleV (wrongV c) = d) (hs : c.s ≠ 3) (hb : 0 ≤ c.t ∧ c.t ≤ 255 ∧ 0 ≤ c.r ∧ c.r ≤ 255) (w : World) :
    Calls Tryz.prog 55 #[c.v, .int .i64 3] w fun e w' => e = .returned d.v ∧ Below w.heap.size w w' := by
  have hs1 : (c.s == 3) = false := by simpa using hs
  have h7 : wrap64 (c.t + 8) = c.t + 8 := by unfold wrap64; omega
  have Hd := Lib.hid hd
  clear hd hb hs
  by_cases h1 : 255 < (c.t + 8)
  · obtain rfl : d = ⟨256, 0, 3, 0⟩ := by rw [← Hd.out]; simp [settleV, sentV, heardV, wrongV, longV, h1, *]
    clear Hd
    go_enter Tryz.func55, Tryz.ntmps55
    go_wp2_with fail
    exact bodyPost_ret (v := CV.v ⟨256, 0, 3, 0⟩) (results_c (c := ⟨256, 0, 3, 0⟩) rfl _ rfl (blk2of3 _ _ _ _)) rfl ⟨rfl, below_three _ _ _ _⟩
  by_cases h2 : 127 < (c.t + 8)
  · obtain rfl : d = ⟨(c.t + 8), c.r, 2, c.q⟩ := by rw [← Hd.out]; simp [settleV, sentV, heardV, wrongV, longV, h1, h2, *]
    clear Hd
    go_enter Tryz.func55, Tryz.ntmps55
    go_wp2_with fail
    exact bodyPost_ret (v := CV.v ⟨(c.t + 8), c.r, 2, c.q⟩) (results_c (c := ⟨(c.t + 8), c.r, 2, c.q⟩) rfl _ rfl (blk2of3 _ _ _ _)) rfl ⟨rfl, below_three _ _ _ _⟩
  by_cases h3 : 127 < c.r
  · obtain rfl : d = ⟨(c.t + 8), c.r, 2, c.q⟩ := by rw [← Hd.out]; simp [settleV, sentV, heardV, wrongV, longV, h1, h2, h3, *]
    clear Hd
    go_enter Tryz.func55, Tryz.ntmps55
    go_wp2_with fail
    exact bodyPost_ret (v := CV.v ⟨(c.t + 8), c.r, 2, c.q⟩) (results_c (c := ⟨(c.t + 8), c.r, 2, c.q⟩) rfl _ rfl (blk2of3 _ _ _ _)) rfl ⟨rfl, below_three _ _ _ _⟩
  obtain rfl : d = ⟨(c.t + 8), c.r, 1, c.q⟩ := by rw [← Hd.out]; simp [settleV, sentV, heardV, wrongV, longV, h1, h2, h3, *]
  clear Hd
  go_enter Tryz.func55, Tryz.ntmps55
  go_wp2_with fail
  exact bodyPost_ret (v := CV.v ⟨(c.t + 8), c.r, 1, c.q⟩) (results_c (c := ⟨(c.t + 8), c.r, 1, c.q⟩) rfl _ rfl (blk2of3 _ _ _ _)) rfl ⟨rfl, below_three _ _ _ _⟩
theorem refStep_4 (c d : CV) (hd : settleV (longV 1 c) = d) (hs : c.s ≠ 3) (hb : 0 ≤ c.t ∧ c.t ≤ 255 ∧ 0 ≤ c.r ∧ c.r ≤ 255) (w : World) :
    Calls Tryz.prog 55 #[c.v, .int .i64 4] w fun e w' => e = .returned d.v ∧ Below w.heap.size w w' := by
  have hs1 : (c.s == 3) = false := by simpa using hs
  have h7 : wrap64 (c.r + 1) = c.r + 1 := by unfold wrap64; omega
  obtain ⟨m, hm⟩ : ∃ m, min (c.r + 1) 255 = m := ⟨_, rfl⟩
  have Hd := Lib.hid hd
  clear hd hb hs
  by_cases h1 : 255 < c.t
  · obtain rfl : d = ⟨256, 0, 3, 0⟩ := by rw [← Hd.out]; simp [settleV, sentV, heardV, wrongV, longV, h1, *]
    clear Hd
    go_enter Tryz.func55, Tryz.ntmps55
    go_wp2_with fail
    exact bodyPost_ret (v := CV.v ⟨256, 0, 3, 0⟩) (results_c (c := ⟨256, 0, 3, 0⟩) rfl _ rfl (blk2of3 _ _ _ _)) rfl ⟨rfl, below_three _ _ _ _⟩
  by_cases h2 : 127 < c.t
  · obtain rfl : d = ⟨c.t, m, 2, c.q⟩ := by rw [← Hd.out]; simp [settleV, sentV, heardV, wrongV, longV, h1, h2, *]
    clear Hd
    go_enter Tryz.func55, Tryz.ntmps55
    go_wp2_with fail
    exact bodyPost_ret (v := CV.v ⟨c.t, m, 2, c.q⟩) (results_c (c := ⟨c.t, m, 2, c.q⟩) rfl _ rfl (blk2of3 _ _ _ _)) rfl ⟨rfl, below_three _ _ _ _⟩
  by_cases h3 : 127 < m
  · obtain rfl : d = ⟨c.t, m, 2, c.q⟩ := by rw [← Hd.out]; simp [settleV, sentV, heardV, wrongV, longV, h1, h2, h3, *]
    clear Hd
    go_enter Tryz.func55, Tryz.ntmps55
    go_wp2_with fail
    exact bodyPost_ret (v := CV.v ⟨c.t, m, 2, c.q⟩) (results_c (c := ⟨c.t, m, 2, c.q⟩) rfl _ rfl (blk2of3 _ _ _ _)) rfl ⟨rfl, below_three _ _ _ _⟩
  obtain rfl : d = ⟨c.t, m, 1, c.q⟩ := by rw [← Hd.out]; simp [settleV, sentV, heardV, wrongV, longV, h1, h2, h3, *]
  clear Hd
  go_enter Tryz.func55, Tryz.ntmps55
  go_wp2_with fail
  exact bodyPost_ret (v := CV.v ⟨c.t, m, 1, c.q⟩) (results_c (c := ⟨c.t, m, 1, c.q⟩) rfl _ rfl (blk2of3 _ _ _ _)) rfl ⟨rfl, below_three _ _ _ _⟩
theorem refStep_5 (c d : CV) (hd : settleV (longV 8 c) = d) (hs : c.s ≠ 3) (hb : 0 ≤ c.t ∧ c.t ≤ 255 ∧ 0 ≤ c.r ∧ c.r ≤ 255) (w : World) :
    Calls Tryz.prog 55 #[c.v, .int .i64 5] w fun e w' => e = .returned d.v ∧ Below w.heap.size w w' := by
  have hs1 : (c.s == 3) = false := by simpa using hs
  have h7 : wrap64 (c.r + 8) = c.r + 8 := by unfold wrap64; omega
  obtain ⟨m, hm⟩ : ∃ m, min (c.r + 8) 255 = m := ⟨_, rfl⟩
  have Hd := Lib.hid hd
  clear hd hb hs
  by_cases h1 : 255 < c.t
  · obtain rfl : d = ⟨256, 0, 3, 0⟩ := by rw [← Hd.out]; simp [settleV, sentV, heardV, wrongV, longV, h1, *]
    clear Hd
    go_enter Tryz.func55, Tryz.ntmps55
    go_wp2_with fail
    exact bodyPost_ret (v := CV.v ⟨256, 0, 3, 0⟩) (results_c (c := ⟨256, 0, 3, 0⟩) rfl _ rfl (blk2of3 _ _ _ _)) rfl ⟨rfl, below_three _ _ _ _⟩
  by_cases h2 : 127 < c.t
  · obtain rfl : d = ⟨c.t, m, 2, c.q⟩ := by rw [← Hd.out]; simp [settleV, sentV, heardV, wrongV, longV, h1, h2, *]
    clear Hd
    go_enter Tryz.func55, Tryz.ntmps55
    go_wp2_with fail
    exact bodyPost_ret (v := CV.v ⟨c.t, m, 2, c.q⟩) (results_c (c := ⟨c.t, m, 2, c.q⟩) rfl _ rfl (blk2of3 _ _ _ _)) rfl ⟨rfl, below_three _ _ _ _⟩
  by_cases h3 : 127 < m
  · obtain rfl : d = ⟨c.t, m, 2, c.q⟩ := by rw [← Hd.out]; simp [settleV, sentV, heardV, wrongV, longV, h1, h2, h3, *]
    clear Hd
    go_enter Tryz.func55, Tryz.ntmps55
    go_wp2_with fail
    exact bodyPost_ret (v := CV.v ⟨c.t, m, 2, c.q⟩) (results_c (c := ⟨c.t, m, 2, c.q⟩) rfl _ rfl (blk2of3 _ _ _ _)) rfl ⟨rfl, below_three _ _ _ _⟩
  obtain rfl : d = ⟨c.t, m, 1, c.q⟩ := by rw [← Hd.out]; simp [settleV, sentV, heardV, wrongV, longV, h1, h2, h3, *]
  clear Hd
  go_enter Tryz.func55, Tryz.ntmps55
  go_wp2_with fail
  exact bodyPost_ret (v := CV.v ⟨c.t, m, 1, c.q⟩) (results_c (c := ⟨c.t, m, 1, c.q⟩) rfl _ rfl (blk2of3 _ _ _ _)) rfl ⟨rfl, below_three _ _ _ _⟩
theorem refStep_0 (c d : CV) (k : Int) (hk : k ≠ 1 ∧ k ≠ 2 ∧ k ≠ 3 ∧ k ≠ 4 ∧ k ≠ 5) (hd : settleV (c) = d) (hs : c.s ≠ 3) (hb : 0 ≤ c.t ∧ c.t ≤ 255 ∧ 0 ≤ c.r ∧ c.r ≤ 255) (w : World) :
    Calls Tryz.prog 55 #[c.v, .int .i64 k] w fun e w' => e = .returned d.v ∧ Below w.heap.size w w' := by
  have hs1 : (c.s == 3) = false := by simpa using hs
  obtain ⟨k1, k2, k3, k4, k5⟩ := hk
  have Hd := Lib.hid hd
  clear hd hb hs
  by_cases h1 : 255 < c.t
  · obtain rfl : d = ⟨256, 0, 3, 0⟩ := by rw [← Hd.out]; simp [settleV, sentV, heardV, wrongV, longV, h1, *]
    clear Hd
    go_enter Tryz.func55, Tryz.ntmps55
    go_wp2_with fail
    exact bodyPost_ret (v := CV.v ⟨256, 0, 3, 0⟩) (results_c (c := ⟨256, 0, 3, 0⟩) rfl _ rfl (blk2of3 _ _ _ _)) rfl ⟨rfl, below_three _ _ _ _⟩
  by_cases h2 : 127 < c.t
  · obtain rfl : d = ⟨c.t, c.r, 2, c.q⟩ := by rw [← Hd.out]; simp [settleV, sentV, heardV, wrongV, longV, h1, h2, *]
    clear Hd
    go_enter Tryz.func55, Tryz.ntmps55
    go_wp2_with fail
    exact bodyPost_ret (v := CV.v ⟨c.t, c.r, 2, c.q⟩) (results_c (c := ⟨c.t, c.r, 2, c.q⟩) rfl _ rfl (blk2of3 _ _ _ _)) rfl ⟨rfl, below_three _ _ _ _⟩
  by_cases h3 : 127 < c.r
  · obtain rfl : d = ⟨c.t, c.r, 2, c.q⟩ := by rw [← Hd.out]; simp [settleV, sentV, heardV, wrongV, longV, h1, h2, h3, *]
    clear Hd
    go_enter Tryz.func55, Tryz.ntmps55
    go_wp2_with fail
    exact bodyPost_ret (v := CV.v ⟨c.t, c.r, 2, c.q⟩) (results_c (c := ⟨c.t, c.r, 2, c.q⟩) rfl _ rfl (blk2of3 _ _ _ _)) rfl ⟨rfl, below_three _ _ _ _⟩
  obtain rfl : d = ⟨c.t, c.r, 1, c.q⟩ := by rw [← Hd.out]; simp [settleV, sentV, heardV, wrongV, longV, h1, h2, h3, *]
  clear Hd
  go_enter Tryz.func55, Tryz.ntmps55
  go_wp2_with fail
  exact bodyPost_ret (v := CV.v ⟨c.t, c.r, 1, c.q⟩) (results_c (c := ⟨c.t, c.r, 1, c.q⟩) rfl _ rfl (blk2of3 _ _ _ _)) rfl ⟨rfl, below_three _ _ _ _⟩
theorem refStep_any (c d : CV) (k : Int) (hd : stepV c k = d) (hok : OkC c) (w : World) :
    Calls Tryz.prog 55 #[c.v, .int .i64 k] w fun e w' => e = .returned d.v ∧ Below w.heap.size w w' := by
  have hb := ok_box hok
  by_cases hs : c.s = 3
  · exact refStep_off c d k (by rw [← hd, stepV, if_pos hs]) hs ⟨hb.2.2.2.2.1, hb.2.2.2.2.2⟩ w
  · have hn := ok_notOff hok hs
    have hn' : 0 ≤ c.t ∧ c.t ≤ 255 ∧ 0 ≤ c.r ∧ c.r ≤ 255 := by omega
    rw [stepV, if_neg hs] at hd
    by_cases h1 : k = 1
    · subst h1; exact refStep_1 c d (by rw [← hd]; simp [effV]) hs hn' w
    by_cases h2 : k = 2
    · subst h2
      by_cases hr : 127 < c.r
      · exact refStep_2a c d hr (by rw [← hd]; simp [effV]) hs hn' w
      · exact refStep_2b c d hr (by rw [← hd]; simp [effV]) hs hn' w
    by_cases h3 : k = 3
    · subst h3; exact refStep_3 c d (by rw [← hd]; simp [effV]) hs hn' w
    by_cases h4 : k = 4
    · subst h4; exact refStep_4 c d (by rw [← hd]; simp [effV]) hs hn' w
    by_cases h5 : k = 5
    · subst h5; exact refStep_5 c d (by rw [← hd]; simp [effV]) hs hn' w
    exact refStep_0 c d k ⟨h1, h2, h3, h4, h5⟩ (by rw [← hd]; simp [effV, h1, h2, h3, h4, h5]) hs hn' w
theorem refR_3a (t r s q : Int) (b : Bool) (hs : s = 3) (h1 : (t == 256) = false) (hb : b = false) (w : World) :
    Calls Tryz.prog 60 #[CV.v ⟨t, r, s, q⟩] w fun e w' => e = .returned (.bool b) ∧ Below w.heap.size w w' := by
  subst hs
  subst hb
  go_enter Tryz.func60, Tryz.ntmps60
  go_wp2_with fail
  go_ret
  exact ⟨ret_bool rfl, below_alloc1 _ _⟩
theorem refR_3b (t r s q : Int) (b : Bool) (hs : s = 3) (h1 : t = 256) (h2 : (r == 0) = false) (hb : b = false) (w : World) :
    Calls Tryz.prog 60 #[CV.v ⟨t, r, s, q⟩] w fun e w' => e = .returned (.bool b) ∧ Below w.heap.size w w' := by
  subst hs h1
  subst hb
  go_enter Tryz.func60, Tryz.ntmps60
  go_wp2_with fail
  go_ret
  exact ⟨ret_bool rfl, below_alloc1 _ _⟩
theorem refR_3c (t r s q : Int) (b : Bool) (hs : s = 3) (h1 : t = 256) (h2 : r = 0) (h3 : ¬ 0 ≤ q) (hb : b = false) (w : World) :
    Calls Tryz.prog 60 #[CV.v ⟨t, r, s, q⟩] w fun e w' => e = .returned (.bool b) ∧ Below w.heap.size w w' := by
  subst hs h1 h2
  subst hb
  go_enter Tryz.func60, Tryz.ntmps60
  go_wp2_with fail
  go_ret
  exact ⟨ret_bool rfl, below_alloc1 _ _⟩
theorem refR_3d (t r s q : Int) (b : Bool) (hs : s = 3) (h1 : t = 256) (h2 : r = 0) (h3 : 0 ≤ q) (hb : b = decide (q ≤ 127)) (w : World) :
    Calls Tryz.prog 60 #[CV.v ⟨t, r, s, q⟩] w fun e w' => e = .returned (.bool b) ∧ Below w.heap.size w w' := by
  subst hs h1 h2
  have Hb := Lib.hid hb
  clear hb
  go_enter Tryz.func60, Tryz.ntmps60
  go_wp2_with fail
  go_ret
  exact ⟨ret_bool (by rw [Hb.out]), below_alloc1 _ _⟩
theorem refR_a (t r s q : Int) (b : Bool) (hs : (s == 3) = false) (h1 : t < 0) (hb : b = false) (w : World) :
    Calls Tryz.prog 60 #[CV.v ⟨t, r, s, q⟩] w fun e w' => e = .returned (.bool b) ∧ Below w.heap.size w w' := by
  subst hb
  go_enter Tryz.func60, Tryz.ntmps60
  go_wp2_with fail
  go_ret
  exact ⟨ret_bool rfl, below_alloc1 _ _⟩
theorem refR_b (t r s q : Int) (b : Bool) (hs : (s == 3) = false) (h1 : ¬ t < 0) (h2 : 255 < t) (hb : b = false) (w : World) :
    Calls Tryz.prog 60 #[CV.v ⟨t, r, s, q⟩] w fun e w' => e = .returned (.bool b) ∧ Below w.heap.size w w' := by
  subst hb
  go_enter Tryz.func60, Tryz.ntmps60
  go_wp2_with fail
  go_ret
  exact ⟨ret_bool rfl, below_alloc1 _ _⟩
theorem refR_c (t r s q : Int) (b : Bool) (hs : (s == 3) = false) (h1 : ¬ t < 0) (h2 : ¬ 255 < t) (h3 : r < 0) (hb : b = false) (w : World) :
    Calls Tryz.prog 60 #[CV.v ⟨t, r, s, q⟩] w fun e w' => e = .returned (.bool b) ∧ Below w.heap.size w w' := by
  subst hb
  go_enter Tryz.func60, Tryz.ntmps60
  go_wp2_with fail
  go_ret
  exact ⟨ret_bool rfl, below_alloc1 _ _⟩
theorem refR_d (t r s q : Int) (b : Bool) (hs : (s == 3) = false) (h1 : ¬ t < 0) (h2 : ¬ 255 < t) (h3 : ¬ r < 0) (h4 : 255 < r) (hb : b = false) (w : World) :
    Calls Tryz.prog 60 #[CV.v ⟨t, r, s, q⟩] w fun e w' => e = .returned (.bool b) ∧ Below w.heap.size w w' := by
  subst hb
  go_enter Tryz.func60, Tryz.ntmps60
  go_wp2_with fail
  go_ret
  exact ⟨ret_bool rfl, below_alloc1 _ _⟩
theorem refR_e (t r s q : Int) (b : Bool) (hs : (s == 3) = false) (h1 : ¬ t < 0) (h2 : ¬ 255 < t) (h3 : ¬ r < 0) (h4 : ¬ 255 < r) (h5 : ¬ q = 0) (hb : b = false) (w : World) :
    Calls Tryz.prog 60 #[CV.v ⟨t, r, s, q⟩] w fun e w' => e = .returned (.bool b) ∧ Below w.heap.size w w' := by
  subst hb
  go_enter Tryz.func60, Tryz.ntmps60
  go_wp2_with fail
  go_ret
  exact ⟨ret_bool rfl, below_alloc1 _ _⟩
theorem refR_f (t r s q : Int) (b : Bool) (hs : (s == 3) = false) (h1 : ¬ t < 0) (h2 : ¬ 255 < t) (h3 : ¬ r < 0) (h4 : ¬ 255 < r) (h5 : q = 0) (h6 : 127 < t) (hb : b = (s == 2)) (w : World) :
    Calls Tryz.prog 60 #[CV.v ⟨t, r, s, q⟩] w fun e w' => e = .returned (.bool b) ∧ Below w.heap.size w w' := by
  have Hb := Lib.hid hb
  clear hb
  subst h5
  go_enter Tryz.func60, Tryz.ntmps60
  go_wp2_with fail
  go_ret
  exact ⟨ret_bool (by rw [Hb.out]), below_alloc1 _ _⟩
theorem refR_g (t r s q : Int) (b : Bool) (hs : (s == 3) = false) (h1 : ¬ t < 0) (h2 : ¬ 255 < t) (h3 : ¬ r < 0) (h4 : ¬ 255 < r) (h5 : q = 0) (h6 : ¬ 127 < t) (h7 : 127 < r) (hb : b = (s == 2)) (w : World) :
    Calls Tryz.prog 60 #[CV.v ⟨t, r, s, q⟩] w fun e w' => e = .returned (.bool b) ∧ Below w.heap.size w w' := by
  have Hb := Lib.hid hb
  clear hb
  subst h5
  go_enter Tryz.func60, Tryz.ntmps60
  go_wp2_with fail
  go_ret
  exact ⟨ret_bool (by rw [Hb.out]), below_alloc1 _ _⟩
theorem refR_h (t r s q : Int) (b : Bool) (hs : (s == 3) = false) (h1 : ¬ t < 0) (h2 : ¬ 255 < t) (h3 : ¬ r < 0) (h4 : ¬ 255 < r) (h5 : q = 0) (h6 : ¬ 127 < t) (h7 : ¬ 127 < r) (hb : b = (s == 1)) (w : World) :
    Calls Tryz.prog 60 #[CV.v ⟨t, r, s, q⟩] w fun e w' => e = .returned (.bool b) ∧ Below w.heap.size w w' := by
  have Hb := Lib.hid hb
  clear hb
  subst h5
  go_enter Tryz.func60, Tryz.ntmps60
  go_wp2_with fail
  go_ret
  exact ⟨ret_bool (by rw [Hb.out]), below_alloc1 _ _⟩
theorem refRight_q_NCn (c : CV) (b : Bool) (hb : rightV_NCn c = b) (w : World) :
    Calls Tryz.prog 60 #[c.v] w fun e w' => e = .returned (.bool b) ∧ Below w.heap.size w w' := by
  obtain ⟨t, r, s, q⟩ := c
  have hb' : b = true ↔ OkC ⟨t, r, s, q⟩ := by rw [← hb]; unfold rightV_NCn; exact decide_eq_true_iff
  unfold OkC at hb'
  dsimp only at hb'
  clear hb
  by_cases s3 : s = 3
  · by_cases h1 : t = 256
    · by_cases h2 : r = 0
      · by_cases h3 : 0 ≤ q
        · exact refR_3d t r s q b s3 h1 h2 h3 (by rw [Bool.eq_iff_iff, hb']; simp only [decide_eq_true_eq, beq_iff_eq]; omega) w
        · exact refR_3c t r s q b s3 h1 h2 h3 (by cases b <;> simp only [true_iff, reduceCtorEq, false_iff] at hb' ⊢ <;> omega) w
      · exact refR_3b t r s q b s3 h1 (by simpa using h2) (by cases b <;> simp only [true_iff, reduceCtorEq, false_iff] at hb' ⊢ <;> omega) w
    · exact refR_3a t r s q b s3 (by simpa using h1) (by cases b <;> simp only [true_iff, reduceCtorEq, false_iff] at hb' ⊢ <;> omega) w
  have sn : (s == 3) = false := by simpa using s3
  by_cases h1 : t < 0
  · exact refR_a t r s q b sn h1 (by cases b <;> simp only [true_iff, reduceCtorEq, false_iff] at hb' ⊢ <;> omega) w
  by_cases h2 : 255 < t
  · exact refR_b t r s q b sn h1 h2 (by cases b <;> simp only [true_iff, reduceCtorEq, false_iff] at hb' ⊢ <;> omega) w
  by_cases h3 : r < 0
  · exact refR_c t r s q b sn h1 h2 h3 (by cases b <;> simp only [true_iff, reduceCtorEq, false_iff] at hb' ⊢ <;> omega) w
  by_cases h4 : 255 < r
  · exact refR_d t r s q b sn h1 h2 h3 h4 (by cases b <;> simp only [true_iff, reduceCtorEq, false_iff] at hb' ⊢ <;> omega) w
  by_cases h5 : q = 0
  · by_cases h6 : 127 < t
    · exact refR_f t r s q b sn h1 h2 h3 h4 h5 h6 (by rw [Bool.eq_iff_iff, hb']; simp only [decide_eq_true_eq, beq_iff_eq]; omega) w
    by_cases h7 : 127 < r
    · exact refR_g t r s q b sn h1 h2 h3 h4 h5 h6 h7 (by rw [Bool.eq_iff_iff, hb']; simp only [decide_eq_true_eq, beq_iff_eq]; omega) w
    · exact refR_h t r s q b sn h1 h2 h3 h4 h5 h6 h7 (by rw [Bool.eq_iff_iff, hb']; simp only [decide_eq_true_eq, beq_iff_eq]; omega) w
  · exact refR_e t r s q b sn h1 h2 h3 h4 h5 (by cases b <;> simp only [true_iff, reduceCtorEq, false_iff] at hb' ⊢ <;> omega) w
end Go.Proofs.YtcifjccojmfpaaaGreat

namespace Go.Proofs.YtcifjccojmfpaaaGreat
open Go.RowKit
set_option linter.unusedVariables false
set_option linter.unusedSimpArgs false
def allN (x : Bool) : Nat := if x then 536870911 else 2047
structure OkL (f : FL) (K M : Nat) : Prop where
  k : f.k = K
  m : f.m = M
  all : K &&& allN f.x = K
  sub : M &&& K = M
  kl : K < 536870912
  ml : M < 536870912
end Go.Proofs.YtcifjccojmfpaaaGreat

namespace Go.Proofs.YtcifjccojmfpaaaGreat
open Go.RowKit
set_option linter.unusedVariables false
set_option linter.unusedSimpArgs false
def InP (P : Nat → Prop) (A : Option Addr) (n : Nat) : Prop := 0 < n → ∀ ad, A = some ad → P ad.block
structure FC where
  x : Bool
  i : Int
  r : Bool
  n : Int
  d : List Int
deriving DecidableEq
def zeroF : FC := ⟨false, 0, false, 0, []⟩
abbrev zeroFV : FV := ⟨false, 0, false, 0, none, 0, 0⟩
structure FIs (w : World) (P : Nat → Prop) (f : FV) (F : FC) : Prop where
  x : f.x = F.x
  i : f.i = F.i
  r : f.r = F.r
  n : f.n = F.n
  len : F.d.length = f.m
  cap : f.m ≤ f.c
  big : f.m ≤ maxLen
  byte : byteB F.d
  row : Row .u8 w w.heap.size f.a F.d
  inP : InP P f.a f.m
theorem row_grow {κ : IntKind} {w w' : World} {A : Option Addr} {l : List Int} {X : Nat} (h : Row κ w w.heap.size A l) (g : w.grownBy w' (some X)) (hX : l ≠ [] → ∀ ad, A = some ad → ad.block ≠ X) : Row κ w' w'.heap.size A l := by
  rcases h with rfl | ⟨ad, e, hb, hc⟩
  · exact .inl rfl
  · by_cases hl : l = []
    · exact .inl hl
    · refine .inr ⟨ad, e, Nat.lt_of_lt_of_le hb g.size, fun k x hx => ?_⟩
      rw [← hc k x hx]
      exact World.cell?_of_block (by rw [addr_block]; exact g.block _ hb (by simpa using hX hl ad e))
theorem frow_grow {w w' : World} {A : Option Addr} {fs : List FV} {X : Nat} (h : FRow w w.heap.size A fs) (g : w.grownBy w' (some X)) (hX : fs ≠ [] → ∀ ad, A = some ad → ad.block ≠ X) : FRow w' w'.heap.size A fs := by
  rcases h with rfl | ⟨ad, e, hb, hc⟩
  · exact .inl rfl
  · by_cases hl : fs = []
    · exact .inl hl
    · refine .inr ⟨ad, e, Nat.lt_of_lt_of_le hb g.size, fun k f hf => ?_⟩
      obtain ⟨h0, h1, h2, h3, h4⟩ := hc k f hf
      have hk : ∀ p : Addr, p.block = ad.block → w'.cell? p = w.cell? p := fun p hp => World.cell?_of_block (by rw [hp]; exact g.block _ hb (by simpa using hX hl ad e))
      have hb' : (ad.add (k * 5)).block = ad.block := addr_block _ _
      exact ⟨(hk _ hb').trans h0, (hk ⟨_, _, none⟩ hb').trans h1, (hk ⟨_, _, none⟩ hb').trans h2, (hk ⟨_, _, none⟩ hb').trans h3, (hk ⟨_, _, none⟩ hb').trans h4⟩
theorem lrow_grow {w w' : World} {A : Option Addr} {fs : List FL} {X : Nat} (h : LRow w w.heap.size A fs) (g : w.grownBy w' (some X)) (hX : fs ≠ [] → ∀ ad, A = some ad → ad.block ≠ X) : LRow w' w'.heap.size A fs := by
  rcases h with rfl | ⟨ad, e, hb, hc⟩
  · exact .inl rfl
  · by_cases hl : fs = []
    · exact .inl hl
    · refine .inr ⟨ad, e, Nat.lt_of_lt_of_le hb g.size, fun k f hf => ?_⟩
      obtain ⟨h0, h1, h2⟩ := hc k f hf
      have hk : ∀ p : Addr, p.block = ad.block → w'.cell? p = w.cell? p := fun p hp => World.cell?_of_block (by rw [hp]; exact g.block _ hb (by simpa using hX hl ad e))
      have hb' : (ad.add (k * 3)).block = ad.block := addr_block _ _
      exact ⟨(hk _ hb').trans h0, (hk ⟨_, _, none⟩ hb').trans h1, (hk ⟨_, _, none⟩ hb').trans h2⟩
section
variable {w w' : World} {P Q : Nat → Prop} {f : FV} {F : FC}
theorem FIs.to (h : FIs w P f F) (b : Below w.heap.size w w') : FIs w' P f F := ⟨h.x, h.i, h.r, h.n, h.len, h.cap, h.big, h.byte, h.row.to b, h.inP⟩
theorem InP.grow {A : Option Addr} {n X : Nat} (h : InP P A n) (hX : ¬ P X) (h0 : 0 < n) (ad : Addr) (e : A = some ad) : ad.block ≠ X := fun e' => hX (e' ▸ h h0 ad e)
theorem FIs.grow {X : Nat} (h : FIs w P f F) (g : w.grownBy w' (some X)) (hX : ¬ P X) : FIs w' P f F :=
  ⟨h.x, h.i, h.r, h.n, h.len, h.cap, h.big, h.byte, row_grow h.row g (fun hl => h.inP.grow hX (by rw [← h.len]; exact List.length_pos_iff.2 hl)), h.inP⟩
theorem inP_row {κ : IntKind} {A : Option Addr} {l : List Int} {n : Nat} (hr : Row κ w w.heap.size A l) (hn : l.length = n) (h : InP P A n) (hq : ∀ b, b < w.heap.size → P b → Q b) : InP Q A n := by
  intro h0 ad e
  rcases hr with rfl | ⟨ad', e', hb, _⟩
  · simp at hn; omega
  · have : ad' = ad := Option.some.inj (e'.symm.trans e)
    subst this
    exact hq _ hb (h h0 _ e)
theorem FIs.mono (h : FIs w P f F) (hq : ∀ b, b < w.heap.size → P b → Q b) : FIs w Q f F := ⟨h.x, h.i, h.r, h.n, h.len, h.cap, h.big, h.byte, h.row, inP_row h.row h.len h.inP hq⟩
theorem fis_zero : FIs w P zeroFV zeroF := ⟨rfl, rfl, rfl, rfl, rfl, Nat.le_refl _, by decide, (fun _ h => by cases h), .inl rfl, fun h => absurd h (by decide)⟩
end
def FsIs (w : World) (P : Nat → Prop) (fs : List FV) (Fs : List FC) : Prop := fs.length = Fs.length ∧ ∀ (k : Nat) (f : FV) (F : FC), fs[k]? = some f → Fs[k]? = some F → FIs w P f F
section
variable {w w' : World} {P Q : Nat → Prop} {fs gs : List FV} {Fs Gs : List FC}
theorem FsIs.to (h : FsIs w P fs Fs) (b : Below w.heap.size w w') : FsIs w' P fs Fs := ⟨h.1, fun k f F h1 h2 => (h.2 k f F h1 h2).to b⟩
theorem FsIs.grow {X : Nat} (h : FsIs w P fs Fs) (g : w.grownBy w' (some X)) (hX : ¬ P X) : FsIs w' P fs Fs := ⟨h.1, fun k f F h1 h2 => (h.2 k f F h1 h2).grow g hX⟩
theorem FsIs.mono (h : FsIs w P fs Fs) (hq : ∀ b, b < w.heap.size → P b → Q b) : FsIs w Q fs Fs := ⟨h.1, fun k f F h1 h2 => (h.2 k f F h1 h2).mono hq⟩
theorem FsIs.nil : FsIs w P [] [] := ⟨rfl, fun k f F h => by simp at h⟩
theorem FsIs.one {f : FV} {F : FC} (h : FIs w P f F) : FsIs w P [f] [F] := by
  refine ⟨rfl, fun k g G h1 h2 => ?_⟩
  cases k with
  | zero => simp at h1 h2; subst h1 h2; exact h
  | succ k => simp at h1
theorem FsIs.append (h : FsIs w P fs Fs) (h' : FsIs w P gs Gs) : FsIs w P (fs ++ gs) (Fs ++ Gs) := by
  refine ⟨by simp [h.1, h'.1], fun k f F h1 h2 => ?_⟩
  by_cases hk : k < fs.length
  · rw [List.getElem?_append_left hk] at h1
    rw [List.getElem?_append_left (by rw [← h.1]; exact hk)] at h2
    exact h.2 k f F h1 h2
  · rw [List.getElem?_append_right (by omega)] at h1
    rw [List.getElem?_append_right (by rw [← h.1]; omega), ← h.1] at h2
    exact h'.2 _ f F h1 h2
theorem FsIs.take (h : FsIs w P fs Fs) (j : Nat) : FsIs w P (fs.take j) (Fs.take j) := by
  refine ⟨by simp [h.1], fun k f F h1 h2 => ?_⟩
  rw [List.getElem?_take] at h1 h2
  split at h1
  · rename_i hk; rw [if_pos hk] at h2; exact h.2 k f F h1 h2
  · cases h1
theorem FsIs.drop (h : FsIs w P fs Fs) (j : Nat) : FsIs w P (fs.drop j) (Fs.drop j) := by
  refine ⟨by simp [h.1], fun k f F h1 h2 => ?_⟩
  rw [List.getElem?_drop] at h1 h2
  exact h.2 _ f F h1 h2
end
structure FSl (w : World) (P : Nat → Prop) (A : Option Addr) (n c : Nat) (Fs : List FC) : Prop where
  len : Fs.length = n
  cap : n ≤ c
  big : n ≤ maxLen
  row : ∃ fs, FRow w w.heap.size A fs ∧ FsIs w P fs Fs
  inP : InP P A n
structure LSl (w : World) (P : Nat → Prop) (A : Option Addr) (n c : Nat) (ls : List FL) : Prop where
  len : ls.length = n
  cap : n ≤ c
  big : n ≤ maxLen
  wide : ∀ f ∈ ls, -9223372036854775808 ≤ f.m ∧ f.m < 9223372036854775808
  row : LRow w w.heap.size A ls
  inP : InP P A n
section
variable {w w' : World} {P Q : Nat → Prop} {A : Option Addr} {n c : Nat} {Fs : List FC} {ls : List FL}
theorem FSl.to (h : FSl w P A n c Fs) (b : Below w.heap.size w w') : FSl w' P A n c Fs := ⟨h.len, h.cap, h.big, (let ⟨fs, h1, h2⟩ := h.row; ⟨fs, h1.to b, h2.to b⟩), h.inP⟩
theorem FSl.grow {X : Nat} (h : FSl w P A n c Fs) (g : w.grownBy w' (some X)) (hX : ¬ P X) : FSl w' P A n c Fs := by
  refine ⟨h.len, h.cap, h.big, ?_, h.inP⟩
  obtain ⟨fs, h1, h2⟩ := h.row
  exact ⟨fs, frow_grow h1 g (fun hl => h.inP.grow hX (by have h3 := List.length_pos_iff.2 hl; have h4 := h2.1; have h5 := h.len; omega)), h2.grow g hX⟩
theorem FSl.mono (h : FSl w P A n c Fs) (hq : ∀ b, b < w.heap.size → P b → Q b) : FSl w Q A n c Fs := by
  refine ⟨h.len, h.cap, h.big, (let ⟨fs, h1, h2⟩ := h.row; ⟨fs, h1, h2.mono hq⟩), fun h0 ad e => ?_⟩
  obtain ⟨fs, h1, h2⟩ := h.row
  rcases h1 with rfl | ⟨ad', e', hb, _⟩
  · have := h2.1; have := h.len; simp at *; omega
  · have : ad' = ad := Option.some.inj (e'.symm.trans e)
    subst this
    exact hq _ hb (h.inP h0 _ e)
theorem FSl.none_ : FSl w P none 0 0 [] := ⟨rfl, Nat.le_refl _, by decide, ⟨[], .inl rfl, FsIs.nil⟩, fun h => absurd h (by decide)⟩
theorem FSl.at_ (h : FSl w P A n c Fs) {k : Nat} (hk : k < n) : ∃ ad f F, A = some ad ∧ Fs[k]? = some F ∧ FAt w (ad.add (k * 5)) f ∧ FIs w P f F := by
  obtain ⟨fs, h1, h2⟩ := h.row
  have hk2 : k < fs.length := by rw [h2.1, h.len]; exact hk
  obtain ⟨ad, f, e, hf, ha⟩ := h1.get_ hk2
  obtain ⟨F, hF⟩ : ∃ F, Fs[k]? = some F := ⟨_, List.getElem?_eq_getElem (by rw [h.len]; exact hk)⟩
  exact ⟨ad, f, F, e, hF, ha, h2.2 k f F hf hF⟩
theorem LSl.to (h : LSl w P A n c ls) (b : Below w.heap.size w w') : LSl w' P A n c ls := ⟨h.len, h.cap, h.big, h.wide, h.row.to b, h.inP⟩
theorem LSl.grow {X : Nat} (h : LSl w P A n c ls) (g : w.grownBy w' (some X)) (hX : ¬ P X) : LSl w' P A n c ls :=
  ⟨h.len, h.cap, h.big, h.wide, lrow_grow h.row g (fun hl => h.inP.grow hX (by rw [← h.len]; exact List.length_pos_iff.2 hl)), h.inP⟩
theorem LSl.mono (h : LSl w P A n c ls) (hq : ∀ b, b < w.heap.size → P b → Q b) : LSl w Q A n c ls := by
  refine ⟨h.len, h.cap, h.big, h.wide, h.row, fun h0 ad e => ?_⟩
  have h1 := h.row
  rcases h1 with rfl | ⟨ad', e', hb, _⟩
  · have := h.len; simp at this; omega
  · have : ad' = ad := Option.some.inj (e'.symm.trans e)
    subst this
    exact hq _ hb (h.inP h0 _ e)
theorem LSl.none_ : LSl w P none 0 0 [] := ⟨rfl, Nat.le_refl _, by decide, by simp, .inl rfl, fun h => absurd h (by decide)⟩
theorem LSl.at_ (h : LSl w P A n c ls) {k : Nat} (hk : k < n) : ∃ ad f, A = some ad ∧ ls[k]? = some f ∧ LAt w (ad.add (k * 3)) f := h.row.get_ (by rw [h.len]; exact hk)
end
theorem own_inP {w : World} {base : Nat} {e : TypeId} {size n c m : Nat} {A : Option Addr} {xs : List Value} {P : Nat → Prop} (h : w.ownsRow base e size (.slice A n c) m xs) (hP : ∀ b, base ≤ b → P b) (k : Nat) : InP P A k := by
  intro _ ad e
  subst e
  rcases h.2 with ⟨e1, _⟩ | ⟨g, cap, cur, e1, hb, _⟩
  · cases e1
  · injection e1 with e1
    obtain rfl := Option.some.inj e1
    exact hP _ hb
theorem FSl.own {w : World} {base : Nat} {A : Option Addr} {n c : Nat} {fs : List FV} {Fs : List FC} {P : Nat → Prop} (h : FOwn w base A n c fs) (h' : FsIs w P fs Fs) (hn : n ≤ 1000) (hP : ∀ b, base ≤ b → P b) : FSl w P A n c Fs :=
  ⟨by rw [← h'.1]; exact h.len, h.cap, by unfold maxLen; omega, ⟨fs, FRow.own h, h'⟩, own_inP h hP n⟩
theorem LOwn.cap {w : World} {base : Nat} {A : Option Addr} {n c : Nat} {fs : List FL} (h : LOwn w base A n c fs) : n ≤ c := by
  rcases h.2 with ⟨e1, e2⟩ | ⟨g, cap, cur, e1, hb, hg, hn, _⟩
  · omega
  · injection e1 with _ _ e; omega
theorem LSl.own {w : World} {base : Nat} {A : Option Addr} {n c : Nat} {fs : List FL} {P : Nat → Prop} (h : LOwn w base A n c fs) (hn : n ≤ 1000) (hw : ∀ f ∈ fs, -9223372036854775808 ≤ f.m ∧ f.m < 9223372036854775808) (hP : ∀ b, base ≤ b → P b) : LSl w P A n c fs :=
  ⟨h.len, h.cap, by unfold maxLen; omega, hw, LRow.own h, own_inP h hP n⟩
structure NV where
  qa : Option Addr
  qm : Nat
  qc : Nat
  la : Option Addr
  lm : Nat
  lc : Nat
  k : CV
  ga : Option Addr
  gm : Nat
  gc : Nat
abbrev NV.v (n : NV) : Value := .agg #[.slice n.qa n.qm n.qc, .slice n.la n.lm n.lc, .int .i64 n.k.t, .int .i64 n.k.r, .int .i64 n.k.s, .int .i64 n.k.q, .slice n.ga n.gm n.gc]
structure NC where
  q : List FC
  l : List FL
  k : CV
  g : List FC
deriving DecidableEq
structure NIs (w : World) (P : Nat → Prop) (n : NV) (N : NC) : Prop where
  q : FSl w P n.qa n.qm n.qc N.q
  l : LSl w P n.la n.lm n.lc N.l
  k : n.k = N.k
  g : FSl w P n.ga n.gm n.gc N.g
section
variable {w w' : World} {P Q : Nat → Prop} {n : NV} {N : NC}
theorem NIs.to (h : NIs w P n N) (b : Below w.heap.size w w') : NIs w' P n N := ⟨h.q.to b, h.l.to b, h.k, h.g.to b⟩
theorem NIs.grow {X : Nat} (h : NIs w P n N) (g : w.grownBy w' (some X)) (hX : ¬ P X) : NIs w' P n N := ⟨h.q.grow g hX, h.l.grow g hX, h.k, h.g.grow g hX⟩
theorem NIs.mono (h : NIs w P n N) (hq : ∀ b, b < w.heap.size → P b → Q b) : NIs w Q n N := ⟨h.q.mono hq, h.l.mono hq, h.k, h.g.mono hq⟩
end
abbrev zeroNV : NV := ⟨none, 0, 0, none, 0, 0, ⟨0, 0, 0, 0⟩, none, 0, 0⟩
def zeroN : NC := ⟨[], [], ⟨0, 0, 0, 0⟩, []⟩
abbrev HasN (w : World) (F : Nat) (n : NV) : Prop := w.heap[F]? = some (.cells #[.slice n.qa n.qm n.qc, .slice n.la n.lm n.lc, .int .i64 n.k.t, .int .i64 n.k.r, .int .i64 n.k.s, .int .i64 n.k.q, .slice n.ga n.gm n.gc] 49)
theorem cells7 {w : World} {F : Nat} {a b c d e f g : Value} {t : TypeId} (h : w.heap[F]? = some (.cells #[a, b, c, d, e, f, g] t)) :
    (w.cell? ⟨F, 0, none⟩ = some a ∧ w.cell? ⟨F, 1, none⟩ = some b ∧ w.cell? ⟨F, 2, none⟩ = some c ∧ w.cell? ⟨F, 3, none⟩ = some d ∧ w.cell? ⟨F, 4, none⟩ = some e ∧ w.cell? ⟨F, 5, none⟩ = some f ∧ w.cell? ⟨F, 6, none⟩ = some g) ∧
    w.frozen? ⟨F, 0, none⟩ = false ∧ w.frozen? ⟨F, 1, none⟩ = false ∧ w.frozen? ⟨F, 2, none⟩ = false ∧ w.frozen? ⟨F, 3, none⟩ = false ∧ w.frozen? ⟨F, 4, none⟩ = false ∧ w.frozen? ⟨F, 5, none⟩ = false ∧ w.frozen? ⟨F, 6, none⟩ = false := by
  simp [World.cell?, World.frozen?, h]
theorem cells7' {w : World} {F : Nat} {a b c d e f g : Value} {t : TypeId} (h : w.heap[F]? = some (.cells #[a, b, c, d, e, f, g] t)) :
    w.cell? ⟨F, 0, none⟩ = some a ∧ w.cell? ⟨F, 1, none⟩ = some b ∧ w.cell? ⟨F, 2, none⟩ = some c ∧ w.cell? ⟨F, 3, none⟩ = some d ∧ w.cell? ⟨F, 4, none⟩ = some e ∧ w.cell? ⟨F, 5, none⟩ = some f ∧ w.cell? ⟨F, 6, none⟩ = some g := (cells7 h).1
theorem load_n {w : World} {F : Nat} {n : NV} (h : HasN w F n) : (loadVar 49 ⟨F, 0, none⟩).run Tryz.prog w = .ok n.v w := by
  obtain ⟨⟨c0, c1, c2, c3, c4, c5, c6⟩, _⟩ := cells7 h
  simp [go_sem, c0, c1, c2, c3, c4, c5, c6]
theorem load_f {w : World} {F : Nat} {f : FV} (h : HasF w F f) : (loadVar 34 ⟨F, 0, none⟩).run Tryz.prog w = .ok f.v w := by
  obtain ⟨⟨c0, c1, c2, c3, c4⟩, _⟩ := cells5 h
  simp [go_sem, c0, c1, c2, c3, c4]
theorem results_n {fn : Func} {p : Tmp} (hf : fn.results = #[.cell p 49]) (tmps : Array Value) {w : World} {F : Nat} {n : NV} (ht : tmps.getD p undef = .pointer (some ⟨F, 0, none⟩)) (h : HasN w F n) :
    (results fn tmps).run Tryz.prog w = .ok n.v w := by
  have hl := load_n h
  have ht' : tmps[p]?.getD undef = .pointer (some ⟨F, 0, none⟩) := by simpa using ht
  simp only [results, hf]
  simp [ht', asAddr, hl]
theorem results_f {fn : Func} {p : Tmp} (hf : fn.results = #[.cell p 34]) (tmps : Array Value) {w : World} {F : Nat} {f : FV} (ht : tmps.getD p undef = .pointer (some ⟨F, 0, none⟩)) (h : HasF w F f) :
    (results fn tmps).run Tryz.prog w = .ok f.v w := by
  have hl := load_f h
  have ht' : tmps[p]?.getD undef = .pointer (some ⟨F, 0, none⟩) := by simpa using ht
  simp only [results, hf]
  simp [ht', asAddr, hl]
theorem results_f1 {fn : Func} {p q : Tmp} (hf : fn.results = #[.cell p 34, .tmp q]) (tmps : Array Value) {w : World} {F : Nat} {f : FV} {u : Value} (ht : tmps.getD p undef = .pointer (some ⟨F, 0, none⟩)) (hq : tmps.getD q undef = u) (h : HasF w F f) :
    (results fn tmps).run Tryz.prog w = .ok (.tuple #[f.v, u]) w := by
  have hl := load_f h
  have ht' : tmps[p]?.getD undef = .pointer (some ⟨F, 0, none⟩) := by simpa using ht
  have hq' : tmps[q]?.getD undef = u := by simpa using hq
  simp only [results, hf]
  simp [ht', hq', asAddr, hl]
def set7 (w : World) (F : Nat) (a b c d e f g : Value) : World := ((((((w.setCell ⟨F, 0, none⟩ a).setCell ⟨F, 1, none⟩ b).setCell ⟨F, 2, none⟩ c).setCell ⟨F, 3, none⟩ d).setCell ⟨F, 4, none⟩ e).setCell ⟨F, 5, none⟩ f).setCell ⟨F, 6, none⟩ g
theorem set7_obj {w : World} {F : Nat} {a b c d e f g : Value} {t : TypeId} (h : w.heap[F]? = some (.cells #[a, b, c, d, e, f, g] t)) (a' b' c' d' e' f' g' : Value) :
    (set7 w F a' b' c' d' e' f' g').heap[F]? = some (.cells #[a', b', c', d', e', f', g'] t) := by
  simp [set7, World.setCell, Array.getElem?_modify, h]
theorem set7_grown (w : World) (F : Nat) (a b c d e f g : Value) : w.grownBy (set7 w F a b c d e f g) (some F) :=
  ((((((grown_setAt w F 0 a).trans (grown_setAt _ F 1 b)).trans (grown_setAt _ F 2 c)).trans (grown_setAt _ F 3 d)).trans (grown_setAt _ F 4 e)).trans (grown_setAt _ F 5 f)).trans (grown_setAt _ F 6 g)
theorem set0_obj7 {w : World} {F : Nat} {a b c d e f g : Value} {t : TypeId} (h : w.heap[F]? = some (.cells #[a, b, c, d, e, f, g] t)) (a' : Value) :
    (w.setCell ⟨F, 0, none⟩ a').heap[F]? = some (.cells #[a', b, c, d, e, f, g] t) := by
  simp [World.setCell, Array.getElem?_modify, h]
theorem set6_obj7 {w : World} {F : Nat} {a b c d e f g : Value} {t : TypeId} (h : w.heap[F]? = some (.cells #[a, b, c, d, e, f, g] t)) (g' : Value) :
    (w.setCell ⟨F, 6, none⟩ g').heap[F]? = some (.cells #[a, b, c, d, e, f, g'] t) := by
  simp [World.setCell, Array.getElem?_modify, h]
def set25 (w : World) (F : Nat) (c d e f : Value) : World := (((w.setCell ⟨F, 2, none⟩ c).setCell ⟨F, 3, none⟩ d).setCell ⟨F, 4, none⟩ e).setCell ⟨F, 5, none⟩ f
theorem set25_grown (w : World) (F : Nat) (c d e f : Value) : w.grownBy (set25 w F c d e f) (some F) :=
  ((((grown_setAt w F 2 c)).trans (grown_setAt _ F 3 d)).trans (grown_setAt _ F 4 e)).trans (grown_setAt _ F 5 f)
theorem set4_obj5 {w : World} {F : Nat} {a b c d e : Value} {t : TypeId} (h : w.heap[F]? = some (.cells #[a, b, c, d, e] t)) (e' : Value) :
    (w.setCell ⟨F, 4, none⟩ e').heap[F]? = some (.cells #[a, b, c, d, e'] t) := by
  simp [World.setCell, Array.getElem?_modify, h]
theorem below_g {w0 w w' : World} {F : Nat} (b : Below w0.heap.size w0 w) (g : w.grownBy w' (some F)) (hF : w0.heap.size ≤ F) : Below w0.heap.size w0 w' :=
  ⟨g.os.trans b.os, g.tape.trans b.tape, g.output.trans b.output, Nat.le_trans b.size g.size, fun k hk => (g.block k (Nat.lt_of_lt_of_le hk b.size) (by simp; omega)).trans (b.block k hk)⟩
theorem other_g {w w' : World} {F G : Nat} {o : Obj} (g : w.grownBy w' (some F)) (h : w.heap[G]? = some o) (hne : G ≠ F) : w'.heap[G]? = some o :=
  (g.block G (Array.getElem?_eq_some_iff.1 h).1 (by simpa using hne)).trans h
def Gap (P : Nat → Prop) (lo hi : Nat) : Nat → Prop := fun b => P b ∧ (b < lo ∨ hi ≤ b)
theorem gap_up {P : Nat → Prop} {lo hi : Nat} (hP : ∀ b, lo ≤ b → P b) (h : lo ≤ hi) : ∀ b, hi ≤ b → Gap P lo hi b := fun b hb => ⟨hP b (Nat.le_trans h hb), .inr hb⟩
theorem gap_not {P : Nat → Prop} {lo hi X : Nat} (h1 : lo ≤ X) (h2 : X < hi) : ¬ Gap P lo hi X := fun h => by rcases h.2 with h | h <;> omega
theorem FIs.gap {w : World} {P : Nat → Prop} {f : FV} {F : FC} (h : FIs w P f F) (hi : Nat) : FIs w (Gap P w.heap.size hi) f F := h.mono fun b hb hp => ⟨hp, .inl hb⟩
theorem FSl.gap {w : World} {P : Nat → Prop} {A : Option Addr} {n c : Nat} {Fs : List FC} (h : FSl w P A n c Fs) (hi : Nat) : FSl w (Gap P w.heap.size hi) A n c Fs := h.mono fun b hb hp => ⟨hp, .inl hb⟩
theorem NIs.gap {w : World} {P : Nat → Prop} {n : NV} {N : NC} (h : NIs w P n N) (hi : Nat) : NIs w (Gap P w.heap.size hi) n N := h.mono fun b hb hp => ⟨hp, .inl hb⟩
theorem FIs.ungap {w : World} {P : Nat → Prop} {lo hi : Nat} {f : FV} {F : FC} (h : FIs w (Gap P lo hi) f F) : FIs w P f F := h.mono fun _ _ hp => hp.1
theorem FSl.ungap {w : World} {P : Nat → Prop} {lo hi : Nat} {A : Option Addr} {n c : Nat} {Fs : List FC} (h : FSl w (Gap P lo hi) A n c Fs) : FSl w P A n c Fs := h.mono fun _ _ hp => hp.1
theorem NIs.ungap {w : World} {P : Nat → Prop} {lo hi : Nat} {n : NV} {N : NC} (h : NIs w (Gap P lo hi) n N) : NIs w P n N := h.mono fun _ _ hp => hp.1
theorem alloc_at {X : Nat} (w : World) (o : Obj) (h : w.heap.size = X) : (w.alloc o).heap[X]? = some o := by subst h; exact World.alloc_heap_new w o
end Go.Proofs.YtcifjccojmfpaaaGreat

namespace Go.Proofs.YtcifjccojmfpaaaGreat
open Go.RowKit
set_option linter.unusedVariables false
set_option linter.unusedSimpArgs false
def rightC (F : FC) : Bool := rightV F.x F.i F.r F.n F.d.length
def okC (F : FC) : Prop := ∃ ID : Nat, F.i = ID ∧ idOk F.x ID
def rankC (F : FC) : List Int := rankV F.x F.i.toNat F.r
def sameF (F G : FC) : Bool := decide (F = G)
def sameFs (a b : List FC) : Bool := decide (a = b)
theorem okC_of {F : FC} (h : rightC F = true) : okC F := by
  obtain ⟨ID, L, h1, _, h3, _⟩ := right_ok h
  exact ⟨ID, h1, h3⟩
theorem right_len {F : FC} (h : rightC F = true) : F.d.length ≤ 8 := by
  obtain ⟨ID, L, _, _, _, h4, h5⟩ := right_ok h
  rw [h5]; split <;> omega
theorem rankC_len (F : FC) : (rankC F).length = rn F.x := rankV_len _ _ _
theorem rankC_le (F : FC) : (rankC F).length ≤ 32 := by rw [rankC_len]; cases F.x <;> decide
section
variable {w : World} {P P' : Nat → Prop} {f g : FV} {F G : FC}
theorem fc_ext : F = G ↔ F.x = G.x ∧ F.i = G.i ∧ F.r = G.r ∧ F.n = G.n ∧ F.d = G.d := by cases F; cases G; simp
theorem refFrSame_c (h : FIs w P f F) (h' : FIs w P' g G) (q : Bool) (hq : sameF F G = q) : Calls Tryz.prog 27 #[f.v, g.v] w fun e w' => e = .returned (.bool q) ∧ Below w.heap.size w w' :=
  refFrSame_at f.x f.i f.r f.n F.d f.m h.len f.a f.c g.x g.i g.r g.n G.d g.m h'.len g.a g.c w h.row h'.row h.byte h'.byte q (by
    rw [← hq, h.x, h.i, h.r, h.n, h'.x, h'.i, h'.r, h'.n]
    unfold sameV sameF
    exact decide_eq_decide.2 fc_ext.symm)
theorem fok_of (h : FIs w P f F) (hok : okC F) : FOk f := by
  obtain ⟨ID, h1, h2⟩ := hok
  exact ⟨ID, h.i.trans h1, by rw [h.x]; exact h2⟩
theorem rankF_eq (h : FIs w P f F) : rankF f = rankC F := by unfold rankF rankC; rw [h.x, h.i, h.r]
theorem rank_c (h : FIs w P f F) (hok : okC F) (n : Nat) (hn : (rankC F).length = n) : Calls Tryz.prog 66 #[f.v] w fun e w' => ∃ A c', e = .returned (.slice A n c') ∧ Row .i64 w' w'.heap.size A (rankC F) ∧ n ≤ c' ∧ Below w.heap.size w w' :=
  (rankF_at f (fok_of h hok) n (by rw [rankF_eq h]; exact hn) w).mono (by
    rintro e w' ⟨ad, c', h1, h2, h3, h4, _⟩
    exact ⟨some ad, c', h1, by rw [← rankF_eq h]; exact h2, h3, h4⟩)
theorem refRank_c (h : FIs w P f F) (hok : okC F) (n : Nat) (hn : (rankC F).length = n) : Calls Tryz.prog 32 #[f.v] w fun e w' => ∃ A c', e = .returned (.slice A n c') ∧ Row .i64 w' w'.heap.size A (rankC F) ∧ n ≤ c' ∧ Below w.heap.size w w' :=
  (refRankF_at f (fok_of h hok) n (by rw [rankF_eq h]; exact hn) w).mono (by
    rintro e w' ⟨A, c', h1, h2, h3, h4⟩
    exact ⟨A, c', h1, by rw [← rankF_eq h]; exact h2, h3, h4⟩)
end
end Go.Proofs.YtcifjccojmfpaaaGreat

namespace Go.Proofs.YtcifjccojmfpaaaGreat
open Go.RowKit
set_option linter.unusedVariables false
set_option linter.unusedSimpArgs false
theorem refLrRight_c {f : FL} (q : Bool) (hq : refRightP f = q) (w : World) : Calls Tryz.prog 63 #[f.v] w fun e w' => e = .returned (.bool q) ∧ Below w.heap.size w w' :=
  (refRight_any f w).mono (by rintro e w' ⟨h1, h2⟩; exact ⟨by rw [h1, hq], h2⟩)
def allUptoF (Fs : List FC) (k : Nat) : Prop := ∀ (j : Nat) (f : FC), j < k → Fs[j]? = some f → rightC f = true
def rightFs (m : Nat) (Fs : List FC) : Bool := decide (Fs.length ≤ m) && Fs.all rightC
def allUptoL (ls : List FL) (k : Nat) : Prop := ∀ (j : Nat) (f : FL), j < k → ls[j]? = some f → refRightP f = true
def rightLs (m : Nat) (ls : List FL) : Bool := decide (ls.length ≤ m) && ls.all refRightP
end Go.Proofs.YtcifjccojmfpaaaGreat

namespace Go.Proofs.YtcifjccojmfpaaaGreat
open Go.RowKit
set_option linter.unusedVariables false
set_option linter.unusedSimpArgs false
def lexB : List Int → List Int → Bool
  | [], [] => false
  | [], _ :: _ => true
  | _ :: _, [] => false
  | a :: s, b :: t => if a = b then lexB s t else decide (a < b)
theorem lexB_at : ∀ (k : Nat) (a b : List Int) (x y : Int), a.take k = b.take k → a[k]? = some x → b[k]? = some y → x ≠ y → lexB a b = decide (x < y)
  | 0, [], _, _, _, _, h, _, _ => by simp at h
  | 0, _ :: _, [], _, _, _, _, h, _ => by simp at h
  | 0, a :: s, b :: t, x, y, _, h1, h2, hn => by
    simp at h1 h2
    subst h1 h2
    simp [lexB, hn]
  | k + 1, [], _, _, _, _, h, _, _ => by simp at h
  | k + 1, _ :: _, [], _, _, _, _, h, _ => by simp at h
  | k + 1, a :: s, b :: t, x, y, h, h1, h2, hn => by
    simp at h h1 h2
    simp only [lexB, h.1, if_true]
    exact lexB_at k s t x y h.2 h1 h2 hn
theorem lexB_right : ∀ (k : Nat) (a b : List Int), a.take k = b.take k → k < a.length → b.length ≤ k → lexB a b = false
  | 0, [], _, _, h, _ => by simp at h
  | 0, _ :: _, [], _, _, _ => rfl
  | 0, _ :: _, _ :: _, _, _, h => by simp at h
  | k + 1, [], _, _, h, _ => by simp at h
  | k + 1, _ :: _, [], h, _, _ => by simp at h
  | k + 1, a :: s, b :: t, h, h1, h2 => by
    simp at h h1 h2
    simp only [lexB, h.1, if_true]
    exact lexB_right k s t h.2 h1 h2
theorem lexB_left : ∀ (k : Nat) (a b : List Int), a.take k = b.take k → a.length = k → lexB a b = decide (k < b.length)
  | 0, [], [], _, _ => rfl
  | 0, [], _ :: _, _, _ => by simp [lexB]
  | 0, _ :: _, _, _, h => by simp at h
  | k + 1, [], _, _, h => by simp at h
  | k + 1, _ :: _, [], h, _ => by simp at h
  | k + 1, a :: s, b :: t, h, h1 => by
    simp at h h1
    simp only [lexB, h.1, if_true]
    rw [lexB_left k s t h.2 h1]
    simp
theorem lexB_irr : ∀ a : List Int, lexB a a = false
  | [] => rfl
  | a :: s => by simp [lexB, lexB_irr s]
theorem lexB_trans : ∀ a b c : List Int, lexB a b = true → lexB b c = true → lexB a c = true
  | [], [], _, h, _ => by cases h
  | [], _ :: _, [], _, h => by cases h
  | [], _ :: _, _ :: _, _, _ => rfl
  | _ :: _, [], _, h, _ => by cases h
  | _ :: _, _ :: _, [], _, h => by cases h
  | a :: s, b :: t, c :: u, h1, h2 => by
    simp only [lexB] at h1 h2 ⊢
    split at h1 <;> split at h2
    · rename_i e1 e2
      subst e1 e2
      simp [lexB_trans s t u h1 h2]
    · rename_i e1 e2
      subst e1
      rw [if_neg e2]; exact h2
    · rename_i e1 e2
      subst e2
      rw [if_neg e1]; exact h1
    · rename_i e1 e2
      simp only [decide_eq_true_eq] at h1 h2
      rw [if_neg (by omega)]
      simp; omega
theorem lexB_tri : ∀ a b : List Int, a = b ∨ lexB a b = true ∨ lexB b a = true
  | [], [] => .inl rfl
  | [], _ :: _ => .inr (.inl rfl)
  | _ :: _, [] => .inr (.inr rfl)
  | a :: s, b :: t => by
    by_cases e : a = b
    · subst e
      rcases lexB_tri s t with h | h | h
      · exact .inl (by rw [h])
      · exact .inr (.inl (by simp [lexB, h]))
      · exact .inr (.inr (by simp [lexB, h]))
    · right
      simp only [lexB, if_neg e, if_neg (Ne.symm e), decide_eq_true_eq]
      omega
def cmpI (x y : Int) : Int := if x < y then -1 else if y < x then 1 else 0
theorem isNaN_any (x : Int) (w : World) :
    Calls Tryz.prog 139 #[.int .i64 x] w fun e w' => e = .returned (.bool false) ∧ Below w.heap.size w w' := by
  go_enter Tryz.func139, Tryz.ntmps139
  go_wp2_with fail
  go_ret
  exact ⟨by simp, Below.refl _ _⟩
theorem cmp_any (x y : Int) (w : World) :
    Calls Tryz.prog 124 #[.int .i64 x, .int .i64 y] w fun e w' => e = .returned (.int .i64 (cmpI x y)) ∧ Below w.heap.size w w' := by
  go_enter Tryz.func124, Tryz.ntmps124
  go_wp2_with fail
  refine (isNaN_any x w).mono ?_
  rintro e w1 ⟨rfl, hB1⟩
  go_wp2_with fail
  refine (isNaN_any y w1).mono ?_
  rintro e w2 ⟨rfl, hB2⟩
  have hB := below_then hB1 hB2
  by_cases h1 : x < y
  · have d1 : decide (x < y) = true := by simpa using h1
    have Hr := Lib.hid (show -1 = cmpI x y by unfold cmpI; rw [if_pos h1])
    go_wp2_with fail
    go_ret
    exact ⟨ret_int Hr.out, hB⟩
  · have d1 : decide (x < y) = false := by simpa using h1
    by_cases h2 : y < x
    · have d2 : decide (y < x) = true := by simpa using h2
      have Hr := Lib.hid (show 1 = cmpI x y by unfold cmpI; rw [if_neg h1, if_pos h2])
      go_wp2_with fail
      go_ret
      exact ⟨ret_int Hr.out, hB⟩
    · have d2 : decide (y < x) = false := by simpa using h2
      have Hr := Lib.hid (show 0 = cmpI x y by unfold cmpI; rw [if_neg h1, if_neg h2])
      go_wp2_with fail
      go_ret
      exact ⟨ret_int Hr.out, hB⟩
theorem compare_any (a b : List Int) (n m : Nat) (hn : a.length = n) (hm : b.length = m) (A A' : Option Addr) (c c' : Nat) (w : World) (h : Row .i64 w w.heap.size A a) (h' : Row .i64 w w.heap.size A' b) (h1 : n ≤ 1000) (h2 : m ≤ 1000) (q : Bool) (hq : lexB a b = q) :
    Calls Tryz.prog 110 #[.slice A n c, .slice A' m c'] w fun e w' => ∃ z : Int, e = .returned (.int .i64 z) ∧ decide (z < 0) = q ∧ Below w.heap.size w w' := by
  have Hn := Lib.hid hn
  have Hm := Lib.hid hm
  have Hq := Lib.hid hq
  clear hn hm hq
  go_enter Tryz.func110, Tryz.ntmps110
  go_wp2_with fail
  go_loopw [11] (fun i wr => ∃ k : Nat, k ≤ n ∧ k ≤ m ∧ i = .int .i64 k ∧ Hid (a.take k = b.take k) ∧ Below w.heap.size w wr) (fun i _ => n - (intOf i).toNat)
  case atStart => exact ⟨0, Nat.zero_le _, Nat.zero_le _, rfl, Lib.hid (by simp), Below.refl _ _⟩
  case round =>
    obtain ⟨k, hk, hkm, rfl, Ht, hB⟩ := hrel
    by_cases hlt : k < n
    · have hlt1 : (k : Int) < (n : Int) := by omega
      obtain ⟨ad, x, rfl, hx, hc⟩ := (h.below hB).get_ (k := k) (by rw [Hn.out]; exact hlt)
      have Hx := Lib.hid hx
      clear hx
      by_cases hlt2 : k < m
      · have e1 : ¬ (m : Int) ≤ (k : Int) := by omega
        obtain ⟨ad', y, rfl, hy, hc'⟩ := (h'.below hB).get_ (k := k) (by rw [Hm.out]; exact hlt2)
        have Hy := Lib.hid hy
        clear hy
        go_wp2_with fail
        refine (cmp_any x y wr).mono ?_
        rintro e w1 ⟨rfl, hB1⟩
        by_cases hxy : x = y
        · have e2 : cmpI x y = 0 := by subst hxy; simp [cmpI]
          rw [e2]
          have Hxy := Lib.hid hxy
          clear hxy e2
          go_wp2_with fail
          go_round
          case measure => simp [intOf]; omega
          exact ⟨k + 1, by omega, by omega, by go_num, Lib.hid (take_next Ht.out (by rw [Hx.out, Hy.out, Hxy.out])), hB.trans (hB1.mono hB.size)⟩
        · obtain ⟨z, hz⟩ : ∃ z, cmpI x y = z := ⟨_, rfl⟩
          have hz0 : ¬ z = 0 := by rw [← hz]; unfold cmpI; split <;> (try split) <;> omega
          have hz1 : (z != 0) = true := by simpa [bne] using hz0
          have hz2 : decide (z < 0) = decide (x < y) := by rw [← hz]; unfold cmpI; split <;> (try split) <;> simp <;> omega
          have Hz2 := Lib.hid hz2
          have Hxy := Lib.hid hxy
          rw [hz]
          clear hz hz2 hxy
          go_wp2_with fail
          go_ret
          exact ⟨z, rfl, by rw [← Hq.out, Hz2.out]; exact (lexB_at k a b x y Ht.out Hx.out Hy.out Hxy.out).symm, hB.trans (hB1.mono hB.size)⟩
      · have e1 : (m : Int) ≤ (k : Int) := by omega
        go_wp2_with fail
        go_ret
        exact ⟨1, rfl, by rw [← Hq.out, lexB_right k a b Ht.out (by rw [Hn.out]; exact hlt) (by rw [Hm.out]; omega)]; rfl, hB⟩
    · obtain rfl : k = n := by omega
      have hfin := lexB_left k a b Ht.out Hn.out
      rw [Hq.out, Hm.out] at hfin
      have Hfin := Lib.hid hfin
      clear hfin
      by_cases hkm2 : k < m
      · have e1 : (k : Int) < (m : Int) := by omega
        go_wp2_with fail
        go_ret
        exact ⟨-1, rfl, by rw [Hfin.out]; simp [hkm2], hB⟩
      · have e1 : ¬ (k : Int) < (m : Int) := by omega
        go_wp2_with fail
        go_ret
        exact ⟨0, rfl, by rw [Hfin.out]; simp [hkm2], hB⟩
theorem below_any (a b : List Int) (n m : Nat) (hn : a.length = n) (hm : b.length = m) (A A' : Option Addr) (c c' : Nat) (w : World) (h : Row .i64 w w.heap.size A a) (h' : Row .i64 w w.heap.size A' b) (h1 : n ≤ 1000) (h2 : m ≤ 1000) (q : Bool) (hq : lexB a b = q) :
    Calls Tryz.prog 77 #[.slice A n c, .slice A' m c'] w fun e w' => e = .returned (.bool q) ∧ Below w.heap.size w w' := by
  have Hn := Lib.hid hn
  have Hm := Lib.hid hm
  have Hq := Lib.hid hq
  clear hn hm hq
  go_enter Tryz.func77, Tryz.ntmps77
  go_wp2_with fail
  go_loopw [5] (fun i wr => ∃ k : Nat, k ≤ n ∧ k ≤ m ∧ i = .int .i64 k ∧ Hid (a.take k = b.take k) ∧ Below w.heap.size w wr) (fun i _ => n - (intOf i).toNat)
  case atStart => exact ⟨0, Nat.zero_le _, Nat.zero_le _, rfl, Lib.hid (by simp), Below.refl _ _⟩
  case round =>
    obtain ⟨k, hk, hkm, rfl, Ht, hB⟩ := hrel
    by_cases hlt : k < n
    · have hlt1 : (k : Int) < (n : Int) := by omega
      have d1 : decide ((k : Int) < (n : Int)) = true := by simpa using hlt1
      obtain ⟨ad, x, rfl, hx, hc⟩ := (h.below hB).get_ (k := k) (by rw [Hn.out]; exact hlt)
      have Hx := Lib.hid hx
      clear hx
      by_cases hlt2 : k < m
      · have hlt3 : (k : Int) < (m : Int) := by omega
        have d2 : decide ((k : Int) < (m : Int)) = true := by simpa using hlt3
        obtain ⟨ad', y, rfl, hy, hc'⟩ := (h'.below hB).get_ (k := k) (by rw [Hm.out]; exact hlt2)
        have Hy := Lib.hid hy
        clear hy
        by_cases hxy : x = y
        · have e2 : (x != y) = false := by simp [hxy]
          have Hxy := Lib.hid hxy
          clear hxy
          go_wp2_with fail
          go_quiet (fail)
          go_wp2_with fail
          go_round
          case measure => simp [intOf]; omega
          exact ⟨k + 1, by omega, by omega, by go_num, Lib.hid (take_next Ht.out (by rw [Hx.out, Hy.out, Hxy.out])), below_drewN' hB _⟩
        · have e2 : (x != y) = true := by simpa [bne] using hxy
          have hfin := lexB_at k a b x y Ht.out Hx.out Hy.out hxy
          have Hfin := Lib.hid (Hq.out.symm.trans hfin)
          have Hxy := Lib.hid hxy
          clear hxy hfin
          go_wp2_with fail
          go_quiet (fail)
          go_wp2_with fail
          go_quiet (fail)
          go_wp2_with fail
          go_ret
          exact ⟨ret_bool Hfin.out.symm, below_drewN' (below_drewN' hB _) _⟩
      · have hlt3 : ¬ (k : Int) < (m : Int) := by omega
        have d2 : decide ((k : Int) < (m : Int)) = false := by simpa using hlt3
        have hfin := lexB_right k a b Ht.out (by rw [Hn.out]; exact hlt) (by rw [Hm.out]; omega)
        have Hfin := Lib.hid (Hq.out.symm.trans hfin)
        clear hfin
        obtain rfl : k = m := by omega
        have d3 : ¬ n < k := by omega
        go_wp2_with fail
        go_ret
        exact ⟨ret_bool (by rw [Hfin.out]), hB⟩
    · obtain rfl : k = n := by omega
      have hfin := lexB_left k a b Ht.out Hn.out
      rw [Hq.out, Hm.out] at hfin
      have Hfin := Lib.hid hfin
      clear hfin
      go_wp2_with fail
      go_ret
      exact ⟨ret_bool (by rw [Hfin.out]), hB⟩
end Go.Proofs.YtcifjccojmfpaaaGreat

namespace Go.Proofs.YtcifjccojmfpaaaGreat
open Go.RowKit
set_option linter.unusedVariables false
set_option linter.unusedSimpArgs false
def lessC (F G : FC) : Bool := lexB (rankC F) (rankC G)
def leastTo (Fs : List FC) : Nat → Nat
  | 0 => 0
  | k + 1 => if lessC (Fs.getD k zeroF) (Fs.getD (leastTo Fs k) zeroF) then k else leastTo Fs k
theorem leastTo_le (Fs : List FC) : ∀ k, leastTo Fs (k + 1) ≤ k
  | 0 => by simp [leastTo]
  | k + 1 => by
    rw [leastTo]
    split
    · exact Nat.le_refl _
    · exact Nat.le_succ_of_le (leastTo_le Fs k)
theorem leastTo_lt {Fs : List FC} {k : Nat} (h : 0 < k) : leastTo Fs k < k := by
  obtain ⟨j, rfl⟩ : ∃ j, k = j + 1 := ⟨k - 1, by omega⟩
  exact Nat.lt_succ_of_le (leastTo_le Fs j)
theorem leastTo_first (Fs : List FC) : leastTo Fs 1 = 0 := by simp [leastTo]
theorem lessC_irr (F : FC) : lessC F F = false := lexB_irr _
theorem lessC_trans {F G H : FC} (h : lessC F G = true) (h' : lessC G H = true) : lessC F H = true := lexB_trans _ _ _ h h'
theorem lessC_not {F G H : FC} (h : lessC F G = false) (h' : lessC G H = false) : lessC F H = false := by
  cases e : lessC F H
  · rfl
  · rcases lexB_tri (rankC F) (rankC G) with e1 | e1 | e1
    · unfold lessC at e h'
      rw [e1, h'] at e
      cases e
    · unfold lessC at h; rw [h] at e1; cases e1
    · have := lessC_trans (F := G) (G := F) (H := H) e1 e
      rw [this] at h'; cases h'
theorem leastTo_min (Fs : List FC) : ∀ k j, j < k → lessC (Fs.getD j zeroF) (Fs.getD (leastTo Fs k) zeroF) = false
  | 0, j, h => absurd h (by omega)
  | k + 1, j, h => by
    rw [leastTo]
    by_cases hjk : j < k
    · have h1 := leastTo_min Fs k j hjk
      split
      · rename_i h2
        cases e : lessC (Fs.getD j zeroF) (Fs.getD k zeroF)
        · rfl
        · rw [lessC_trans e h2] at h1; cases h1
      · exact h1
    · obtain rfl : j = k := by omega
      split
      · exact lessC_irr _
      · rename_i h2
        simpa using h2
def hasN (N : NC) : Bool := decide (N.k.s ≠ 3) && decide (N.q ≠ [])
def atN (N : NC) : Nat := leastTo N.q N.q.length
def nextF (N : NC) : FC := if hasN N then N.q.getD (atN N) zeroF else zeroF
def sendE (N : NC) (F : FC) : Int := if rightC F then if N.k.s = 3 then 3 else if 16 ≤ N.q.length then 2 else 0 else 90
def sendN (N : NC) (F : FC) : NC := if sendE N F = 0 then { N with q := N.q ++ [F] } else N
def sentN (N : NC) (ok : Bool) : NC := if hasN N then (if ok then { N with q := N.q.eraseIdx (atN N), k := stepV N.k 1 } else { N with k := stepV N.k 3 }) else N
def gotN (N : NC) (F : FC) : List FC := if decide (N.g.length < 64) && anyV N.l F.x F.i then N.g ++ [F] else N.g
def heardN (N : NC) (F : FC) (ok long : Bool) : NC :=
  if N.k.s = 3 then N else if ok then { N with g := gotN N F, k := stepV N.k 2 } else { N with k := stepV N.k (if long then 5 else 4) }
def quietN (N : NC) : NC := { N with k := stepV N.k 6 }
def takeB (N : NC) : Bool := decide (N.g ≠ [])
def takeF (N : NC) : FC := N.g.getD 0 zeroF
def takeN (N : NC) : NC := { N with g := N.g.eraseIdx 0 }
def rightLk (l : List FL) : Bool := rightLs 8 l
def newE (l : List FL) : Int := if rightLk l then 0 else 1
def newN (l : List FL) : NC := if rightLk l then ⟨[], l, newV, []⟩ else zeroN
def rightN (N : NC) : Bool := rightFs 16 N.q && rightFs 64 N.g && rightLs 8 N.l && rightV_NCn N.k
def sameN (a b : NC) : Bool := decide (a = b)
structure OkN (N : NC) : Prop where
  q : ∀ F ∈ N.q, rightC F = true
  qm : N.q.length ≤ 16
  g : ∀ F ∈ N.g, rightC F = true
  gm : N.g.length ≤ 64
  l : ∀ f ∈ N.l, refRightP f = true
  lm : N.l.length ≤ 8
  k : OkC N.k
theorem rightFs_iff {m : Nat} {Fs : List FC} : rightFs m Fs = true ↔ Fs.length ≤ m ∧ ∀ F ∈ Fs, rightC F = true := by
  unfold rightFs; rw [Bool.and_eq_true, decide_eq_true_eq, List.all_eq_true]
theorem rightLs_iff {m : Nat} {ls : List FL} : rightLs m ls = true ↔ ls.length ≤ m ∧ ∀ f ∈ ls, refRightP f = true := by
  unfold rightLs; rw [Bool.and_eq_true, decide_eq_true_eq, List.all_eq_true]
theorem rightN_iff {N : NC} : rightN N = true ↔ OkN N := by
  unfold rightN rightV_NCn
  rw [Bool.and_eq_true, Bool.and_eq_true, Bool.and_eq_true, rightFs_iff, rightFs_iff, rightLs_iff, decide_eq_true_eq]
  exact ⟨fun ⟨⟨⟨⟨h1, h2⟩, h3, h4⟩, h5, h6⟩, h7⟩ => ⟨h2, h1, h4, h3, h6, h5, h7⟩, fun h => ⟨⟨⟨⟨h.qm, h.q⟩, h.gm, h.g⟩, h.lm, h.l⟩, h.k⟩⟩
theorem OkN.okq {N : NC} (h : OkN N) : ∀ F ∈ N.q, okC F := fun F hF => okC_of (h.q F hF)
theorem ok_sent {N : NC} (h : OkN N) (ok : Bool) : OkN (sentN N ok) := by
  unfold sentN
  split
  · split
    · exact ⟨fun F hF => h.q F (List.mem_of_mem_eraseIdx hF), by have := List.length_eraseIdx_le N.q (atN N); have := h.qm; dsimp only; omega, h.g, h.gm, h.l, h.lm, ok_step _ _ h.k⟩
    · exact ⟨h.q, h.qm, h.g, h.gm, h.l, h.lm, ok_step _ _ h.k⟩
  · exact h
theorem ok_quiet {N : NC} (h : OkN N) : OkN (quietN N) := ⟨h.q, h.qm, h.g, h.gm, h.l, h.lm, ok_step _ _ h.k⟩
theorem ok_heard {N : NC} (h : OkN N) {F : FC} (hF : rightC F = true) (ok long : Bool) : OkN (heardN N F ok long) := by
  unfold heardN
  split
  · exact h
  · split
    · refine ⟨h.q, h.qm, ?_, ?_, h.l, h.lm, ok_step _ _ h.k⟩
      · dsimp only; unfold gotN
        split
        · intro G hG
          rcases List.mem_append.1 hG with h' | h'
          · exact h.g G h'
          · simp at h'; subst h'; exact hF
        · exact h.g
      · dsimp only; unfold gotN
        split
        · rename_i h1
          simp only [Bool.and_eq_true, decide_eq_true_eq] at h1
          simp; omega
        · exact h.gm
    · exact ⟨h.q, h.qm, h.g, h.gm, h.l, h.lm, ok_step _ _ h.k⟩
theorem ok_new_n {l : List FL} (h : rightLk l = true) : OkN ⟨[], l, newV, []⟩ := by
  have := rightLs_iff.1 h
  exact ⟨by simp, by simp, by simp, by simp, this.2, this.1, ok_new⟩
theorem nextF_mem {N : NC} (h : hasN N = true) : atN N < N.q.length ∧ N.q[atN N]? = some (nextF N) := by
  unfold hasN at h
  simp only [Bool.and_eq_true, decide_eq_true_eq] at h
  have h1 : 0 < N.q.length := List.length_pos_iff.2 h.2
  have h2 := leastTo_lt (Fs := N.q) h1
  refine ⟨h2, ?_⟩
  unfold nextF
  rw [if_pos (by unfold hasN; simp [h])]
  have h3 : atN N < N.q.length := h2
  rw [List.getElem?_eq_getElem h3]
  simp [List.getD, List.getElem?_eq_getElem h3]
end Go.Proofs.YtcifjccojmfpaaaGreat

namespace Go.Proofs.YtcifjccojmfpaaaGreat
open Go.RowKit
set_option linter.unusedVariables false
set_option linter.unusedSimpArgs false
abbrev nd (Ns : List NC) (i : Nat) : NC := Ns.getD i zeroN
theorem nd_get {Ns : List NC} {i : Nat} (h : i < Ns.length) : Ns[i]? = some (nd Ns i) := by simp [nd, List.getD, List.getElem?_eq_getElem h]
theorem nd_mem {Ns : List NC} {i : Nat} (h : i < Ns.length) : nd Ns i ∈ Ns := List.mem_of_getElem? (nd_get h)
def winTo (Ns : List NC) : Nat → Int
  | 0 => -1
  | k + 1 => if hasN (nd Ns k) && (decide (winTo Ns k < 0) || lessC (nextF (nd Ns k)) (nextF (nd Ns (winTo Ns k).toNat))) then (k : Int) else winTo Ns k
def winN (Ns : List NC) : Int := winTo Ns Ns.length
def winF (Ns : List NC) : FC := nextF (nd Ns (winN Ns).toNat)
def bestTo (Ns : List NC) (k : Nat) : FC := if winTo Ns k < 0 then zeroF else nextF (nd Ns (winTo Ns k).toNat)
def alongN (Ns : List NC) (i : Nat) : Bool := decide (0 ≤ winN Ns) && (hasN (nd Ns i) && (!lessC (winF Ns) (nextF (nd Ns i)) && !lessC (nextF (nd Ns i)) (winF Ns)))
def inH (H : List Int) (i : Nat) : Bool := decide ((i : Int) ∈ H)
def hitAt (Ns : List NC) (H : List Int) (i : Nat) : Bool :=
  if alongN Ns i then (!sameF (nextF (nd Ns i)) (winF Ns) || inH H i) else (inH H i && decide ((nd Ns i).k.s = 1))
def hitTo (Ns : List NC) (H : List Int) : Nat → Bool
  | 0 => false
  | k + 1 => hitTo Ns H k || hitAt Ns H k
def hitN (Ns : List NC) (H : List Int) : Bool := hitTo Ns H Ns.length
def ackAt (Ns : List NC) (i : Nat) : Bool := !alongN Ns i && decide ((nd Ns i).k.s ≠ 3)
def ackTo (Ns : List NC) : Nat → Bool
  | 0 => false
  | k + 1 => ackTo Ns k || ackAt Ns k
def ackN (Ns : List NC) : Bool := ackTo Ns Ns.length
def okS (Ns : List NC) (H : List Int) : Bool := !hitN Ns H && ackN Ns
def afterN (Ns : List NC) (H : List Int) (i : Nat) : NC :=
  if alongN Ns i then (if okS Ns H || hitN Ns H || decide ((nd Ns i).k.s ≠ 2) then sentN (nd Ns i) (okS Ns H) else nd Ns i)
  else heardN (nd Ns i) (winF Ns) (okS Ns H && !inH H i) (!okS Ns H && inH H i && decide ((nd Ns i).k.s = 1))
def slotTo (Ns : List NC) (H : List Int) : Nat → List NC
  | 0 => []
  | k + 1 => slotTo Ns H k ++ [if winN Ns < 0 then quietN (nd Ns k) else afterN Ns H k]
def slotN (Ns : List NC) (H : List Int) : List NC := slotTo Ns H Ns.length
structure TC where
  w : Int
  f : FC
  ok : Bool
  b : Int
def toldN (len : FC → Int) (Ns : List NC) (H : List Int) : TC :=
  if winN Ns < 0 then ⟨-1, zeroF, false, 11⟩ else ⟨winN Ns, winF Ns, okS Ns H, len (winF Ns) + (if okS Ns H then 3 else 23)⟩
theorem slotTo_len (Ns : List NC) (H : List Int) (k : Nat) : (slotTo Ns H k).length = k := by
  induction k with
  | zero => rfl
  | succ k ih => simp [slotTo, ih]
theorem slotN_len (Ns : List NC) (H : List Int) : (slotN Ns H).length = Ns.length := slotTo_len _ _ _
theorem slotTo_at (Ns : List NC) (H : List Int) : ∀ (k i : Nat), i < k → nd (slotTo Ns H k) i = if winN Ns < 0 then quietN (nd Ns i) else afterN Ns H i
  | 0, i, h => by omega
  | k + 1, i, h => by
    have hl := slotTo_len Ns H k
    by_cases e : i < k
    · have ih := slotTo_at Ns H k i e
      simp only [nd, slotTo, List.getD] at ih ⊢
      rw [List.getElem?_append_left (by omega)]; exact ih
    · obtain rfl : i = k := by omega
      simp only [nd, slotTo, List.getD]
      rw [List.getElem?_append_right (by omega), hl]
      simp
theorem slotN_at {Ns : List NC} (H : List Int) {i : Nat} (h : i < Ns.length) : nd (slotN Ns H) i = if winN Ns < 0 then quietN (nd Ns i) else afterN Ns H i := slotTo_at _ _ _ _ h
theorem winTo_spec (Ns : List NC) : ∀ k, (winTo Ns k = -1 ∧ ∀ j, j < k → hasN (nd Ns j) = false) ∨
    ∃ a : Nat, a < k ∧ winTo Ns k = a ∧ hasN (nd Ns a) = true ∧ (∀ j, j < k → hasN (nd Ns j) = true → lessC (nextF (nd Ns j)) (nextF (nd Ns a)) = false) ∧
      (∀ j, j < a → hasN (nd Ns j) = true → lessC (nextF (nd Ns a)) (nextF (nd Ns j)) = true)
  | 0 => .inl ⟨rfl, fun j h => by omega⟩
  | k + 1 => by
    rcases winTo_spec Ns k with ⟨h1, h2⟩ | ⟨a, ha, h1, h2, h3, h4⟩
    · by_cases hk : hasN (nd Ns k) = true
      · refine .inr ⟨k, by omega, ?_, hk, fun j hj hh => ?_, fun j hj hh => ?_⟩
        · rw [winTo, hk, h1]; rfl
        · by_cases e : j = k
          · subst e; exact lessC_irr _
          · rw [h2 j (by omega)] at hh; cases hh
        · rw [h2 j hj] at hh; cases hh
      · have hk' : hasN (nd Ns k) = false := by simpa using hk
        refine .inl ⟨by rw [winTo, hk']; exact h1, fun j hj => ?_⟩
        by_cases e : j = k
        · subst e; exact hk'
        · exact h2 j (by omega)
    · by_cases hk : hasN (nd Ns k) = true
      · cases hl : lessC (nextF (nd Ns k)) (nextF (nd Ns a)) with
        | true =>
          refine .inr ⟨k, by omega, ?_, hk, fun j hj hh => ?_, fun j hj hh => ?_⟩
          · rw [winTo, hk, h1, Int.toNat_natCast, hl]; simp
          · by_cases e : j = k
            · subst e; exact lessC_irr _
            · have := h3 j (by omega) hh
              by_cases e2 : lessC (nextF (nd Ns j)) (nextF (nd Ns k)) = true
              · exact absurd (lessC_trans e2 hl) (by rw [this]; simp)
              · simpa using e2
          · have := h3 j (by omega) hh
            -- not less than the old best, which the new one is less than
            by_cases e2 : lessC (nextF (nd Ns k)) (nextF (nd Ns j)) = true
            · exact e2
            · have e3 : lessC (nextF (nd Ns k)) (nextF (nd Ns j)) = false := by simpa using e2
              exact absurd (lessC_not e3 this) (by rw [hl]; simp)
        | false =>
          refine .inr ⟨a, by omega, ?_, h2, fun j hj hh => ?_, h4⟩
          · rw [winTo, hk, h1, Int.toNat_natCast, hl]
            simp
            omega
          · by_cases e : j = k
            · subst e; exact hl
            · exact h3 j (by omega) hh
      · have hk' : hasN (nd Ns k) = false := by simpa using hk
        refine .inr ⟨a, by omega, by rw [winTo, hk']; exact h1, h2, fun j hj hh => ?_, h4⟩
        by_cases e : j = k
        · subst e; rw [hk'] at hh; cases hh
        · exact h3 j (by omega) hh
theorem winTo_lt (Ns : List NC) (k : Nat) : winTo Ns k < k := by
  rcases winTo_spec Ns k with ⟨h1, _⟩ | ⟨a, ha, h1, _⟩ <;> omega
theorem winTo_ge (Ns : List NC) (k : Nat) : -1 ≤ winTo Ns k := by
  rcases winTo_spec Ns k with ⟨h1, _⟩ | ⟨a, ha, h1, _⟩ <;> omega
theorem winN_cases (Ns : List NC) : (winN Ns = -1 ∧ ∀ j, j < Ns.length → hasN (nd Ns j) = false) ∨
    ∃ a : Nat, a < Ns.length ∧ winN Ns = a ∧ hasN (nd Ns a) = true ∧ winF Ns = nextF (nd Ns a) ∧ (∀ j, j < Ns.length → hasN (nd Ns j) = true → lessC (nextF (nd Ns j)) (nextF (nd Ns a)) = false) := by
  rcases winTo_spec Ns Ns.length with ⟨h1, h2⟩ | ⟨a, ha, h1, h2, h3, _⟩
  · exact .inl ⟨h1, h2⟩
  · refine .inr ⟨a, ha, h1, h2, ?_, h3⟩
    unfold winF winN
    rw [h1, Int.toNat_natCast]
structure OkNs (Ns : List NC) : Prop where
  all : ∀ N ∈ Ns, OkN N
theorem OkNs.at_ {Ns : List NC} (h : OkNs Ns) {i : Nat} (hi : i < Ns.length) : OkN (nd Ns i) := h.all _ (nd_mem hi)
theorem next_right {N : NC} (h : OkN N) (hh : hasN N = true) : rightC (nextF N) = true := h.q _ (List.mem_of_getElem? (nextF_mem hh).2)
theorem winF_right {Ns : List NC} (h : OkNs Ns) (hw : 0 ≤ winN Ns) : rightC (winF Ns) = true := by
  rcases winN_cases Ns with ⟨h1, _⟩ | ⟨a, ha, h1, h2, h3, _⟩
  · omega
  · rw [h3]; exact next_right (h.at_ ha) h2
theorem ok_after {Ns : List NC} (h : OkNs Ns) (H : List Int) (hw : 0 ≤ winN Ns) {i : Nat} (hi : i < Ns.length) : OkN (afterN Ns H i) := by
  unfold afterN
  split
  · split
    · exact ok_sent (h.at_ hi) _
    · exact h.at_ hi
  · exact ok_heard (h.at_ hi) (winF_right h hw) _ _
theorem ok_slot {Ns : List NC} (h : OkNs Ns) (H : List Int) : OkNs (slotN Ns H) := by
  refine ⟨fun N hN => ?_⟩
  obtain ⟨i, hi, e⟩ := List.getElem_of_mem hN
  have hi2 : i < Ns.length := by rw [slotN_len] at hi; exact hi
  have e2 : nd (slotN Ns H) i = N := by simp [nd, List.getD, List.getElem?_eq_getElem hi, e]
  rw [← e2, slotN_at H hi2]
  split
  · exact ok_quiet (h.at_ hi2)
  · exact ok_after h H (by have := winTo_ge Ns Ns.length; unfold winN at *; omega) hi2
theorem less6_eq {F G : FC} (hF : okC F) (hG : okC G) : lessB (rankC F) (rankC G) = lessC F G := by
  have h := rank_cmp (f := ⟨F.x, F.i, F.r, 0, none, 0, 0⟩) (g := ⟨G.x, G.i, G.r, 0, none, 0, 0⟩) hF hG
  have e1 : rankF ⟨F.x, F.i, F.r, 0, none, 0, 0⟩ = rankC F := rfl
  have e2 : rankF ⟨G.x, G.i, G.r, 0, none, 0, 0⟩ = rankC G := rfl
  rw [e1, e2] at h
  unfold lessC
  rcases h with h | h | h
  · rw [h, lessB_self, lexB_irr]
  · rw [lessB_yes h]
    obtain ⟨k, h1, h2, h3⟩ := h
    rw [lexB_at k _ _ 0 1 h1 h2 h3 (by decide)]; rfl
  · rw [lessB_no h]
    obtain ⟨k, h1, h2, h3⟩ := h
    rw [lexB_at k _ _ 1 0 h1.symm h3 h2 (by decide)]; rfl
end Go.Proofs.YtcifjccojmfpaaaGreat

namespace Go.Proofs.YtcifjccojmfpaaaGreat
open Go.RowKit
theorem wpAnyH_skip {P : Program} {md : Region.Mode} {ops : Array Oper} {Q : Exit → Act → World → Prop} {S : World → Prop} {i : Nat} {o : Oper} {fuel : Nat} {listed : Array Bool} {a : Act} {w : World} (d : Nat) (hi : ops[i]? = some o) (hd : o.dst = some d) (hr : Region.ready md ops listed = [i])
    (hw : Region.wanted o (yielded ops a.tmps) = false) (hS : S w) (h : wpAnyH P md ops Q S fuel (listed.setIfInBounds i true) (a.put (some d) undef) w) : wpAnyH P md ops Q S (fuel + 1) listed a w :=
  wpAnyH_all hr (by simp) fun j hj => by
    obtain rfl := List.mem_singleton.1 hj
    exact YieldsIf.wpOp hi (Or.inr ⟨hw, rfl⟩) hS ⟨hS, by rw [hd]; exact h⟩
theorem wpAnyH_take' {P : Program} {md : Region.Mode} {ops : Array Oper} {Q : Exit → Act → World → Prop} {S : World → Prop} {i : Nat} {oi : Oper} {v : Value} {fuel : Nat} {listed : Array Bool} {a : Act} {w : World} (d : Nat) (hi : ops[i]? = some oi) (hd : oi.dst = some d)
    (hs : Region.noSelect ops = true) (hf : Region.free md ops listed i = true) (hr : (Region.ready md ops listed).contains i = true)
    (hQ : ∀ c a w, Q (.panic c) (a.put oi.dst v) w → Q (.panic c) a w) (hy : YieldsIf P ops S oi v a) (hS : S w)
    (h : wpAnyH P md ops Q S fuel (listed.setIfInBounds i true) (a.put (some d) v) w) : wpAnyH P md ops Q S (fuel + 1) listed a w :=
  wpAnyH_take hi hs hf hr hQ hy hS (by rw [hd]; exact h)
end Go.Proofs.YtcifjccojmfpaaaGreat

namespace Go.Proofs.YtcifjccojmfpaaaGreat
open Go.RowKit
set_option linter.unusedVariables false
set_option linter.unusedSimpArgs false
theorem neq_at {α : Type} [DecidableEq α] {a b : List α} {k : Nat} {x y : α} (h1 : a[k]? = some x) (h2 : b[k]? = some y) (h : x ≠ y) : decide (a = b) = false := by
  simp only [decide_eq_false_iff_not]
  intro e
  subst e
  exact h (Option.some.inj (h1.symm.trans h2))
theorem eq_all {α : Type} {a b : List α} (hl : a.length = b.length) (h : ∀ j, j < a.length → a[j]? = b[j]?) : a = b := by
  apply List.ext_getElem?
  intro i
  by_cases hi : i < a.length
  · exact h i hi
  · rw [List.getElem?_eq_none (by omega), List.getElem?_eq_none (by omega)]
theorem sameAll_c {w : World} {P P' : Nat → Prop} {A A' : Option Addr} {n c n' c' : Nat} {Fs Gs : List FC} (h : FSl w P A n c Fs) (h' : FSl w P' A' n' c' Gs) (q : Bool) (hq : sameFs Fs Gs = q) :
    Calls Tryz.prog 24 #[.slice A n c, .slice A' n' c'] w fun e w' => e = .returned (.bool q) ∧ Below w.heap.size w w' := by
  have hbig := h.big
  have hbig' := h'.big
  unfold maxLen at hbig hbig'
  unfold sameFs at hq
  have Hq := Lib.hid hq
  clear hq
  by_cases hlen : n = n'
  · subst hlen
    have d0 : ((n : Int) != (n : Int)) = false := by simp
    have d00 : (n != n) = false := by simp
    go_enter Tryz.func24, Tryz.ntmps24
    go_wp2_with fail
    go_loopw [5] (fun i wr => ∃ k : Nat, k ≤ n ∧ i = .int .i64 k ∧ Hid (∀ j, j < k → Fs[j]? = Gs[j]?) ∧ Below w.heap.size w wr) (fun i _ => n - (intOf i).toNat)
    case atStart => exact ⟨0, Nat.zero_le _, rfl, Lib.hid (fun j hj => absurd hj (by omega)), Below.refl _ _⟩
    case round =>
      obtain ⟨k, hk, rfl, Hr, hB⟩ := hrel
      by_cases hlt : k < n
      · obtain ⟨ad, f, F, rfl, hF, ⟨a0, a1, a2, a3, a4⟩, hfi⟩ := (h.to hB).at_ (k := k) hlt
        obtain ⟨ad', g, G, rfl, hG, ⟨b0, b1, b2, b3, b4⟩, hgi⟩ := (h'.to hB).at_ (k := k) hlt
        have HF := Lib.hid hF
        have HG := Lib.hid hG
        clear hF hG
        obtain ⟨r, hr⟩ : ∃ r, sameF F G = r := ⟨_, rfl⟩
        have HR := Lib.hid hr
        clear hr
        cases r
        · go_wp2_with fail
          go_region_with (first
            | (go_at_call 27; refine (refFrSame_c (hfi.to (below_drew1 _)) (hgi.to (below_drew1 _)) false HR.out).mono ?_; rintro e w2 ⟨rfl, hB2⟩)
            | fail)
          all_goals
            go_wp2_with fail
            go_ret
            exact ⟨ret_bool (by rw [← Hq.out]; exact (neq_at HF.out HG.out (by have := HR.out; unfold sameF at this; simpa using this)).symm), below_then hB (below_then (below_drew1 _) hB2)⟩
        · go_wp2_with fail
          go_region_with (first
            | (go_at_call 27; refine (refFrSame_c (hfi.to (below_drew1 _)) (hgi.to (below_drew1 _)) true HR.out).mono ?_; rintro e w2 ⟨rfl, hB2⟩)
            | fail)
          all_goals
            go_wp2_with fail
            go_round
            case measure => simp [intOf]; omega
            refine ⟨k + 1, by omega, by go_num, Lib.hid (fun j hj => ?_), below_then hB (below_then (below_drew1 _) hB2)⟩
            by_cases hjk : j < k
            · exact Hr.out j hjk
            · obtain rfl : j = k := by omega
              rw [HF.out, HG.out]
              have := HR.out
              unfold sameF at this
              simp only [decide_eq_true_eq] at this
              rw [this]
      · obtain rfl : k = n := by omega
        have hq2 := Hq.out
        have he := eq_all (h.len.trans h'.len.symm) (fun j hj => Hr.out j (by rw [h.len] at hj; exact hj))
        rw [he] at hq2
        simp only [decide_true] at hq2
        subst hq2
        go_wp2_with fail
        go_ret
        exact ⟨rfl, hB⟩
  · have d0 : ((n : Int) != (n' : Int)) = true := by simp; omega
    have d00 : (n != n') = true := by simp; omega
    have hq2 : false = q := by
      rw [← Hq.out]
      symm
      simp only [decide_eq_false_iff_not]
      intro e
      subst e
      exact hlen (h.len.symm.trans h'.len)
    subst hq2
    go_enter Tryz.func24, Tryz.ntmps24
    go_wp2_with fail
    go_ret
    exact ⟨rfl, Below.refl _ _⟩
end Go.Proofs.YtcifjccojmfpaaaGreat

namespace Go.Proofs.YtcifjccojmfpaaaGreat
open Go.RowKit
set_option linter.unusedVariables false
set_option linter.unusedSimpArgs false
theorem fsl_getD {w : World} {P : Nat → Prop} {A : Option Addr} {n c : Nat} {Fs : List FC} (h : FSl w P A n c Fs) {k : Nat} (hk : k < n) : ∃ ad f, A = some ad ∧ FAt w (ad.add (k * 5)) f ∧ FIs w P f (Fs.getD k zeroF) ∧ Fs.getD k zeroF ∈ Fs := by
  obtain ⟨ad, f, F, e, hF, ha, hf⟩ := h.at_ hk
  have : Fs.getD k zeroF = F := by simp [List.getD, hF]
  rw [this]
  exact ⟨ad, f, e, ha, hf, List.mem_of_getElem? hF⟩
theorem next1_c {w : World} {P P' : Nat → Prop} {f g : FV} {F G : FC} (hf : FIs w P f F) (hg : FIs w P' g G) (hF : okC F) (hG : okC G) (q : Bool) (hq : lessC F G = q) :
    Calls Tryz.prog 109 #[f.v, g.v] w fun e w' => ∃ z : Int, e = .returned (.int .i64 z) ∧ decide (z < 0) = q ∧ Below w.heap.size w w' := by
  obtain ⟨n, hn⟩ : ∃ n, (rankC F).length = n := ⟨_, rfl⟩
  obtain ⟨m, hm⟩ : ∃ m, (rankC G).length = m := ⟨_, rfl⟩
  have hn2 := rankC_le F
  have hm2 := rankC_le G
  rw [hn] at hn2
  rw [hm] at hm2
  have Hn := Lib.hid hn
  have Hm := Lib.hid hm
  have Hq := Lib.hid hq
  clear hn hm hq
  obtain ⟨w0, hw0⟩ : ∃ w0, ((w.alloc (.cells #[.bool f.x, .int .i64 f.i, .bool f.r, .int .i64 f.n, .slice f.a f.m f.c] 34)).alloc (.cells #[.bool g.x, .int .i64 g.i, .bool g.r, .int .i64 g.n, .slice g.a g.m g.c] 34)) = w0 := ⟨_, rfl⟩
  have hT0 : Below w.heap.size w w0 := by rw [← hw0]; exact below_then (below_alloc1 _ _) (below_alloc1 _ _)
  have hf0 : w0.heap[w.heap.size]? = some (.cells #[.bool f.x, .int .i64 f.i, .bool f.r, .int .i64 f.n, .slice f.a f.m f.c] 34) := by rw [← hw0]; exact block_below (below_alloc1 _ _) (World.alloc_heap_new _ _)
  have hg0 : w0.heap[(w.heap.size + 1)]? = some (.cells #[.bool g.x, .int .i64 g.i, .bool g.r, .int .i64 g.n, .slice g.a g.m g.c] 34) := by rw [← hw0]; exact alloc_at _ _ (by simp)
  have hs0 : w0.heap.size = w.heap.size + 2 := by rw [← hw0]; simp
  have Hs0 := Lib.hid hs0
  clear hs0
  obtain ⟨fc0, fc1, fc2, fc3, fc4⟩ := cells5' hf0
  obtain ⟨gc0, gc1, gc2, gc3, gc4⟩ := cells5' hg0
  go_enter Tryz.func109, Tryz.ntmps109
  go_wp2_with fail
  clear fc0 fc1 fc2 fc3 fc4 gc0 gc1 gc2 gc3 gc4
  clear hw0
  have hx0 := hf.to hT0
  have hy0 := hg.to hT0
  refine wp_region_held_drew (S := fun W => (W.cell? ⟨w.heap.size, 0, none⟩ = some (.bool f.x) ∧ W.cell? ⟨w.heap.size, 1, none⟩ = some (.int .i64 f.i) ∧ W.cell? ⟨w.heap.size, 2, none⟩ = some (.bool f.r) ∧ W.cell? ⟨w.heap.size, 3, none⟩ = some (.int .i64 f.n) ∧ W.cell? ⟨w.heap.size, 4, none⟩ = some (.slice f.a f.m f.c)) ∧ (W.cell? ⟨(w.heap.size + 1), 0, none⟩ = some (.bool g.x) ∧ W.cell? ⟨(w.heap.size + 1), 1, none⟩ = some (.int .i64 g.i) ∧ W.cell? ⟨(w.heap.size + 1), 2, none⟩ = some (.bool g.r) ∧ W.cell? ⟨(w.heap.size + 1), 3, none⟩ = some (.int .i64 g.n) ∧ W.cell? ⟨(w.heap.size + 1), 4, none⟩ = some (.slice g.a g.m g.c))) (by kernel_rfl) (by exact ⟨cells5' (block_below (below_drew1 _) hf0), cells5' (block_below (below_drew1 _) hg0)⟩) (fun hHeld_ => ?_)
  refine wpAnyH_take' (i := 0) (v := ?v0_t1) 5 rfl rfl (by kernel_rfl) (by kernel_rfl) (by kernel_rfl) (fun _ _ _ h => h) (Or.inl ⟨by kernel_rfl, ?hy0_t1⟩) (by assumption) ?rest0_t1
  case hy0_t1 => (intro W_ hS_; (try dsimp only at hS_); go_simp; (try (with_reducible rfl)))
  try simp only [Act.put, siA, scZ, scS]
  refine wpAnyH_take' (i := 2) (v := ?v2_t1) 7 rfl rfl (by kernel_rfl) (by kernel_rfl) (by kernel_rfl) (fun _ _ _ h => h) (Or.inl ⟨by kernel_rfl, ?hy2_t1⟩) (by assumption) ?rest2_t1
  case hy2_t1 => (intro W_ hS_; (try dsimp only at hS_); go_simp; (try (with_reducible rfl)))
  try simp only [Act.put, siA, scZ, scS]
  refine wpAnyH_ready (rs := [1]) (by kernel_rfl) (by simp) ?_
  refine AllReadyH.cons rfl (fun K_ hK_ => ?_) AllReadyH.nil
  go_simp
  refine (rank_c (FIs.to hx0 (below_drew1 _)) hF n Hn.out).mono ?_; rintro e wr1 ⟨A1, c1, rfl, hr1_, hc1, hBr1⟩
  go_wp2_with fail
  refine hK_.out _ _ (by exact ⟨cells5' (block_below hBr1 (block_below (below_drew1 _) hf0)), cells5' (block_below hBr1 (block_below (below_drew1 _) hg0))⟩) (fun hHeld_1 => ?_)
  clear hK_
  try simp only [Act.put, siA, scZ, scS]
  refine wpAnyH_ready (rs := [3]) (by kernel_rfl) (by simp) ?_
  refine AllReadyH.cons rfl (fun K_ hK_ => ?_) AllReadyH.nil
  go_simp
  refine (rank_c (FIs.to (FIs.to hy0 (below_drew1 _)) hBr1) hG m Hm.out).mono ?_; rintro e wr3 ⟨A2, c2, rfl, hr2_, hc2, hBr3⟩
  go_wp2_with fail
  refine hK_.out _ _ (by exact ⟨cells5' (block_below hBr3 (block_below hBr1 (block_below (below_drew1 _) hf0))), cells5' (block_below hBr3 (block_below hBr1 (block_below (below_drew1 _) hg0)))⟩) (fun hHeld_3 => ?_)
  clear hK_
  try simp only [Act.put, siA, scZ, scS]
  refine wpAnyH_ready (rs := [4]) (by kernel_rfl) (by simp) ?_
  refine AllReadyH.cons rfl (fun K_ hK_ => ?_) AllReadyH.nil
  go_simp
  refine (compare_any (rankC F) (rankC G) n m Hn.out Hm.out A1 A2 c1 c2 _ (Row.to hr1_ hBr3) hr2_ (by omega) (by omega) q Hq.out).mono ?_; rintro e wr4 ⟨z, rfl, hz, hBr4⟩
  go_wp2_with fail
  refine hK_.out _ _ (by exact ⟨cells5' (block_below hBr4 (block_below hBr3 (block_below hBr1 (block_below (below_drew1 _) hf0)))), cells5' (block_below hBr4 (block_below hBr3 (block_below hBr1 (block_below (below_drew1 _) hg0))))⟩) (fun hHeld_4 => ?_)
  clear hK_
  try simp only [Act.put, siA, scZ, scS]
  refine wpAnyH_take' (i := 5) (v := ?v5_t1) 4 rfl rfl (by kernel_rfl) (by kernel_rfl) (by kernel_rfl) (fun _ _ _ h => h) (Or.inl ⟨by kernel_rfl, ?hy5_t1⟩) (by assumption) ?rest5_t1
  case hy5_t1 => (intro W_ hS_; (try dsimp only at hS_); go_simp; (try (with_reducible rfl)))
  try simp only [Act.put, siA, scZ, scS]
  refine wpAnyH_done (by kernel_rfl) ?_ _
  go_wp2_with fail
  go_ret
  exact ⟨z, rfl, hz, below_then hT0 (below_then (below_then (below_then (below_drew1 _) hBr1) hBr3) hBr4)⟩
theorem firstLeast_c {w : World} {P : Nat → Prop} {A : Option Addr} {n c : Nat} {Fs : List FC} (h : FSl w P A n c Fs) (hok : ∀ F ∈ Fs, okC F) (h0 : 0 < n) (hm : n ≤ 1000) :
    Calls Tryz.prog 111 #[.slice A n c, fnv 109] w fun e w' => e = .returned (.int .i64 (leastTo Fs n : Nat)) ∧ Below w.heap.size w w' := by
  have Hok := Lib.hid hok
  clear hok
  go_enter Tryz.func111, Tryz.ntmps111
  go_wp2_with fail
  go_loopw [5, 9] (fun a i wr => ∃ k j : Nat, k ≤ n ∧ j < n ∧ i = .int .i64 k ∧ a = .int .i64 j ∧ Hid (leastTo Fs k = j) ∧ Below w.heap.size w wr) (fun _ i _ => n - (intOf i).toNat)
  case atStart => exact ⟨0, 0, Nat.zero_le _, h0, rfl, rfl, Lib.hid rfl, Below.refl _ _⟩
  case round =>
    obtain ⟨k, j, hk, hj, rfl, rfl, Hj, hB⟩ := hrel
    by_cases hlt : k < n
    · obtain ⟨ad, f, rfl, ⟨a0, a1, a2, a3, a4⟩, hf, hF⟩ := fsl_getD (h.to hB) hlt
      obtain ⟨ad', g, hae, ⟨b0, b1, b2, b3, b4⟩, hg, hG⟩ := fsl_getD (h.to hB) hj
      obtain rfl := Option.some.inj hae
      clear hae
      have HF := Lib.hid (Hok.out _ hF)
      have HG := Lib.hid (Hok.out _ hG)
      clear hF hG
      obtain ⟨q, hq⟩ : ∃ q, lessC (Fs.getD k zeroF) (Fs.getD j zeroF) = q := ⟨_, rfl⟩
      have Hq := Lib.hid hq
      clear hq
      have Hnx := Lib.hid (show leastTo Fs (k + 1) = if q then k else j by rw [leastTo, Hj.out, Hq.out])
      have i1 : (k : Int) < (n : Int) := by omega
      have i2 : (j : Int) < (n : Int) := by omega
      cases q
      · go_wp2_with fail
        go_region_with (first
          | (go_at_call 109; refine (next1_c (hf.to (below_drew1 _)) (hg.to (below_drew1 _)) HF.out HG.out false Hq.out).mono ?_; rintro e w2 ⟨z, rfl, hz, hB2⟩)
          | fail)
        all_goals
          go_wp2_with fail
          go_round
          case measure => simp [intOf]; omega
          exact ⟨k + 1, j, by omega, hj, by go_num, rfl, Lib.hid (by rw [Hnx.out]; rfl), below_then hB (below_then (below_drew1 _) hB2)⟩
      · go_wp2_with fail
        go_region_with (first
          | (go_at_call 109; refine (next1_c (hf.to (below_drew1 _)) (hg.to (below_drew1 _)) HF.out HG.out true Hq.out).mono ?_; rintro e w2 ⟨z, rfl, hz, hB2⟩)
          | fail)
        all_goals
          go_wp2_with fail
          go_round
          case measure => simp [intOf]; omega
          exact ⟨k + 1, k, by omega, hlt, by go_num, rfl, Lib.hid (by rw [Hnx.out]; rfl), below_then hB (below_then (below_drew1 _) hB2)⟩
    · obtain rfl : k = n := by omega
      go_wp2_with fail
      go_ret
      exact ⟨ret_int (by rw [Hj.out]), hB⟩
end Go.Proofs.YtcifjccojmfpaaaGreat

namespace Go.Proofs.YtcifjccojmfpaaaGreat
open Go.RowKit
set_option linter.unusedVariables false
set_option linter.unusedSimpArgs false
theorem clone_any (l : List Int) (m : Nat) (hl : l.length = m) (hm : m ≤ 1000) (A : Option Addr) (c : Nat) (w : World) (h : Row .u8 w w.heap.size A l) (P : Nat → Prop) (hP : ∀ b, w.heap.size ≤ b → P b) :
    Calls Tryz.prog 74 #[.slice A m c] w fun e w' => ∃ A' c', e = .returned (.slice A' m c') ∧ Row .u8 w' w'.heap.size A' l ∧ m ≤ c' ∧ InP P A' m ∧ Below w.heap.size w w' := by
  obtain ⟨i0, hi, hz0, hz1, hz2⟩ := info_parts Tryz.infoByte
  have qT : ∀ (w : World) (a : Option Addr) (n c n' c' : Nat), (binOp .eql 32 (.slice a n c) (.slice none n' c')).run Tryz.prog w = .ok (.bool a.isNone) w := fun w a n c n' c' => Lib.run_eql_slice_nil w _ _ a n c n' c' Tryz.underlying32
  have Hl := Lib.hid hl
  clear hl
  cases A with
  | none =>
    have h0 : l = [] := by
      rcases h with e | ⟨ad, e, _⟩
      · exact e
      · cases e
    subst h0
    obtain rfl : 0 = m := Hl.out
    go_enter Tryz.func74, Tryz.ntmps74
    go_wp2_with fail
    go_ret
    exact ⟨none, 0, rfl, .inl rfl, Nat.le_refl _, fun h => absurd h (by decide), Below.refl _ _⟩
  | some ad =>
    have hown := own_lit w .u8 [] 0 rfl 5 (cs := #[]) rfl (by decide)
    go_enter Tryz.func74, Tryz.ntmps74
    go_wp2_with (at_builtin; refine wpList_append_row _ .u8 rfl _ _ 32 rfl w.heap.size 5 i0 (.int .u8 0) 1 Tryz.underlying32 hi hz0 hz1 hz2 rfl _ 0 [] rfl hown (some ad) m c _ l rfl Hl.out (h.to (below_alloc1 _ _)) (by unfold maxLen; omega) (by omega) (by simp) ?_; intro A3 c3 w2 hown2 hc2 hB2)
    go_ret
    simp only [Nat.zero_add, List.nil_append] at hown2 hc2
    exact ⟨A3, c3, rfl, Row.own hown2, hc2, own_inP hown2 hP m, ((Below.refl _ w).alloc (Nat.le_refl _) _).trans hB2⟩
theorem growF_nil (n : Nat) (hn : n ≤ 1000) (w : World) :
    Calls Tryz.prog 123 #[.slice none 0 0, .int .i64 n] w fun e w' => ∃ A c, e = .returned (.slice A 0 c) ∧ FOwn w' w.heap.size A 0 c [] ∧ Below w.heap.size w w' := by
  obtain ⟨i0, hi, hz0, hz1, hz2⟩ := info_parts Tryz.infoFr
  by_cases h0 : n = 0
  · subst h0
    go_enter Tryz.func123, Tryz.ntmps123
    go_wp2_with fail
    go_ret
    exact ⟨none, 0, rfl, World.ownsRow_nil _ _ _ _, Below.refl _ _⟩
  · have hz : 0 < n := by omega
    have hc : grownCap w n 0 34 ≤ maxLen := grownCap_le_maxLen w n 0 34 (by unfold maxLen; omega)
    have hge := grownCap_ge w n 0 34
    have hrun := fun ty => Lib.run_append_nil_zeros (P := Tryz.prog) w 44 3 ty 34 i0 _ .i64 .i64 Tryz.underlying44 Tryz.underlying3 hi hz0 n hz (by rw [hz1]; omega) (by omega) (by rw [hz2]; omega)
    obtain ⟨cap, hcap⟩ : ∃ cap, grownCap w n 0 34 = cap := ⟨_, rfl⟩
    rw [hcap] at hc hge hrun
    unfold maxLen at hc
    have HRun := Lib.hid hrun
    clear hcap hrun
    have d1 : ¬ (n : Int) < 0 := by omega
    have d2 : decide ((0 : Int) < (n : Int)) = true := by simp; omega
    have d3 : decide ((n : Int) < 0) = false := by simp
    go_enter Tryz.func123, Tryz.ntmps123
    go_wp2_with (at_builtin; refine Lib.wpList_append_run _ rfl _ _ _ _ rfl _ _ rfl rfl _ _ (HRun.out _) ?_)
    go_ret
    refine ⟨_, cap, rfl, ⟨rfl, .inr ⟨w.heap.size, cap, _, rfl, Nat.le_refl _, World.alloc_heap_new _ _, Nat.zero_le _, hc, ?_, rfl⟩⟩, ((Below.refl _ w).drew).alloc (Nat.le_refl _) _⟩
    rw [Array.size_append, size_zeroCells, size_zeroCells]
    simp [Value.cells]
    omega
structure PartsF (w : World) (S : Addr) (ps : List (Value × List FV)) : Prop where
  lt : S.block < w.heap.size
  at_ : ∀ (j : Nat) p, ps[j]? = some p → w.cell? (S.add j) = some p.1 ∧ ∃ A c, p.1 = .slice A p.2.length c ∧ FRow w w.heap.size A p.2
def catF (ps : List (Value × List FV)) : List FV := ps.flatMap (·.2)
theorem catF_snoc {ps : List (Value × List FV)} {k : Nat} {p : Value × List FV} (h : ps[k]? = some p) : catF (ps.take (k + 1)) = catF (ps.take k) ++ p.2 := by
  rw [List.take_add_one, h]; simp [catF]
theorem catF_le (ps : List (Value × List FV)) (k : Nat) : (catF (ps.take k)).length ≤ (catF ps).length := by
  have : catF ps = catF (ps.take k) ++ catF (ps.drop k) := by simp only [catF, ← List.flatMap_append, List.take_append_drop]
  rw [this]; simp
theorem PartsF.to {w w' : World} {S : Addr} {ps : List (Value × List FV)} (h : PartsF w S ps) (b : Below w.heap.size w w') : PartsF w' S ps :=
  ⟨by have := b.size; have := h.lt; omega, fun j p hp => by
    obtain ⟨h1, A, c, h2, h3⟩ := h.at_ j p hp
    exact ⟨(b.cell (by rw [addr_block]; exact h.lt)).trans h1, A, c, h2, h3.to b⟩⟩
theorem concatF_at (ps : List (Value × List FV)) (k0 : Nat) (hk0 : ps.length = k0) (S : Addr) (c0 : Nat) (w : World) (h : PartsF w S ps) (hk : k0 ≤ 1000) (N : Nat) (hN : (catF ps).length = N) (hN2 : N ≤ 1000) (hc0 : k0 ≤ c0) :
    Calls Tryz.prog 108 #[.slice (some S) k0 c0] w fun e w' => ∃ A c, e = .returned (.slice A N c) ∧ FOwn w' w.heap.size A N c (catF ps) ∧ Below w.heap.size w w' := by
  have HN := Lib.hid hN
  have HK := Lib.hid hk0
  clear hN hk0
  go_enter Tryz.func108, Tryz.ntmps108
  go_wp2_with fail
  go_loop [3, 11] (fun z i => ∃ (k m : Nat), k ≤ k0 ∧ i = .int .i64 k ∧ z = .int .i64 m ∧ (catF (ps.take k)).length = m) (fun _ i => k0 - (intOf i).toNat)
  case atStart => exact ⟨0, 0, Nat.zero_le _, rfl, rfl, rfl⟩
  case round =>
    obtain ⟨k, m, hkk, rfl, rfl, hm⟩ := hrel
    have hmN : m ≤ N := by rw [← hm, ← HN.out]; exact catF_le ps k
    by_cases hlt : k < k0
    · obtain ⟨p, hp⟩ : ∃ p, ps[k]? = some p := ⟨_, List.getElem?_eq_getElem (by rw [HK.out]; exact hlt)⟩
      obtain ⟨hc, A, c, hv, hrow⟩ := h.at_ k p hp
      rw [hv] at hc
      obtain ⟨q, hq⟩ : ∃ q, p.2.length = q := ⟨_, rfl⟩
      rw [hq] at hc
      have hm2 : (catF (ps.take (k + 1))).length = m + q := by rw [catF_snoc hp, List.length_append, hm, hq]
      have hmN2 : m + q ≤ N := by rw [← hm2, ← HN.out]; exact catF_le ps (k + 1)
      have HM := Lib.hid hm2
      clear hm hp hv hrow hq hm2
      have d1 : decide ((m : Int) + (q : Int) < 0) = false := by simp; omega
      go_wp2_with fail
      go_round
      case rel => exact ⟨k + 1, m + q, by omega, by go_num, by go_num, HM.out⟩
      case measure => simp [intOf]; omega
    · obtain rfl : k = k0 := by omega
      obtain rfl : m = N := by rw [← hm, ← HN.out, List.take_of_length_le (by rw [HK.out]; exact Nat.le_refl _)]
      clear hm
      go_wp2_with fail
      refine (growF_nil m (by omega) w).mono ?_
      rintro e w1 ⟨A1, c1, rfl, hown1, hB1⟩
      have h1 := h.to hB1
      go_wp2_with fail
      go_loopw [6, 27] (fun z i wr => ∃ (j q : Nat) (A : Option Addr) (c : Nat), j ≤ k ∧ i = .int .i64 j ∧ z = .slice A q c ∧ (catF (ps.take j)).length = q ∧
          FOwn wr w.heap.size A q c (catF (ps.take j)) ∧ Below w.heap.size w wr) (fun _ i _ => k - (intOf i).toNat)
      case atStart => exact ⟨0, 0, A1, c1, Nat.zero_le _, rfl, rfl, rfl, hown1, hB1⟩
      case round =>
        obtain ⟨j, q, A, c, hj, rfl, rfl, hq, hown, hB⟩ := hrel
        have hw := h.to hB
        by_cases hlt2 : j < k
        · obtain ⟨p, hp⟩ : ∃ p, ps[j]? = some p := ⟨_, List.getElem?_eq_getElem (by rw [HK.out]; exact hlt2)⟩
          obtain ⟨hc, A2, c2, hv, hrow⟩ := hw.at_ j p hp
          rw [hv] at hc
          obtain ⟨l2, hl2⟩ : ∃ l2, p.2 = l2 := ⟨_, rfl⟩
          have hcs := catF_snoc hp
          rw [hl2] at hc hrow hcs
          obtain ⟨q2, hq2⟩ : ∃ q2, l2.length = q2 := ⟨_, rfl⟩
          rw [hq2] at hc
          have hqq : (catF (ps.take (j + 1))).length = q + q2 := by rw [hcs, List.length_append, hq, hq2]
          have hqN : q + q2 ≤ m := by rw [← hqq, ← HN.out]; exact catF_le ps (j + 1)
          have HC := Lib.hid hcs
          have HQ := Lib.hid hqq
          have HQ2 := Lib.hid hq2
          clear hcs hqq hp hv hl2 hq hq2
          have hs := hB.size
          go_wp2_with (at_builtin; refine wpList_append_fr _ rfl _ _ rfl w.heap.size _ q (catF (ps.take j)) rfl hown A2 q2 c2 _ l2 rfl HQ2.out hrow (by omega) hs ?_; intro A3 c3 w2 hown2 hc2 hB2)
          exact ⟨⟨j + 1, q + q2, A3, c3, by omega, by go_num, rfl, HQ.out, by rw [HC.out]; exact hown2, hB.trans hB2⟩, by simp [intOf]; omega⟩
        · obtain rfl : j = k := by omega
          have e1 : catF (ps.take j) = catF ps := by rw [List.take_of_length_le (by rw [HK.out]; exact Nat.le_refl _)]
          rw [e1] at hq hown
          obtain rfl : q = m := by rw [← hq]; exact HN.out
          clear hq
          go_wp2_with fail
          go_ret
          exact ⟨A, c, rfl, hown, hB⟩
theorem PartsF.lit (W : World) (ps : List (Value × List FV)) (t : TypeId) {cs : Array Value} (hcs : cs = (ps.map (·.1)).toArray) (h : ∀ p ∈ ps, ∃ A c, p.1 = .slice A p.2.length c ∧ FRow W W.heap.size A p.2) :
    PartsF (W.alloc (.cells cs t)) ⟨W.heap.size, 0, none⟩ ps := by
  refine ⟨by simp, fun j p hp => ?_⟩
  obtain ⟨A, c, h1, h2⟩ := h p (List.mem_of_getElem? hp)
  refine ⟨?_, A, c, h1, h2.to ((Below.refl _ W).alloc (Nat.le_refl _) _)⟩
  have e : (⟨W.heap.size, 0, none⟩ : Addr).add j = ⟨W.heap.size, j, none⟩ := by unfold Addr.add; split <;> simp_all
  have hb := World.alloc_heap_new W (.cells cs t)
  subst hcs
  rw [e]
  simp only [World.cell?, hb]
  simp [hp]
theorem concat2F {A1 A2 : Option Addr} {n1 n2 c1 c2 : Nat} {F1 F2 : List FC} (W : World) (t : TypeId) (P : Nat → Prop)
    (h1 : FSl W P A1 n1 c1 F1) (h2 : FSl W P A2 n2 c2 F2) (N : Nat) (hN : n1 + n2 = N) (hN2 : N ≤ 1000) (hP : ∀ b, W.heap.size ≤ b → P b) {S : Nat} (hS : S = W.heap.size) :
    Calls Tryz.prog 108 #[.slice (some ⟨S, 0, none⟩) 2 2] (W.alloc (.cells #[.slice A1 n1 c1, .slice A2 n2 c2] t)) fun e w' =>
      ∃ A c, e = .returned (.slice A N c) ∧ FSl w' P A N c (F1 ++ F2) ∧ Below W.heap.size W w' := by
  obtain ⟨f1, r1, s1⟩ := h1.row
  obtain ⟨f2, r2, s2⟩ := h2.row
  have e1 : f1.length = n1 := s1.1.trans h1.len
  have e2 : f2.length = n2 := s2.1.trans h2.len
  subst hS
  refine (concatF_at [(.slice A1 n1 c1, f1), (.slice A2 n2 c2, f2)] 2 rfl _ 2 _ (PartsF.lit W _ t rfl ?_) (by omega) N (by simp [catF]; omega) hN2 (by omega)).mono ?_
  · intro p hp
    simp only [List.mem_cons, List.not_mem_nil, or_false] at hp
    rcases hp with rfl | rfl
    · exact ⟨_, _, by rw [e1], r1⟩
    · exact ⟨_, _, by rw [e2], r2⟩
  · rintro e w' ⟨A, c, rfl, hown, hB⟩
    have hB' := below_lit hB
    simp only [catF, List.flatMap_cons, List.flatMap_nil, List.append_nil] at hown
    exact ⟨A, c, rfl, FSl.own hown ((s1.append s2).to hB') hN2 (fun b hb => hP b (by simp at hb; omega)), hB'⟩
end Go.Proofs.YtcifjccojmfpaaaGreat

namespace Go.Proofs.YtcifjccojmfpaaaGreat
open Go.RowKit
set_option linter.unusedVariables false
set_option linter.unusedSimpArgs false
section
variable {w w' : World} {P : Nat → Prop} {A : Option Addr} {n c : Nat} {Fs : List FC}
theorem FSl.take_ (h : FSl w P A n c Fs) {j : Nat} (hj : j ≤ n) : FSl w P A j c (Fs.take j) := by
  refine ⟨by rw [List.length_take, h.len]; omega, by have := h.cap; omega, by have := h.big; omega, ?_, fun h0 => h.inP (by omega)⟩
  obtain ⟨fs, h1, h2⟩ := h.row
  have := h1.sub_ 0 j (Nat.zero_le _) (by rw [h2.1, h.len]; exact hj) (A' := A) (fun _ => by cases A <;> simp [Addr.add])
  exact ⟨fs.take j, by simpa using this, h2.take j⟩
theorem FSl.drop_ {ad : Addr} (h : FSl w P (some ad) n c Fs) {j m d : Nat} (hm : j + m = n) (hd : j + d = c) : FSl w P (some (ad.add (j * 5))) m d (Fs.drop j) := by
  refine ⟨by rw [List.length_drop, h.len]; omega, by have := h.cap; omega, by have := h.big; omega, ?_, fun h0 a e => ?_⟩
  · obtain ⟨fs, h1, h2⟩ := h.row
    have := h1.sub_ j n (by omega) (by rw [h2.1, h.len]; omega) (A' := some (ad.add (j * 5))) (fun _ => rfl)
    rw [List.take_of_length_le (by rw [List.length_drop, h2.1, h.len]; omega)] at this
    exact ⟨fs.drop j, this, h2.drop j⟩
  · obtain rfl := Option.some.inj e
    rw [addr_block]
    exact h.inP (by omega) ad rfl
theorem FSl.empty (h : FSl w P A n c Fs) {A' : Option Addr} {d : Nat} : FSl w P A' 0 d [] := ⟨rfl, Nat.zero_le _, by decide, ⟨[], .inl rfl, FsIs.nil⟩, fun h => absurd h (by decide)⟩
theorem fsl_lit1 {f : FV} {F : FC} (h : FIs w P f F) (hP : ∀ b, w.heap.size ≤ b → P b) {k : Nat} (hk : k = w.heap.size) :
    FSl (w.alloc (.cells #[.bool f.x, .int .i64 f.i, .bool f.r, .int .i64 f.n, .slice f.a f.m f.c] 34)) P (some ⟨k, 0, none⟩) 1 1 [F] :=
  ⟨rfl, Nat.le_refl _, by decide, ⟨[f], FRow.lit1 w f hk, FsIs.one (h.to (below_alloc1 _ _))⟩, fun _ ad e => by obtain rfl := Option.some.inj e; subst hk; exact hP _ (Nat.le_refl _)⟩
end
theorem with_c {w : World} {P : Nat → Prop} {A : Option Addr} {n c : Nat} {Fs : List FC} {f : FV} {F : FC} (h : FSl w P A n c Fs) (hf : FIs w P f F) (hP : ∀ b, w.heap.size ≤ b → P b) (N : Nat) (hN : n + 1 = N) (hN2 : N ≤ 1000) :
    Calls Tryz.prog 93 #[.slice A n c, f.v] w fun e w' => ∃ A' c', e = .returned (.slice A' N c') ∧ FSl w' P A' N c' (Fs ++ [F]) ∧ Below w.heap.size w w' := by
  obtain ⟨w0, hw0⟩ : ∃ w0, w.alloc (.cells #[.bool f.x, .int .i64 f.i, .bool f.r, .int .i64 f.n, .slice f.a f.m f.c] 34) = w0 := ⟨_, rfl⟩
  have hT0 : Below w.heap.size w w0 := by rw [← hw0]; exact below_alloc1 _ _
  have hX0 : HasF w0 w.heap.size f := by rw [← hw0]; exact World.alloc_heap_new _ _
  obtain ⟨b0, b1, b2, b3, b4⟩ := cells5' hX0
  have hP0 : ∀ b, w0.heap.size ≤ b → P b := fun b hb => hP b (Nat.le_trans hT0.size hb)
  have h1 := (h.to hT0).to (below_alloc1 w0 (.cells #[.bool f.x, .int .i64 f.i, .bool f.r, .int .i64 f.n, .slice f.a f.m f.c] 34))
  have h2 := fsl_lit1 (hf.to hT0) hP0 rfl
  go_enter Tryz.func93, Tryz.ntmps93
  go_wp2_with fail
  refine (concat2F _ _ P h1 h2 N hN hN2 (fun b hb => hP0 b (by simp at hb; omega)) (by simp)).mono ?_
  rintro e w2 ⟨A', c', rfl, hr, hB⟩
  go_wp2_with fail
  go_ret
  exact ⟨A', c', rfl, hr, below_then hT0 (below_then (below_alloc1 _ _) hB)⟩
theorem without_c {w : World} {P : Nat → Prop} {A : Option Addr} {n c : Nat} {Fs : List FC} (h : FSl w P A n c Fs) (hP : ∀ b, w.heap.size ≤ b → P b) (k : Nat) (hk : k < n) (N : Nat) (hN : N + 1 = n) (hN2 : n ≤ 1000) (Gs : List FC) (hG : Fs.eraseIdx k = Gs) :
    Calls Tryz.prog 96 #[.slice A n c, .int .i64 k] w fun e w' => ∃ A' c', e = .returned (.slice A' N c') ∧ FSl w' P A' N c' Gs ∧ Below w.heap.size w w' := by
  obtain ⟨ad, _, _, rfl, _⟩ := h.at_ hk
  have hcap := h.cap
  have hi0 : decide ((k : Int) < 0) = false := by simp
  have her : Fs.take k ++ Fs.drop (k + 1) = Gs := by rw [← hG]; exact (List.eraseIdx_eq_take_drop_succ Fs k).symm
  have Her := Lib.hid her
  clear her hG
  have h1 := h.take_ (Nat.le_of_lt hk)
  by_cases hce : c = k + 1
  · subst hce
    obtain rfl : n = k + 1 := by omega
    obtain rfl : N = k := by omega
    have e0 : Fs.drop (N + 1) = [] := by rw [List.drop_eq_nil_of_le (by rw [h.len]; exact Nat.le_refl _)]
    rw [e0] at Her
    clear e0
    have i1 : (N : Int) ≤ (N : Int) + 1 := by omega
    have i2 : (0 : Int) ≤ (N : Int) + 1 := by omega
    have i4 : ((N : Int) + 1).toNat = N + 1 := by omega
    have i5 : IntKind.i64.wrap ((N : Int) + 1) = (N : Int) + 1 := by rw [IntKind.wrap_i64]; omega
    go_enter Tryz.func96, Tryz.ntmps96
    go_wp2_with fail
    go_region_with (first
      | (go_at_call 108; refine (concat2F _ _ P (h1.to (below_drew1 _)) (FSl.empty (h1.to (below_drew1 _))) N (by omega) (by omega) (fun b hb => hP b (by simpa using hb)) (by simp)).mono ?_; rintro e w2 ⟨A', c', rfl, hr, hB⟩)
      | fail)
    go_wp2_with fail
    go_ret
    exact ⟨A', c', rfl, by rw [← Her.out]; exact hr, below_then (below_drew1 _) hB⟩
  · have hcn : ¬ k + 1 = c := fun e => hce e.symm
    have i1 : (k : Int) ≤ (c : Int) := by omega
    have i2 : (k : Int) + 1 ≤ (n : Int) := by omega
    have i3 : (n : Int) ≤ (c : Int) := by omega
    have i6 : (0 : Int) ≤ (k : Int) + 1 := by omega
    have i4 : ((k : Int) + 1).toNat = k + 1 := by omega
    have i5 : IntKind.i64.wrap ((k : Int) + 1) = (k : Int) + 1 := by rw [IntKind.wrap_i64]; omega
    have h2 := h.drop_ (j := k + 1) (m := n - (k + 1)) (d := c - (k + 1)) (by omega) (by omega)
    have h2' := h2
    rw [add_pos _ _ (by omega)] at h2'
    go_enter Tryz.func96, Tryz.ntmps96
    go_wp2_with fail
    go_region_with (first
      | (go_at_call 108; refine (concat2F _ _ P (h1.to (below_drew1 _)) (by first | exact h2.to (below_drew1 _) | exact h2'.to (below_drew1 _)) N (by omega) (by omega) (fun b hb => hP b (by simpa using hb)) (by simp)).mono ?_; rintro e w2 ⟨A', c', rfl, hr, hB⟩)
      | fail)
    go_wp2_with fail
    go_ret
    exact ⟨A', c', rfl, by rw [← Her.out]; exact hr, below_then (below_drew1 _) hB⟩
theorem kept_c {w : World} {P : Nat → Prop} {f : FV} {F : FC} (hf : FIs w P f F) (hP : ∀ b, w.heap.size ≤ b → P b) (hm : F.d.length ≤ 1000) :
    Calls Tryz.prog 94 #[f.v] w fun e w' => ∃ g : FV, e = .returned g.v ∧ FIs w' P g F ∧ Below w.heap.size w w' := by
  obtain ⟨w0, hw0⟩ : ∃ w0, (w.alloc (.cells #[.bool f.x, .int .i64 f.i, .bool f.r, .int .i64 f.n, .slice f.a f.m f.c] 34)).alloc (.cells #[.bool false, .int .i64 0, .bool false, .int .i64 0, .slice none 0 0] 34) = w0 := ⟨_, rfl⟩
  have hT0 : Below w.heap.size w w0 := by rw [← hw0]; exact below_two _ _ _
  have hX0 : HasF w0 w.heap.size f := by rw [← hw0]; exact blk1 _ _ _
  have hR0 : HasF w0 (w.heap.size + 1) zeroFV := by rw [← hw0]; exact blk2_NFi _ _ _
  have hs0 : w0.heap.size = w.heap.size + 2 := by rw [← hw0]; simp
  have Hs0 := Lib.hid hs0
  clear hs0
  obtain ⟨b0, b1, b2, b3, b4⟩ := cells5' hX0
  go_enter Tryz.func94, Tryz.ntmps94
  go_wp2_with fail
  clear b0 b1 b2 b3 b4
  refine (clone_any F.d f.m hf.len (by rw [← hf.len]; exact hm) f.a f.c w0 (hf.to hT0).row (Gap P w.heap.size (w.heap.size + 2)) (fun b hb => gap_up hP (by omega) b (by have := Hs0.out; omega))).mono ?_
  rintro e w1 ⟨A', c', rfl, hr, hc, hi, hB1⟩
  have hT1 := below_then hT0 hB1
  have hX1 := block_below hB1 hX0
  have hR1 := block_below hB1 hR0
  obtain ⟨⟨b0, b1, b2, b3, b4⟩, f0, f1, f2, f3, f4⟩ := cells5 hX1
  obtain ⟨⟨c0, c1, c2, c3, c4⟩, g0, g1, g2, g3, g4⟩ := cells5 hR1
  go_wp2_with fail
  have hne := (FIs.mk (f := ⟨f.x, f.i, f.r, f.n, A', f.m, c'⟩) hf.x hf.i hf.r hf.n hf.len hc hf.big hf.byte hr hi).grow (grown_setAt w1 w.heap.size 4 (.slice A' f.m c')) (gap_not (Nat.le_refl _) (by omega))
  exact bodyPost_ret (v := FV.v ⟨f.x, f.i, f.r, f.n, A', f.m, c'⟩) (results_f (f := ⟨f.x, f.i, f.r, f.n, A', f.m, c'⟩) rfl _ rfl (set5_obj (other_g (grown_setAt _ _ _ _) hR1 (by omega)) _ _ _ _ _)) rfl ⟨_, rfl, (hne.grow (set5_grown _ _ _ _ _ _ _) (gap_not (by omega) (by omega))).ungap, below_g (below_g hT1 (grown_setAt _ _ _ _) (Nat.le_refl _)) (set5_grown _ _ _ _ _ _ _) (by omega)⟩
end Go.Proofs.YtcifjccojmfpaaaGreat

namespace Go.Proofs.YtcifjccojmfpaaaGreat
open Go.RowKit
set_option linter.unusedVariables false
set_option linter.unusedSimpArgs false
theorem isOff_c (n : NV) (q : Bool) (hq : decide (n.k.s = 3) = q) (w : World) :
    Calls Tryz.prog 91 #[n.v] w fun e w' => e = .returned (.bool q) ∧ Below w.heap.size w w' := by
  have Hq := Lib.hid (show (n.k.s == 3) = q from hq)
  clear hq
  obtain ⟨w0, hw0⟩ : ∃ w0, (w.alloc (.cells #[.slice n.qa n.qm n.qc, .slice n.la n.lm n.lc, .int .i64 n.k.t, .int .i64 n.k.r, .int .i64 n.k.s, .int .i64 n.k.q, .slice n.ga n.gm n.gc] 49)) = w0 := ⟨_, rfl⟩
  have hT0 : Below w.heap.size w w0 := by rw [← hw0]; exact below_alloc1 _ _
  have hn0 : w0.heap[w.heap.size]? = some (.cells #[.slice n.qa n.qm n.qc, .slice n.la n.lm n.lc, .int .i64 n.k.t, .int .i64 n.k.r, .int .i64 n.k.s, .int .i64 n.k.q, .slice n.ga n.gm n.gc] 49) := by rw [← hw0]; exact World.alloc_heap_new _ _
  have hs0 : w0.heap.size = w.heap.size + 1 := by rw [← hw0]; simp
  have Hs0 := Lib.hid hs0
  clear hs0
  obtain ⟨nc0, nc1, nc2, nc3, nc4, nc5, nc6⟩ := cells7' hn0
  go_enter Tryz.func91, Tryz.ntmps91
  go_wp2_with fail
  clear nc0 nc1 nc2 nc3 nc4 nc5 nc6
  clear hw0
  have hZ0 := Below.refl w0.heap.size w0
  go_ret
  exact ⟨ret_bool Hq.out, hT0⟩
theorem counted_c (n : NV) (d : CV) (what : Int) (hd : stepV n.k what = d) (hok : OkC n.k) (w : World) :
    Calls Tryz.prog 70 #[n.v, .int .i64 what] w fun e w' => e = .returned (NV.v ⟨n.qa, n.qm, n.qc, n.la, n.lm, n.lc, d, n.ga, n.gm, n.gc⟩) ∧ Below w.heap.size w w' := by
  have Hd := Lib.hid hd
  clear hd
  obtain ⟨w0, hw0⟩ : ∃ w0, ((w.alloc (.cells #[.slice n.qa n.qm n.qc, .slice n.la n.lm n.lc, .int .i64 n.k.t, .int .i64 n.k.r, .int .i64 n.k.s, .int .i64 n.k.q, .slice n.ga n.gm n.gc] 49)).alloc (.cells #[.slice none 0 0, .slice none 0 0, .int .i64 0, .int .i64 0, .int .i64 0, .int .i64 0, .slice none 0 0] 49)) = w0 := ⟨_, rfl⟩
  have hT0 : Below w.heap.size w w0 := by rw [← hw0]; exact below_then (below_alloc1 _ _) (below_alloc1 _ _)
  have hn0 : w0.heap[w.heap.size]? = some (.cells #[.slice n.qa n.qm n.qc, .slice n.la n.lm n.lc, .int .i64 n.k.t, .int .i64 n.k.r, .int .i64 n.k.s, .int .i64 n.k.q, .slice n.ga n.gm n.gc] 49) := by rw [← hw0]; exact block_below (below_alloc1 _ _) (World.alloc_heap_new _ _)
  have hr0 : w0.heap[(w.heap.size + 1)]? = some (.cells #[.slice none 0 0, .slice none 0 0, .int .i64 0, .int .i64 0, .int .i64 0, .int .i64 0, .slice none 0 0] 49) := by rw [← hw0]; exact alloc_at _ _ (by simp)
  have hs0 : w0.heap.size = w.heap.size + 2 := by rw [← hw0]; simp
  have Hs0 := Lib.hid hs0
  clear hs0
  obtain ⟨nc0, nc1, nc2, nc3, nc4, nc5, nc6⟩ := cells7' hn0
  obtain ⟨rc0, rc1, rc2, rc3, rc4, rc5, rc6⟩ := cells7' hr0
  go_enter Tryz.func70, Tryz.ntmps70
  go_wp2_with fail
  clear nc0 nc1 nc2 nc3 nc4 nc5 nc6 rc0 rc1 rc2 rc3 rc4 rc5 rc6
  clear hw0
  have hZ0 := Below.refl w0.heap.size w0
  refine (step1_any n.k d what Hd.out hok w0).mono ?_
  rintro e w1 ⟨rfl, hB1⟩
  have hT1 := below_then hT0 hB1
  have hZ1 := below_then hZ0 hB1
  clear hZ0
  have hn1 := block_below hB1 hn0
  have hr1 := block_below hB1 hr0
  clear hT0 hn0 hr0  hB1
  obtain ⟨⟨nc0, nc1, nc2, nc3, nc4, nc5, nc6⟩, nf0, nf1, nf2, nf3, nf4, nf5, nf6⟩ := cells7 hn1
  obtain ⟨⟨rc0, rc1, rc2, rc3, rc4, rc5, rc6⟩, rf0, rf1, rf2, rf3, rf4, rf5, rf6⟩ := cells7 hr1
  go_wp2_with fail
  clear nc0 nc1 nc2 nc3 nc4 nc5 nc6 nf0 nf1 nf2 nf3 nf4 nf5 nf6 rc0 rc1 rc2 rc3 rc4 rc5 rc6 rf0 rf1 rf2 rf3 rf4 rf5 rf6
  exact bodyPost_ret (v := NV.v ⟨n.qa, n.qm, n.qc, n.la, n.lm, n.lc, d, n.ga, n.gm, n.gc⟩) (results_n (n := ⟨n.qa, n.qm, n.qc, n.la, n.lm, n.lc, d, n.ga, n.gm, n.gc⟩) rfl _ rfl (set7_obj (other_g (set25_grown _ _ _ _ _ _) hr1 (by omega)) _ _ _ _ _ _ _)) rfl ⟨rfl, below_g (below_g hT1 (set25_grown _ _ _ _ _ _) (Nat.le_refl _)) (set7_grown _ _ _ _ _ _ _ _ _) (by omega)⟩
theorem nextAt_c {w : World} {P : Nat → Prop} {n : NV} {N : NC} (h : NIs w P n N) (hok : ∀ F ∈ N.q, okC F) (hm : n.qm ≤ 1000) (q : Bool) (hq : hasN N = q) (k : Nat) (hk : (if hasN N then atN N else 0) = k) :
    Calls Tryz.prog 95 #[n.v] w fun e w' => e = .returned (.tuple #[.int .i64 k, .bool q]) ∧ Below w.heap.size w w' := by
  rw [hq] at hk
  unfold hasN at hq
  rw [← h.k] at hq
  have hl := h.q.len
  by_cases hoff : n.k.s = 3
  · skip
    rw [decide_eq_false (by simpa using hoff), Bool.false_and] at hq
    subst hq
    obtain rfl : 0 = k := hk
    have Hoff := Lib.hid hoff
    clear hoff
    obtain ⟨w0, hw0⟩ : ∃ w0, (w.alloc (.cells #[.slice n.qa n.qm n.qc, .slice n.la n.lm n.lc, .int .i64 n.k.t, .int .i64 n.k.r, .int .i64 n.k.s, .int .i64 n.k.q, .slice n.ga n.gm n.gc] 49)) = w0 := ⟨_, rfl⟩
    have hT0 : Below w.heap.size w w0 := by rw [← hw0]; exact below_alloc1 _ _
    have hn0 : w0.heap[w.heap.size]? = some (.cells #[.slice n.qa n.qm n.qc, .slice n.la n.lm n.lc, .int .i64 n.k.t, .int .i64 n.k.r, .int .i64 n.k.s, .int .i64 n.k.q, .slice n.ga n.gm n.gc] 49) := by rw [← hw0]; exact World.alloc_heap_new _ _
    have hs0 : w0.heap.size = w.heap.size + 1 := by rw [← hw0]; simp
    have Hs0 := Lib.hid hs0
    clear hs0
    obtain ⟨nc0, nc1, nc2, nc3, nc4, nc5, nc6⟩ := cells7' hn0
    go_enter Tryz.func95, Tryz.ntmps95
    go_wp2_with fail
    clear nc0 nc1 nc2 nc3 nc4 nc5 nc6
    clear hw0
    have hZ0 := Below.refl w0.heap.size w0
    refine (isOff_c n true (by simpa using Hoff.out) w0).mono ?_
    rintro e w1 ⟨rfl, hB1⟩
    have hT1 := below_then hT0 hB1
    have hZ1 := below_then hZ0 hB1
    clear hZ0
    have hn1 := block_below hB1 hn0
    clear hT0 hn0  hB1
    obtain ⟨nc0, nc1, nc2, nc3, nc4, nc5, nc6⟩ := cells7' hn1
    go_wp2_with fail
    go_ret2
    exact ⟨rfl, hT1⟩
  rw [decide_eq_true (by simpa using hoff), Bool.true_and] at hq
  by_cases h0 : n.qm = 0
  · skip
    have hq2 : q = false := by rw [← hq]; simp; exact List.eq_nil_of_length_eq_zero (hl.trans h0)
    subst hq2
    obtain rfl : 0 = k := hk
    clear hq
    have d1 : ((n.qm : Int) == 0) = true := by simp; omega
    have d2 : (n.qm == 0) = true := by simp; omega
    have Hoff := Lib.hid hoff
    clear hoff h0
    obtain ⟨w0, hw0⟩ : ∃ w0, (w.alloc (.cells #[.slice n.qa n.qm n.qc, .slice n.la n.lm n.lc, .int .i64 n.k.t, .int .i64 n.k.r, .int .i64 n.k.s, .int .i64 n.k.q, .slice n.ga n.gm n.gc] 49)) = w0 := ⟨_, rfl⟩
    have hT0 : Below w.heap.size w w0 := by rw [← hw0]; exact below_alloc1 _ _
    have hn0 : w0.heap[w.heap.size]? = some (.cells #[.slice n.qa n.qm n.qc, .slice n.la n.lm n.lc, .int .i64 n.k.t, .int .i64 n.k.r, .int .i64 n.k.s, .int .i64 n.k.q, .slice n.ga n.gm n.gc] 49) := by rw [← hw0]; exact World.alloc_heap_new _ _
    have hs0 : w0.heap.size = w.heap.size + 1 := by rw [← hw0]; simp
    have Hs0 := Lib.hid hs0
    clear hs0
    obtain ⟨nc0, nc1, nc2, nc3, nc4, nc5, nc6⟩ := cells7' hn0
    go_enter Tryz.func95, Tryz.ntmps95
    go_wp2_with fail
    clear nc0 nc1 nc2 nc3 nc4 nc5 nc6
    clear hw0
    have hZ0 := Below.refl w0.heap.size w0
    refine (isOff_c n false (by simpa using Hoff.out) w0).mono ?_
    rintro e w1 ⟨rfl, hB1⟩
    have hT1 := below_then hT0 hB1
    have hZ1 := below_then hZ0 hB1
    clear hZ0
    have hn1 := block_below hB1 hn0
    clear hT0 hn0  hB1
    obtain ⟨nc0, nc1, nc2, nc3, nc4, nc5, nc6⟩ := cells7' hn1
    go_wp2_with fail
    go_ret2
    exact ⟨rfl, hT1⟩
  have hq2 : q = true := by rw [← hq]; simp; intro e; rw [e] at hl; simp at hl; omega
  subst hq2
  have hk2 : leastTo N.q n.qm = k := by rw [← hk, if_pos rfl]; unfold atN; rw [hl]
  have Hk := Lib.hid hk2
  clear hk hk2 hq
  have d1 : ((n.qm : Int) == 0) = false := by simp; omega
  have d2 : (n.qm == 0) = false := by simp; omega
  obtain ⟨w0, hw0⟩ : ∃ w0, (w.alloc (.cells #[.slice n.qa n.qm n.qc, .slice n.la n.lm n.lc, .int .i64 n.k.t, .int .i64 n.k.r, .int .i64 n.k.s, .int .i64 n.k.q, .slice n.ga n.gm n.gc] 49)) = w0 := ⟨_, rfl⟩
  have hT0 : Below w.heap.size w w0 := by rw [← hw0]; exact below_alloc1 _ _
  have hn0 : w0.heap[w.heap.size]? = some (.cells #[.slice n.qa n.qm n.qc, .slice n.la n.lm n.lc, .int .i64 n.k.t, .int .i64 n.k.r, .int .i64 n.k.s, .int .i64 n.k.q, .slice n.ga n.gm n.gc] 49) := by rw [← hw0]; exact World.alloc_heap_new _ _
  have hs0 : w0.heap.size = w.heap.size + 1 := by rw [← hw0]; simp
  have Hs0 := Lib.hid hs0
  clear hs0
  obtain ⟨nc0, nc1, nc2, nc3, nc4, nc5, nc6⟩ := cells7' hn0
  go_enter Tryz.func95, Tryz.ntmps95
  go_wp2_with fail
  clear nc0 nc1 nc2 nc3 nc4 nc5 nc6
  clear hw0
  have hZ0 := Below.refl w0.heap.size w0
  refine (isOff_c n false (by simpa using hoff) w0).mono ?_
  rintro e w1 ⟨rfl, hB1⟩
  have hT1 := below_then hT0 hB1
  have hZ1 := below_then hZ0 hB1
  clear hZ0
  have hn1 := block_below hB1 hn0
  clear hT0 hn0  hB1
  obtain ⟨nc0, nc1, nc2, nc3, nc4, nc5, nc6⟩ := cells7' hn1
  go_wp2_with fail
  clear nc0 nc1 nc2 nc3 nc4 nc5 nc6
  refine (firstLeast_c (h.q.to hT1) hok (by omega) hm).mono ?_
  rintro e w2 ⟨rfl, hB2⟩
  have hT2 := below_then hT1 hB2
  have hZ2 := below_then hZ1 hB2
  clear hZ1
  have hn2 := block_below hB2 hn1
  clear hT1 hn1  hB2
  rw [Hk.out]
  obtain ⟨nc0, nc1, nc2, nc3, nc4, nc5, nc6⟩ := cells7' hn2
  go_wp2_with fail
  go_ret2
  exact ⟨rfl, hT2⟩
end Go.Proofs.YtcifjccojmfpaaaGreat

namespace Go.Proofs.YtcifjccojmfpaaaGreat
open Go.RowKit
set_option linter.unusedVariables false
set_option linter.unusedSimpArgs false
theorem any_c {w : World} {P P' : Nat → Prop} {A : Option Addr} {n c : Nat} {ls : List FL} {f : FV} {F : FC} (h : LSl w P A n c ls) (hf : FIs w P' f F) (hm : n ≤ 1000) (q : Bool) (hq : anyV ls F.x F.i = q) :
    Calls Tryz.prog 92 #[.slice A n c, f.v] w fun e w' => e = .returned (.bool q) ∧ Below w.heap.size w w' :=
  (any_any ls f n h.len A c w h.row hm).mono (by rintro e w' ⟨h1, h2⟩; exact ⟨by rw [h1, hf.x, hf.i, hq], h2⟩)
theorem okC_of_nis {w : World} {P : Nat → Prop} {n : NV} {N : NC} (h : NIs w P n N) (hok : OkN N) : OkC n.k := by rw [h.k]; exact hok.k
theorem qm_le {w : World} {P : Nat → Prop} {n : NV} {N : NC} (h : NIs w P n N) (hok : OkN N) : n.qm ≤ 16 := by rw [← h.q.len]; exact hok.qm
theorem gm_le {w : World} {P : Nat → Prop} {n : NV} {N : NC} (h : NIs w P n N) (hok : OkN N) : n.gm ≤ 64 := by rw [← h.g.len]; exact hok.gm
theorem lm_le {w : World} {P : Nat → Prop} {n : NV} {N : NC} (h : NIs w P n N) (hok : OkN N) : n.lm ≤ 8 := by rw [← h.l.len]; exact hok.lm
theorem quiet_c {w : World} {P : Nat → Prop} {n : NV} {N : NC} (h : NIs w P n N) (hok : OkN N) (M : NC) (hM : quietN N = M) :
    Calls Tryz.prog 42 #[n.v] w fun e w' => ∃ n' : NV, e = .returned n'.v ∧ NIs w' P n' M ∧ Below w.heap.size w w' := by
  subst hM
  have hk := okC_of_nis h hok
  obtain ⟨d, hd⟩ : ∃ d, stepV n.k 6 = d := ⟨_, rfl⟩
  have Hd := Lib.hid hd
  have HD := Lib.hid (show d = stepV N.k 6 by rw [← h.k, hd])
  clear hd
  obtain ⟨w0, hw0⟩ : ∃ w0, ((w.alloc (.cells #[.slice n.qa n.qm n.qc, .slice n.la n.lm n.lc, .int .i64 n.k.t, .int .i64 n.k.r, .int .i64 n.k.s, .int .i64 n.k.q, .slice n.ga n.gm n.gc] 49)).alloc (.cells #[.slice none 0 0, .slice none 0 0, .int .i64 0, .int .i64 0, .int .i64 0, .int .i64 0, .slice none 0 0] 49)) = w0 := ⟨_, rfl⟩
  have hT0 : Below w.heap.size w w0 := by rw [← hw0]; exact below_then (below_alloc1 _ _) (below_alloc1 _ _)
  have hn0 : w0.heap[w.heap.size]? = some (.cells #[.slice n.qa n.qm n.qc, .slice n.la n.lm n.lc, .int .i64 n.k.t, .int .i64 n.k.r, .int .i64 n.k.s, .int .i64 n.k.q, .slice n.ga n.gm n.gc] 49) := by rw [← hw0]; exact block_below (below_alloc1 _ _) (World.alloc_heap_new _ _)
  have hr0 : w0.heap[(w.heap.size + 1)]? = some (.cells #[.slice none 0 0, .slice none 0 0, .int .i64 0, .int .i64 0, .int .i64 0, .int .i64 0, .slice none 0 0] 49) := by rw [← hw0]; exact alloc_at _ _ (by simp)
  have hs0 : w0.heap.size = w.heap.size + 2 := by rw [← hw0]; simp
  have Hs0 := Lib.hid hs0
  clear hs0
  obtain ⟨nc0, nc1, nc2, nc3, nc4, nc5, nc6⟩ := cells7' hn0
  obtain ⟨rc0, rc1, rc2, rc3, rc4, rc5, rc6⟩ := cells7' hr0
  go_enter Tryz.func42, Tryz.ntmps42
  go_wp2_with fail
  clear nc0 nc1 nc2 nc3 nc4 nc5 nc6 rc0 rc1 rc2 rc3 rc4 rc5 rc6
  clear hw0
  have hZ0 := Below.refl w0.heap.size w0
  refine (counted_c n d 6 Hd.out hk w0).mono ?_
  rintro e w1 ⟨rfl, hB1⟩
  have hT1 := below_then hT0 hB1
  have hZ1 := below_then hZ0 hB1
  clear hZ0
  have hn1 := block_below hB1 hn0
  have hr1 := block_below hB1 hr0
  clear hT0 hn0 hr0  hB1
  obtain ⟨nc0, nc1, nc2, nc3, nc4, nc5, nc6⟩ := cells7' hn1
  obtain ⟨⟨rc0, rc1, rc2, rc3, rc4, rc5, rc6⟩, rf0, rf1, rf2, rf3, rf4, rf5, rf6⟩ := cells7 hr1
  go_wp2_with fail
  clear nc0 nc1 nc2 nc3 nc4 nc5 nc6 rc0 rc1 rc2 rc3 rc4 rc5 rc6 rf0 rf1 rf2 rf3 rf4 rf5 rf6
  exact bodyPost_ret (v := NV.v ⟨n.qa, n.qm, n.qc, n.la, n.lm, n.lc, d, n.ga, n.gm, n.gc⟩) (results_n (n := ⟨n.qa, n.qm, n.qc, n.la, n.lm, n.lc, d, n.ga, n.gm, n.gc⟩) rfl _ rfl (set7_obj hr1 _ _ _ _ _ _ _)) rfl (⟨⟨n.qa, n.qm, n.qc, n.la, n.lm, n.lc, d, n.ga, n.gm, n.gc⟩, rfl, ⟨h.q.to (below_g hT1 (set7_grown _ _ _ _ _ _ _ _ _) (by omega)), h.l.to (below_g hT1 (set7_grown _ _ _ _ _ _ _ _ _) (by omega)), HD.out, h.g.to (below_g hT1 (set7_grown _ _ _ _ _ _ _ _ _) (by omega))⟩, (below_g hT1 (set7_grown _ _ _ _ _ _ _ _ _) (by omega))⟩)
theorem fat_to {w w' : World} {a : Addr} {f : FV} (h : FAt w a f) (b : Below w.heap.size w w') : FAt w' a f := by
  obtain ⟨h0, h1, h2, h3, h4⟩ := h
  have hk : ∀ (p : Addr) (v : Value), w.cell? p = some v → w'.cell? p = some v := fun p v hp => (b.cell (World.block_lt_of_cell? _ _ hp)).trans hp
  exact ⟨hk _ _ h0, hk _ _ h1, hk _ _ h2, hk _ _ h3, hk _ _ h4⟩
theorem next_c {w : World} {P : Nat → Prop} {n : NV} {N : NC} (h : NIs w P n N) (hok : OkN N) (q : Bool) (hq : hasN N = q) (F : FC) (hF : nextF N = F) :
    Calls Tryz.prog 83 #[n.v] w fun e w' => ∃ f : FV, e = .returned (.tuple #[f.v, .bool q]) ∧ FIs w' P f F ∧ Below w.heap.size w w' := by
  have hm := qm_le h hok
  have Hok := Lib.hid hok
  cases q
  · skip
    obtain rfl : zeroF = F := by rw [← hF]; unfold nextF; rw [hq]; rfl
    have Hq := Lib.hid hq
    clear hq hF hok
    obtain ⟨w0, hw0⟩ : ∃ w0, ((w.alloc (.cells #[.slice n.qa n.qm n.qc, .slice n.la n.lm n.lc, .int .i64 n.k.t, .int .i64 n.k.r, .int .i64 n.k.s, .int .i64 n.k.q, .slice n.ga n.gm n.gc] 49)).alloc (.cells #[.bool false, .int .i64 0, .bool false, .int .i64 0, .slice none 0 0] 34)) = w0 := ⟨_, rfl⟩
    have hT0 : Below w.heap.size w w0 := by rw [← hw0]; exact below_then (below_alloc1 _ _) (below_alloc1 _ _)
    have hn0 : w0.heap[w.heap.size]? = some (.cells #[.slice n.qa n.qm n.qc, .slice n.la n.lm n.lc, .int .i64 n.k.t, .int .i64 n.k.r, .int .i64 n.k.s, .int .i64 n.k.q, .slice n.ga n.gm n.gc] 49) := by rw [← hw0]; exact block_below (below_alloc1 _ _) (World.alloc_heap_new _ _)
    have hr0 : w0.heap[(w.heap.size + 1)]? = some (.cells #[.bool false, .int .i64 0, .bool false, .int .i64 0, .slice none 0 0] 34) := by rw [← hw0]; exact alloc_at _ _ (by simp)
    have hs0 : w0.heap.size = w.heap.size + 2 := by rw [← hw0]; simp
    have Hs0 := Lib.hid hs0
    clear hs0
    obtain ⟨nc0, nc1, nc2, nc3, nc4, nc5, nc6⟩ := cells7' hn0
    obtain ⟨rc0, rc1, rc2, rc3, rc4⟩ := cells5' hr0
    go_enter Tryz.func83, Tryz.ntmps83
    go_wp2_with fail
    clear nc0 nc1 nc2 nc3 nc4 nc5 nc6 rc0 rc1 rc2 rc3 rc4
    clear hw0
    have hZ0 := Below.refl w0.heap.size w0
    refine (nextAt_c (h.to hT0) Hok.out.okq (by omega) false Hq.out 0 (by rw [Hq.out]; rfl)).mono ?_
    rintro e w1 ⟨rfl, hB1⟩
    have hT1 := below_then hT0 hB1
    have hZ1 := below_then hZ0 hB1
    clear hZ0
    have hn1 := block_below hB1 hn0
    have hr1 := block_below hB1 hr0
    clear hT0 hn0 hr0  hB1
    obtain ⟨nc0, nc1, nc2, nc3, nc4, nc5, nc6⟩ := cells7' hn1
    obtain ⟨⟨rc0, rc1, rc2, rc3, rc4⟩, rf0, rf1, rf2, rf3, rf4⟩ := cells5 hr1
    go_wp2_with fail
    clear nc0 nc1 nc2 nc3 nc4 nc5 nc6 rc0 rc1 rc2 rc3 rc4 rf0 rf1 rf2 rf3 rf4
    exact bodyPost_ret (v := .tuple #[FV.v zeroFV, .bool false]) (results_f1 (f := zeroFV) (u := .bool false) rfl _ rfl rfl (set5_obj hr1 _ _ _ _ _)) rfl (⟨zeroFV, rfl, fis_zero, (below_g hT1 (set5_grown _ _ _ _ _ _ _) (by omega))⟩)
  obtain ⟨hlt, hat⟩ := nextF_mem hq
  rw [hF] at hat
  obtain ⟨k, hk⟩ : ∃ k, atN N = k := ⟨_, rfl⟩
  rw [hk] at hlt hat
  rw [h.q.len] at hlt
  have Hk := Lib.hid (show (if hasN N then atN N else 0) = k by rw [hq, hk]; rfl)
  have Hq := Lib.hid hq
  clear hk hq hF hok
  obtain ⟨qa, qm, qc, la, lm, lc, kk, ga, gm, gc⟩ := n
  dsimp only at hlt hm
  obtain ⟨ad, f, F0, hqa, hF0, ha, hf⟩ := h.q.at_ hlt
  dsimp only at hqa
  subst hqa
  obtain rfl : F = F0 := Option.some.inj (hat.symm.trans hF0)
  clear hat hF0
  obtain ⟨w0, hw0⟩ : ∃ w0, ((w.alloc (.cells #[.slice (some ad) qm qc, .slice la lm lc, .int .i64 kk.t, .int .i64 kk.r, .int .i64 kk.s, .int .i64 kk.q, .slice ga gm gc] 49)).alloc (.cells #[.bool false, .int .i64 0, .bool false, .int .i64 0, .slice none 0 0] 34)) = w0 := ⟨_, rfl⟩
  have hT0 : Below w.heap.size w w0 := by rw [← hw0]; exact below_then (below_alloc1 _ _) (below_alloc1 _ _)
  have hn0 : w0.heap[w.heap.size]? = some (.cells #[.slice (some ad) qm qc, .slice la lm lc, .int .i64 kk.t, .int .i64 kk.r, .int .i64 kk.s, .int .i64 kk.q, .slice ga gm gc] 49) := by rw [← hw0]; exact block_below (below_alloc1 _ _) (World.alloc_heap_new _ _)
  have hr0 : w0.heap[(w.heap.size + 1)]? = some (.cells #[.bool false, .int .i64 0, .bool false, .int .i64 0, .slice none 0 0] 34) := by rw [← hw0]; exact alloc_at _ _ (by simp)
  have hs0 : w0.heap.size = w.heap.size + 2 := by rw [← hw0]; simp
  have Hs0 := Lib.hid hs0
  clear hs0
  obtain ⟨nc0, nc1, nc2, nc3, nc4, nc5, nc6⟩ := cells7' hn0
  obtain ⟨rc0, rc1, rc2, rc3, rc4⟩ := cells5' hr0
  go_enter Tryz.func83, Tryz.ntmps83
  go_wp2_with fail
  clear nc0 nc1 nc2 nc3 nc4 nc5 nc6 rc0 rc1 rc2 rc3 rc4
  clear hw0
  have hZ0 := Below.refl w0.heap.size w0
  refine (nextAt_c (n := ⟨some ad, qm, qc, la, lm, lc, kk, ga, gm, gc⟩) (h.to hT0) Hok.out.okq (by show qm ≤ 1000; omega) true Hq.out k Hk.out).mono ?_
  rintro e w1 ⟨rfl, hB1⟩
  have hT1 := below_then hT0 hB1
  have hZ1 := below_then hZ0 hB1
  clear hZ0
  have hn1 := block_below hB1 hn0
  have hr1 := block_below hB1 hr0
  clear hT0 hn0 hr0  hB1
  obtain ⟨a0, a1, a2, a3, a4⟩ := fat_to ha hT1
  have i1 : (k : Int) < (qm : Int) := by omega
  obtain ⟨nc0, nc1, nc2, nc3, nc4, nc5, nc6⟩ := cells7' hn1
  obtain ⟨⟨rc0, rc1, rc2, rc3, rc4⟩, rf0, rf1, rf2, rf3, rf4⟩ := cells5 hr1
  go_wp2_with fail
  clear nc0 nc1 nc2 nc3 nc4 nc5 nc6 rc0 rc1 rc2 rc3 rc4 rf0 rf1 rf2 rf3 rf4
  exact bodyPost_ret (v := .tuple #[FV.v f, .bool true]) (results_f1 (f := f) (u := .bool true) rfl _ rfl rfl (set5_obj hr1 _ _ _ _ _)) rfl (⟨f, rfl, hf.to (below_g hT1 (set5_grown _ _ _ _ _ _ _) (by omega)), (below_g hT1 (set5_grown _ _ _ _ _ _ _) (by omega))⟩)
theorem sent_c {w : World} {P : Nat → Prop} {n : NV} {N : NC} (h : NIs w P n N) (hok : OkN N) (hP : ∀ b, w.heap.size ≤ b → P b) (ok : Bool) (M : NC) (hM : sentN N ok = M) :
    Calls Tryz.prog 73 #[n.v, .bool ok] w fun e w' => ∃ n' : NV, e = .returned n'.v ∧ NIs w' P n' M ∧ Below w.heap.size w w' := by
  have hm := qm_le h hok
  have hkk := okC_of_nis h hok
  have Hok := Lib.hid hok
  obtain ⟨q, hq⟩ : ∃ q, hasN N = q := ⟨_, rfl⟩
  unfold sentN at hM
  rw [hq] at hM
  cases q
  · skip
    obtain rfl : N = M := hM
    have Hq := Lib.hid hq
    clear hq hok
    obtain ⟨w0, hw0⟩ : ∃ w0, ((w.alloc (.cells #[.slice n.qa n.qm n.qc, .slice n.la n.lm n.lc, .int .i64 n.k.t, .int .i64 n.k.r, .int .i64 n.k.s, .int .i64 n.k.q, .slice n.ga n.gm n.gc] 49)).alloc (.cells #[.slice none 0 0, .slice none 0 0, .int .i64 0, .int .i64 0, .int .i64 0, .int .i64 0, .slice none 0 0] 49)) = w0 := ⟨_, rfl⟩
    have hT0 : Below w.heap.size w w0 := by rw [← hw0]; exact below_then (below_alloc1 _ _) (below_alloc1 _ _)
    have hn0 : w0.heap[w.heap.size]? = some (.cells #[.slice n.qa n.qm n.qc, .slice n.la n.lm n.lc, .int .i64 n.k.t, .int .i64 n.k.r, .int .i64 n.k.s, .int .i64 n.k.q, .slice n.ga n.gm n.gc] 49) := by rw [← hw0]; exact block_below (below_alloc1 _ _) (World.alloc_heap_new _ _)
    have hr0 : w0.heap[(w.heap.size + 1)]? = some (.cells #[.slice none 0 0, .slice none 0 0, .int .i64 0, .int .i64 0, .int .i64 0, .int .i64 0, .slice none 0 0] 49) := by rw [← hw0]; exact alloc_at _ _ (by simp)
    have hs0 : w0.heap.size = w.heap.size + 2 := by rw [← hw0]; simp
    have Hs0 := Lib.hid hs0
    clear hs0
    obtain ⟨nc0, nc1, nc2, nc3, nc4, nc5, nc6⟩ := cells7' hn0
    obtain ⟨rc0, rc1, rc2, rc3, rc4, rc5, rc6⟩ := cells7' hr0
    go_enter Tryz.func73, Tryz.ntmps73
    go_wp2_with fail
    clear nc0 nc1 nc2 nc3 nc4 nc5 nc6 rc0 rc1 rc2 rc3 rc4 rc5 rc6
    clear hw0
    have hZ0 := Below.refl w0.heap.size w0
    refine (nextAt_c (h.to hT0) Hok.out.okq (by omega) false Hq.out 0 (by rw [Hq.out]; rfl)).mono ?_
    rintro e w1 ⟨rfl, hB1⟩
    have hT1 := below_then hT0 hB1
    have hZ1 := below_then hZ0 hB1
    clear hZ0
    have hn1 := block_below hB1 hn0
    have hr1 := block_below hB1 hr0
    clear hT0 hn0 hr0  hB1
    obtain ⟨nc0, nc1, nc2, nc3, nc4, nc5, nc6⟩ := cells7' hn1
    obtain ⟨⟨rc0, rc1, rc2, rc3, rc4, rc5, rc6⟩, rf0, rf1, rf2, rf3, rf4, rf5, rf6⟩ := cells7 hr1
    go_wp2_with fail
    clear nc0 nc1 nc2 nc3 nc4 nc5 nc6 rc0 rc1 rc2 rc3 rc4 rc5 rc6 rf0 rf1 rf2 rf3 rf4 rf5 rf6
    exact bodyPost_ret (v := NV.v n) (results_n (n := n) rfl _ rfl (set7_obj hr1 _ _ _ _ _ _ _)) rfl (⟨n, rfl, h.to (below_g hT1 (set7_grown _ _ _ _ _ _ _ _ _) (by omega)), (below_g hT1 (set7_grown _ _ _ _ _ _ _ _ _) (by omega))⟩)
  obtain ⟨hlt, _⟩ := nextF_mem hq
  obtain ⟨k, hk⟩ : ∃ k, atN N = k := ⟨_, rfl⟩
  rw [hk] at hlt hM
  rw [h.q.len] at hlt
  have Hk := Lib.hid (show (if hasN N then atN N else 0) = k by rw [hq, hk]; rfl)
  have Hq := Lib.hid hq
  clear hk hq hok
  cases ok
  · skip
    obtain ⟨d, hd⟩ : ∃ d, stepV n.k 3 = d := ⟨_, rfl⟩
    have Hd := Lib.hid hd
    obtain rfl : (⟨N.q, N.l, d, N.g⟩ : NC) = M := by rw [← hM, ← hd, h.k]; rfl
    clear hd hM
    obtain ⟨w0, hw0⟩ : ∃ w0, ((w.alloc (.cells #[.slice n.qa n.qm n.qc, .slice n.la n.lm n.lc, .int .i64 n.k.t, .int .i64 n.k.r, .int .i64 n.k.s, .int .i64 n.k.q, .slice n.ga n.gm n.gc] 49)).alloc (.cells #[.slice none 0 0, .slice none 0 0, .int .i64 0, .int .i64 0, .int .i64 0, .int .i64 0, .slice none 0 0] 49)) = w0 := ⟨_, rfl⟩
    have hT0 : Below w.heap.size w w0 := by rw [← hw0]; exact below_then (below_alloc1 _ _) (below_alloc1 _ _)
    have hn0 : w0.heap[w.heap.size]? = some (.cells #[.slice n.qa n.qm n.qc, .slice n.la n.lm n.lc, .int .i64 n.k.t, .int .i64 n.k.r, .int .i64 n.k.s, .int .i64 n.k.q, .slice n.ga n.gm n.gc] 49) := by rw [← hw0]; exact block_below (below_alloc1 _ _) (World.alloc_heap_new _ _)
    have hr0 : w0.heap[(w.heap.size + 1)]? = some (.cells #[.slice none 0 0, .slice none 0 0, .int .i64 0, .int .i64 0, .int .i64 0, .int .i64 0, .slice none 0 0] 49) := by rw [← hw0]; exact alloc_at _ _ (by simp)
    have hs0 : w0.heap.size = w.heap.size + 2 := by rw [← hw0]; simp
    have Hs0 := Lib.hid hs0
    clear hs0
    obtain ⟨nc0, nc1, nc2, nc3, nc4, nc5, nc6⟩ := cells7' hn0
    obtain ⟨rc0, rc1, rc2, rc3, rc4, rc5, rc6⟩ := cells7' hr0
    go_enter Tryz.func73, Tryz.ntmps73
    go_wp2_with fail
    clear nc0 nc1 nc2 nc3 nc4 nc5 nc6 rc0 rc1 rc2 rc3 rc4 rc5 rc6
    clear hw0
    have hZ0 := Below.refl w0.heap.size w0
    refine (nextAt_c (h.to hT0) Hok.out.okq (by omega) true Hq.out k Hk.out).mono ?_
    rintro e w1 ⟨rfl, hB1⟩
    have hT1 := below_then hT0 hB1
    have hZ1 := below_then hZ0 hB1
    clear hZ0
    have hn1 := block_below hB1 hn0
    have hr1 := block_below hB1 hr0
    clear hT0 hn0 hr0  hB1
    obtain ⟨nc0, nc1, nc2, nc3, nc4, nc5, nc6⟩ := cells7' hn1
    obtain ⟨rc0, rc1, rc2, rc3, rc4, rc5, rc6⟩ := cells7' hr1
    go_wp2_with fail
    clear nc0 nc1 nc2 nc3 nc4 nc5 nc6 rc0 rc1 rc2 rc3 rc4 rc5 rc6
    refine (counted_c n d 3 Hd.out hkk w1).mono ?_
    rintro e w2 ⟨rfl, hB2⟩
    have hT2 := below_then hT1 hB2
    have hZ2 := below_then hZ1 hB2
    clear hZ1
    have hn2 := block_below hB2 hn1
    have hr2 := block_below hB2 hr1
    clear hT1 hn1 hr1  hB2
    obtain ⟨nc0, nc1, nc2, nc3, nc4, nc5, nc6⟩ := cells7' hn2
    obtain ⟨⟨rc0, rc1, rc2, rc3, rc4, rc5, rc6⟩, rf0, rf1, rf2, rf3, rf4, rf5, rf6⟩ := cells7 hr2
    go_wp2_with fail
    clear nc0 nc1 nc2 nc3 nc4 nc5 nc6 rc0 rc1 rc2 rc3 rc4 rc5 rc6 rf0 rf1 rf2 rf3 rf4 rf5 rf6
    exact bodyPost_ret (v := NV.v ⟨n.qa, n.qm, n.qc, n.la, n.lm, n.lc, d, n.ga, n.gm, n.gc⟩) (results_n (n := ⟨n.qa, n.qm, n.qc, n.la, n.lm, n.lc, d, n.ga, n.gm, n.gc⟩) rfl _ rfl (set7_obj hr2 _ _ _ _ _ _ _)) rfl (⟨⟨n.qa, n.qm, n.qc, n.la, n.lm, n.lc, d, n.ga, n.gm, n.gc⟩, rfl, ⟨h.q.to (below_g hT2 (set7_grown _ _ _ _ _ _ _ _ _) (by omega)), h.l.to (below_g hT2 (set7_grown _ _ _ _ _ _ _ _ _) (by omega)), rfl, h.g.to (below_g hT2 (set7_grown _ _ _ _ _ _ _ _ _) (by omega))⟩, (below_g hT2 (set7_grown _ _ _ _ _ _ _ _ _) (by omega))⟩)
  obtain ⟨d, hd⟩ : ∃ d, stepV n.k 1 = d := ⟨_, rfl⟩
  have Hd := Lib.hid hd
  obtain ⟨Gs, hGs⟩ : ∃ Gs, N.q.eraseIdx k = Gs := ⟨_, rfl⟩
  have HGs := Lib.hid hGs
  obtain rfl : (⟨Gs, N.l, d, N.g⟩ : NC) = M := by rw [← hM, ← hd, ← hGs, h.k]; rfl
  clear hd hM hGs
  obtain ⟨m, hmm⟩ : ∃ m, m + 1 = n.qm := ⟨n.qm - 1, by omega⟩
  have Hm := Lib.hid hmm
  clear hmm
  obtain ⟨w0, hw0⟩ : ∃ w0, ((w.alloc (.cells #[.slice n.qa n.qm n.qc, .slice n.la n.lm n.lc, .int .i64 n.k.t, .int .i64 n.k.r, .int .i64 n.k.s, .int .i64 n.k.q, .slice n.ga n.gm n.gc] 49)).alloc (.cells #[.slice none 0 0, .slice none 0 0, .int .i64 0, .int .i64 0, .int .i64 0, .int .i64 0, .slice none 0 0] 49)) = w0 := ⟨_, rfl⟩
  have hT0 : Below w.heap.size w w0 := by rw [← hw0]; exact below_then (below_alloc1 _ _) (below_alloc1 _ _)
  have hn0 : w0.heap[w.heap.size]? = some (.cells #[.slice n.qa n.qm n.qc, .slice n.la n.lm n.lc, .int .i64 n.k.t, .int .i64 n.k.r, .int .i64 n.k.s, .int .i64 n.k.q, .slice n.ga n.gm n.gc] 49) := by rw [← hw0]; exact block_below (below_alloc1 _ _) (World.alloc_heap_new _ _)
  have hr0 : w0.heap[(w.heap.size + 1)]? = some (.cells #[.slice none 0 0, .slice none 0 0, .int .i64 0, .int .i64 0, .int .i64 0, .int .i64 0, .slice none 0 0] 49) := by rw [← hw0]; exact alloc_at _ _ (by simp)
  have hs0 : w0.heap.size = w.heap.size + 2 := by rw [← hw0]; simp
  have Hs0 := Lib.hid hs0
  clear hs0
  obtain ⟨nc0, nc1, nc2, nc3, nc4, nc5, nc6⟩ := cells7' hn0
  obtain ⟨rc0, rc1, rc2, rc3, rc4, rc5, rc6⟩ := cells7' hr0
  go_enter Tryz.func73, Tryz.ntmps73
  go_wp2_with fail
  clear nc0 nc1 nc2 nc3 nc4 nc5 nc6 rc0 rc1 rc2 rc3 rc4 rc5 rc6
  clear hw0
  have hZ0 := Below.refl w0.heap.size w0
  refine (nextAt_c (h.to hT0) Hok.out.okq (by omega) true Hq.out k Hk.out).mono ?_
  rintro e w1 ⟨rfl, hB1⟩
  have hT1 := below_then hT0 hB1
  have hZ1 := below_then hZ0 hB1
  clear hZ0
  have hn1 := block_below hB1 hn0
  have hr1 := block_below hB1 hr0
  clear hT0 hn0 hr0  hB1
  obtain ⟨nc0, nc1, nc2, nc3, nc4, nc5, nc6⟩ := cells7' hn1
  obtain ⟨rc0, rc1, rc2, rc3, rc4, rc5, rc6⟩ := cells7' hr1
  go_wp2_with fail
  clear nc0 nc1 nc2 nc3 nc4 nc5 nc6 rc0 rc1 rc2 rc3 rc4 rc5 rc6
  refine (without_c ((h.q.gap (w.heap.size + 2)).to hT1) (fun b hb => gap_up hP (by omega) b (by have := hT1.size; have := (Array.getElem?_eq_some_iff.1 hr1).1; omega)) k hlt m Hm.out (by omega) Gs HGs.out).mono ?_
  rintro e w2 ⟨A2, c2, rfl, hs_, hB2⟩
  have hT2 := below_then hT1 hB2
  have hZ2 := below_then hZ1 hB2
  clear hZ1
  have hn2 := block_below hB2 hn1
  have hr2 := block_below hB2 hr1
  clear hT1 hn1 hr1  hB2
  have hs2 := hs_
  clear hs_
  obtain ⟨⟨nc0, nc1, nc2, nc3, nc4, nc5, nc6⟩, nf0, nf1, nf2, nf3, nf4, nf5, nf6⟩ := cells7 hn2
  obtain ⟨⟨rc0, rc1, rc2, rc3, rc4, rc5, rc6⟩, rf0, rf1, rf2, rf3, rf4, rf5, rf6⟩ := cells7 hr2
  go_wp2_with fail
  clear nc0 nc1 nc2 nc3 nc4 nc5 nc6 nf0 nf1 nf2 nf3 nf4 nf5 nf6 rc0 rc1 rc2 rc3 rc4 rc5 rc6 rf0 rf1 rf2 rf3 rf4 rf5 rf6
  obtain ⟨w3, hw3⟩ : ∃ w_, w2.setCell ⟨w.heap.size, 0, none⟩ (.slice A2 m c2) = w_ := ⟨_, rfl⟩
  have hG3 : w2.grownBy w3 (some w.heap.size) := by rw [← hw3]; exact grown_setAt _ _ _ _
  have hT3 := below_g hT2 hG3 (by omega)
  have hn3 : w3.heap[w.heap.size]? = some (.cells #[.slice A2 m c2, .slice n.la n.lm n.lc, .int .i64 n.k.t, .int .i64 n.k.r, .int .i64 n.k.s, .int .i64 n.k.q, .slice n.ga n.gm n.gc] 49) := by rw [← hw3]; exact set0_obj7 hn2 _
  have hr3 := other_g hG3 hr2 (by omega)
  have hs3 := FSl.grow hs2 hG3 (gap_not (by omega) (by omega))
  rw [hw3]
  clear hw3 hG3 hT2 hn2 hr2 hs2
  refine (counted_c ⟨A2, m, c2, n.la, n.lm, n.lc, n.k, n.ga, n.gm, n.gc⟩ d 1 Hd.out hkk w3).mono ?_
  rintro e w4 ⟨rfl, hB4⟩
  have hT4 := below_then hT3 hB4
  have hn4 := block_below hB4 hn3
  have hr4 := block_below hB4 hr3
  have hs4 := FSl.to hs3 hB4
  clear hT3 hn3 hr3 hs3 hB4
  obtain ⟨nc0, nc1, nc2, nc3, nc4, nc5, nc6⟩ := cells7' hn4
  obtain ⟨⟨rc0, rc1, rc2, rc3, rc4, rc5, rc6⟩, rf0, rf1, rf2, rf3, rf4, rf5, rf6⟩ := cells7 hr4
  go_wp2_with fail
  clear nc0 nc1 nc2 nc3 nc4 nc5 nc6 rc0 rc1 rc2 rc3 rc4 rc5 rc6 rf0 rf1 rf2 rf3 rf4 rf5 rf6
  exact bodyPost_ret (v := NV.v ⟨A2, m, c2, n.la, n.lm, n.lc, d, n.ga, n.gm, n.gc⟩) (results_n (n := ⟨A2, m, c2, n.la, n.lm, n.lc, d, n.ga, n.gm, n.gc⟩) rfl _ rfl (set7_obj hr4 _ _ _ _ _ _ _)) rfl (⟨⟨A2, m, c2, n.la, n.lm, n.lc, d, n.ga, n.gm, n.gc⟩, rfl, ⟨(hs4.grow (set7_grown _ _ _ _ _ _ _ _ _) (gap_not (by omega) (by omega))).ungap, h.l.to (below_g hT4 (set7_grown _ _ _ _ _ _ _ _ _) (by omega)), rfl, h.g.to (below_g hT4 (set7_grown _ _ _ _ _ _ _ _ _) (by omega))⟩, (below_g hT4 (set7_grown _ _ _ _ _ _ _ _ _) (by omega))⟩)
end Go.Proofs.YtcifjccojmfpaaaGreat

