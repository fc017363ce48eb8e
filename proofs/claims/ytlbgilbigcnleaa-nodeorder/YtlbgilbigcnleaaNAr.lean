/-
  ArbA · ArbB · ArbC · ArbR · ArbM · ArbN · ArbL · Two · FrTwo · Ord6: what this seat needs of them.
-/
import Derived.Test.YtlbgilbigcnleaaNBi
import Derived.Test.YtlbgilbigcnleaaNFr
import Derived.Test.YtlbgilbigcnleaaNRk
import Derived.Test.YtlbgilbigcnleaaNAm
import Derived.Lib.JoinLaws
import Derived.Deep.OwnRows
import Derived.Lib.MinMax
namespace Go.Proofs.Ytlbgilbigcnleaa
open Go.RowKit
set_option linter.unusedVariables false
set_option linter.unusedSimpArgs false

def idxGe (l : List Int) (v : Int) : Bool := decide (0 ≤ idxI v l)

theorem idxGe_mem (l : List Int) (v : Int) : idxGe l v = decide (v ∈ l) := by
  unfold idxGe
  rcases idxI_cases v l with ⟨h1, h2⟩ | ⟨k, h1, _, h2⟩
  · simp [h1, h2]
  · have := List.mem_of_getElem? h1
    simp [this, h2]

/-- A frame as it lies in memory. -/
structure FV where
  x : Bool
  i : Int
  r : Bool
  n : Int
  a : Option Addr
  m : Nat
  c : Nat

abbrev FV.v (f : FV) : Value := .agg #[.bool f.x, .int .i64 f.i, .bool f.r, .int .i64 f.n, .slice f.a f.m f.c]

def FV.cs (f : FV) : List Value := [.bool f.x, .int .i64 f.i, .bool f.r, .int .i64 f.n, .slice f.a f.m f.c]

def FAt (w : World) (a : Addr) (f : FV) : Prop :=
  w.cell? a = some (.bool f.x) ∧ w.cell? ⟨a.block, a.off + 1, none⟩ = some (.int .i64 f.i) ∧ w.cell? ⟨a.block, a.off + 2, none⟩ = some (.bool f.r) ∧ w.cell? ⟨a.block, a.off + 3, none⟩ = some (.int .i64 f.n) ∧ w.cell? ⟨a.block, a.off + 4, none⟩ = some (.slice f.a f.m f.c)

/-- A slice of frames. -/
def FRow (w : World) (B : Nat) (A : Option Addr) (fs : List FV) : Prop :=
  fs = [] ∨ ∃ ad, A = some ad ∧ ad.block < B ∧ ∀ k f, fs[k]? = some f → FAt w (ad.add (k * 5)) f

/-- Its identifier is one of its kind. -/
def FOk (f : FV) : Prop := ∃ ID : Nat, f.i = ID ∧ idOk f.x ID

def rankF (f : FV) : List Int := rankV f.x f.i.toNat f.r

def ranks (fs : List FV) : List (List Int) := fs.map rankF

theorem rankF_len (f : FV) : (rankF f).length = rn f.x := rankV_len _ _ _

theorem FRow.get_ {w : World} {B : Nat} {A : Option Addr} {fs : List FV} (h : FRow w B A fs) {k : Nat} (hk : k < fs.length) : ∃ ad f, A = some ad ∧ fs[k]? = some f ∧ FAt w (ad.add (k * 5)) f := by
  rcases h with rfl | ⟨ad, e, _, hc⟩
  · simp at hk
  · exact ⟨ad, fs[k], e, List.getElem?_eq_getElem hk, hc k _ (List.getElem?_eq_getElem hk)⟩

theorem FRow.move {w w' : World} {B : Nat} {A : Option Addr} {fs : List FV} (h : FRow w B A fs) (hk : ∀ p : Addr, p.block < B → w'.cell? p = w.cell? p) : FRow w' B A fs := by
  rcases h with rfl | ⟨ad, e, hb, hc⟩
  · exact .inl rfl
  · refine .inr ⟨ad, e, hb, fun k f hf => ?_⟩
    obtain ⟨h0, h1, h2, h3, h4⟩ := hc k f hf
    have hb' : (ad.add (k * 5)).block < B := by rw [addr_block]; exact hb
    exact ⟨(hk _ hb').trans h0, (hk ⟨_, _, none⟩ hb').trans h1, (hk ⟨_, _, none⟩ hb').trans h2, (hk ⟨_, _, none⟩ hb').trans h3, (hk ⟨_, _, none⟩ hb').trans h4⟩

theorem FRow.more {w : World} {B B' : Nat} {A : Option Addr} {fs : List FV} (h : FRow w B A fs) (hB : B ≤ B') : FRow w B' A fs := by
  rcases h with rfl | ⟨ad, e, hb, hc⟩
  · exact .inl rfl
  · exact .inr ⟨ad, e, by omega, hc⟩

theorem FRow.below {w w' : World} {B : Nat} {A : Option Addr} {fs : List FV} (h : FRow w B A fs) (hb : Below B w w') : FRow w' B A fs := h.move fun _ hp => hb.cell hp

theorem FRow.to {a b : World} {A : Option Addr} {fs : List FV} (h : FRow a a.heap.size A fs) (k : Below a.heap.size a b) : FRow b b.heap.size A fs := (h.below k).more k.size

theorem rankF_at (f : FV) (hf : FOk f) (n : Nat) (hn : (rankF f).length = n) (w : World) :
    Calls Try.prog 70 #[f.v] w fun e w' => ∃ ad c', e = .returned (.slice (some ad) n c') ∧ Row .i64 w' w'.heap.size (some ad) (rankF f) ∧ n ≤ c' ∧ Below w.heap.size w w' ∧ w.heap.size ≤ ad.block := by
  obtain ⟨x, i, r, m, a, l, c⟩ := f
  obtain ⟨ID, rfl, hID⟩ := hf
  have e : rn x = n := by rw [← hn, rankF_len]
  refine (rank_new x ID r m a l c hID n e w).mono ?_
  rintro e' w' ⟨A', c', rfl, hr, hc, hB, hfr⟩
  obtain ⟨ad, rfl⟩ := hr.some_ (by rw [rankV_len]; cases x <;> decide)
  exact ⟨ad, c', rfl, by simpa [rankF] using hr, hc, hB, hfr ad rfl⟩

theorem grown_setRow (w : World) (G : Nat) (cs : Array Value) : w.grownBy (w.setRow G cs) (some G) :=
  ⟨rfl, rfl, rfl, by simp [World.setRow], fun k _ hk => setRow_other _ _ _ _ (by intro e; subst e; exact hk rfl)⟩

theorem below_setRow {w : World} {B G : Nat} (cs : Array Value) (h : B ≤ G) : Below B w (w.setRow G cs) :=
  ⟨rfl, rfl, rfl, by simp [World.setRow], fun k hk => setRow_other _ _ _ _ (by omega)⟩

def isFn (v : Value) : Prop := ∀ n, v ≠ .int .i64 n

theorem below_grown {w w' : World} (b : Below w.heap.size w w') (row : Option Nat) : w.grownBy w' row := ⟨b.os, b.tape, b.output, b.size, fun k hk _ => b.block k hk⟩


theorem isFn_nil : isFn .nilFunc := fun n e => by cases e

/-- A number's lowest bit. -/
def low (x : Int) : Int := bits .and .i64 x 1

theorem low_01 (x : Int) : low x = 0 ∨ low x = 1 := by
  have e : low x = IntKind.i64.wrap ((BitVec.ofInt 64 x &&& BitVec.ofInt 64 ((1 : Nat) : Int)).toNat : Int) := rfl
  rw [e, BitVec.ofInt_natCast, BitVec.toNat_and, BitVec.toNat_ofNat, Nat.mod_eq_of_lt (show 1 < 2 ^ 64 by omega), Nat.and_one_is_mod, IntKind.wrap_i64]
  omega

def lowM (M : Nat) (l : List Int) : List Int := (l.take M).map low

theorem lowM_right (M : Nat) (l : List Int) : rightB (lowM M l) = true := by
  unfold rightB lowM
  rw [List.all_eq_true]
  intro x hx
  obtain ⟨y, _, rfl⟩ := List.mem_map.1 hx
  simpa using low_01 y

theorem map_snoc {l : List Int} {k : Nat} {x : Int} (f : Int → Int) (hx : l[k]? = some x) : (l.take (k + 1)).map f = (l.take k).map f ++ [f x] := by
  rw [take_snoc hx, List.map_append]; rfl

theorem refRankF_at (f : FV) (hf : FOk f) (n : Nat) (hn : (rankF f).length = n) (w : World) :
    Calls Try.prog 33 #[f.v] w fun e w' => ∃ A' c', e = .returned (.slice A' n c') ∧ Row .i64 w' w'.heap.size A' (rankF f) ∧ n ≤ c' ∧ Below w.heap.size w w' := by
  obtain ⟨x, i, r, m, a, l, c⟩ := f
  obtain ⟨ID, rfl, hID⟩ := hf
  have e : rn x = n := by rw [← hn, rankF_len]
  subst e
  cases x
  · refine (refRankS_at ID r m a l c hID w).mono ?_
    rintro e w' ⟨A', c', rfl, h1, h2, h3⟩
    exact ⟨A', c', rfl, by simpa [rankF, rankV] using h1, h2, h3⟩
  · refine (refRankX_at ID r m a l c hID w).mono ?_
    rintro e w' ⟨A', c', rfl, h1, h2, h3⟩
    exact ⟨A', c', rfl, by simpa [rankF, rankV] using h1, h2, h3⟩

/-- What is left of a number under a mask. -/
theorem and_mask (i : Int) (M : Nat) (hM : M < 4611686018427387904) : ∃ U : Nat, bits .and .i64 i M = U ∧ U ≤ M := by
  refine ⟨(BitVec.ofInt 64 i).toNat &&& M, ?_, Nat.and_le_right⟩
  have e : bits .and .i64 i M = IntKind.i64.wrap ((BitVec.ofInt 64 i &&& BitVec.ofInt 64 (M : Int)).toNat : Int) := rfl
  have hle : (BitVec.ofInt 64 i).toNat &&& M ≤ M := Nat.and_le_right
  rw [e, BitVec.ofInt_natCast, BitVec.toNat_and, BitVec.toNat_ofNat, Nat.mod_eq_of_lt (show M < 2 ^ 64 by omega), IntKind.wrap_i64]
  omega

/-- The identifier of a frame that is made. -/
def idm (x : Bool) (i : Int) : Int := if x then bits .and .i64 i 536870911 else bits .and .i64 i 2047

theorem idm_ok (x : Bool) (i : Int) : ∃ U : Nat, idm x i = U ∧ idOk x U := by
  cases x
  · obtain ⟨U, h1, h2⟩ := and_mask i 2047 (by omega)
    exact ⟨U, h1, by simp [idOk]; omega⟩
  · obtain ⟨U, h1, h2⟩ := and_mask i 536870911 (by omega)
    exact ⟨U, h1, by simp [idOk]; omega⟩

/-- A frame that is made of f. -/
structure MadeOf (w' : World) (f f' : FV) : Prop where
  x : f'.x = f.x
  r : f'.r = f.r
  i : f'.i = idm f.x f.i
  small : f'.m ≤ 8
  cap : f'.m ≤ f'.c
  data : ∃ dl : List Int, dl.length = f'.m ∧ Row .u8 w' w'.heap.size f'.a dl

theorem MadeOf.ok {w' : World} {f f' : FV} (h : MadeOf w' f f') : FOk f' := by
  obtain ⟨U, h1, h2⟩ := idm_ok f.x f.i
  exact ⟨U, h.i.trans h1, by rw [h.x]; exact h2⟩

theorem blk2 (w : World) (o1 o2 o3 : Obj) : (((w.alloc o1).alloc o2).alloc o3).heap[w.heap.size + 1]? = some o2 :=
  block_below (below_alloc1 _ _) (by have := World.alloc_heap_new (w.alloc o1) o2; simpa using this)

theorem blk2' (w : World) (o1 o2 o3 o4 : Obj) : ((((w.alloc o1).alloc o2).alloc o3).alloc o4).heap[w.heap.size + 1]? = some o2 :=
  block_below (below_alloc1 _ _) (blk2 w o1 o2 o3)

theorem blk3 (w : World) (o1 o2 o3 o4 : Obj) : ((((w.alloc o1).alloc o2).alloc o3).alloc o4).heap[w.heap.size + 1 + 1]? = some o3 :=
  block_below (below_alloc1 _ _) (by have := World.alloc_heap_new ((w.alloc o1).alloc o2) o3; simpa using this)

theorem below3 (w : World) (o1 o2 o3 : Obj) : Below w.heap.size w (((w.alloc o1).alloc o2).alloc o3) := below_then (below_then (below_alloc1 _ _) (below_alloc1 _ _)) (below_alloc1 _ _)

theorem below4 (w : World) (o1 o2 o3 o4 : Obj) : Below w.heap.size w ((((w.alloc o1).alloc o2).alloc o3).alloc o4) := below_then (below3 _ _ _ _) (below_alloc1 _ _)

theorem own_empty (κ : IntKind) (W : World) (base g : Nat) (t : TypeId) (hg : g = W.heap.size) (hb : base ≤ W.heap.size) : (W.alloc (.cells #[] t)).ownsRow base t 1 (.slice (some ⟨g, 0, none⟩) 0 0) 0 (([] : List Int).map (Value.int κ)) := by
  subst hg
  exact ⟨rfl, .inr ⟨W.heap.size, 0, _, rfl, hb, World.alloc_heap_new _ _, Nat.zero_le _, by decide, by simp, by simp⟩⟩

theorem Try.infoU8 : (Try.prog.info? 5).map (fun i => (i.zero, i.size, i.bytes)) = some (some (.int .u8 0), 1, 1) := by kernel_rfl

def fcells (fs : List FV) : List Value := fs.flatMap FV.cs

theorem fcells_len (fs : List FV) : (fcells fs).length = fs.length * 5 := by
  induction fs with
  | nil => rfl
  | cons f fs ih => simp only [fcells, List.flatMap_cons, List.length_append, List.length_cons] at ih ⊢; rw [ih]; simp [FV.cs]; omega

theorem fcells_app (a b : List FV) : fcells (a ++ b) = fcells a ++ fcells b := by simp [fcells]

theorem fcells_at : ∀ (fs : List FV) (k : Nat) (f : FV), fs[k]? = some f → (fcells fs)[k * 5]? = some (.bool f.x) ∧ (fcells fs)[k * 5 + 1]? = some (.int .i64 f.i) ∧ (fcells fs)[k * 5 + 2]? = some (.bool f.r) ∧ (fcells fs)[k * 5 + 3]? = some (.int .i64 f.n) ∧ (fcells fs)[k * 5 + 4]? = some (.slice f.a f.m f.c)
  | [], k, f, h => by simp at h
  | g :: fs, 0, f, h => by
    simp at h
    subst h
    simp [fcells, FV.cs]
  | g :: fs, k + 1, f, h => by
    obtain ⟨h0, h1, h2, h3, h4⟩ := fcells_at fs k f (by simpa using h)
    have e : fcells (g :: fs) = FV.cs g ++ fcells fs := rfl
    have hl : (FV.cs g).length = 5 := rfl
    rw [e]
    refine ⟨?_, ?_, ?_, ?_, ?_⟩
    · rw [List.getElem?_append_right (by omega), hl, show (k + 1) * 5 - 5 = k * 5 by omega]; exact h0
    · rw [List.getElem?_append_right (by omega), hl, show (k + 1) * 5 + 1 - 5 = k * 5 + 1 by omega]; exact h1
    · rw [List.getElem?_append_right (by omega), hl, show (k + 1) * 5 + 2 - 5 = k * 5 + 2 by omega]; exact h2
    · rw [List.getElem?_append_right (by omega), hl, show (k + 1) * 5 + 3 - 5 = k * 5 + 3 by omega]; exact h3
    · rw [List.getElem?_append_right (by omega), hl, show (k + 1) * 5 + 4 - 5 = k * 5 + 4 by omega]; exact h4

theorem fcells_one (fs : List FV) : ∀ u ∈ fcells fs, u.oneCell' = true := by
  intro u hu
  obtain ⟨f, _, hf⟩ := List.mem_flatMap.1 hu
  simp only [FV.cs, List.mem_cons, List.not_mem_nil, or_false] at hf
  rcases hf with rfl | rfl | rfl | rfl | rfl <;> rfl

abbrev FOwn (w : World) (base : Nat) (A : Option Addr) (n c : Nat) (fs : List FV) : Prop := w.ownsRow base 30 5 (.slice A n c) n (fcells fs)

theorem add_pos (a : Addr) (i : Nat) (h : 0 < i) : a.add i = ⟨a.block, a.off + i, none⟩ := by
  unfold Addr.add
  split
  · omega
  · rfl

/-- The cells of a slice of frames, all told. -/
theorem FRow.cells {w : World} {B : Nat} {ad : Addr} {fs : List FV} (h : FRow w B (some ad) fs) : ∀ j u, (fcells fs)[j]? = some u → w.cell? (ad.add j) = some u := by
  intro j u hu
  rcases h with rfl | ⟨ad', e, _, hc⟩
  · simp [fcells] at hu
  · obtain rfl := Option.some.inj e
    have hj : j < fs.length * 5 := by rw [← fcells_len]; exact (List.getElem?_eq_some_iff.1 hu).1
    obtain ⟨f, hf⟩ : ∃ f, fs[j / 5]? = some f := ⟨_, List.getElem?_eq_getElem (by omega)⟩
    obtain ⟨h0, h1, h2, h3, h4⟩ := fcells_at fs (j / 5) f hf
    obtain ⟨g0, g1, g2, g3, g4⟩ := hc (j / 5) f hf
    have key : ∀ i, 0 < i → ad.add (j / 5 * 5 + i) = ⟨(ad.add (j / 5 * 5)).block, (ad.add (j / 5 * 5)).off + i, none⟩ := by
      intro i h0
      rw [← addr_add, add_pos _ _ h0]
    obtain ⟨K, hK⟩ : ∃ K, j / 5 = K := ⟨_, rfl⟩
    rw [hK] at h0 h1 h2 h3 h4 g0 g1 g2 g3 g4 key
    have hr : j = K * 5 ∨ j = K * 5 + 1 ∨ j = K * 5 + 2 ∨ j = K * 5 + 3 ∨ j = K * 5 + 4 := by omega
    clear hK hf hj
    rcases hr with rfl | rfl | rfl | rfl | rfl
    · rw [h0] at hu
      rw [← Option.some.inj hu]
      exact g0
    · rw [h1] at hu
      rw [key 1 (by omega), ← Option.some.inj hu]
      exact g1
    · rw [h2] at hu
      rw [key 2 (by omega), ← Option.some.inj hu]
      exact g2
    · rw [h3] at hu
      rw [key 3 (by omega), ← Option.some.inj hu]
      exact g3
    · rw [h4] at hu
      rw [key 4 (by omega), ← Option.some.inj hu]
      exact g4

theorem add0 (g k : Nat) : (⟨g, 0, none⟩ : Addr).add k = ⟨g, k, none⟩ := by unfold Addr.add; split <;> simp_all

theorem FRow.of_cells {w : World} {g : Nat} {fs : List FV} (hg : g < w.heap.size) (h : ∀ j u, (fcells fs)[j]? = some u → w.cell? ((⟨g, 0, none⟩ : Addr).add j) = some u) : FRow w w.heap.size (some ⟨g, 0, none⟩) fs := by
  refine .inr ⟨_, rfl, hg, fun k f hf => ?_⟩
  obtain ⟨h0, h1, h2, h3, h4⟩ := fcells_at fs k f hf
  have e : ∀ i, (⟨g, 0, none⟩ : Addr).add (k * 5 + i) = ⟨((⟨g, 0, none⟩ : Addr).add (k * 5)).block, ((⟨g, 0, none⟩ : Addr).add (k * 5)).off + i, none⟩ := by
    intro i
    rw [add0, add0]
  exact ⟨h _ _ h0, by rw [← e]; exact h _ _ h1, by rw [← e]; exact h _ _ h2, by rw [← e]; exact h _ _ h3, by rw [← e]; exact h _ _ h4⟩

theorem FRow.own {w : World} {base : Nat} {A : Option Addr} {n c : Nat} {fs : List FV} (h : FOwn w base A n c fs) : FRow w w.heap.size A fs := by
  rcases h.2 with ⟨e1, e2⟩ | ⟨g, cap, cur, e1, hb, hg, _, _, _, ht⟩
  · left
    have := h.1
    rw [fcells_len] at this
    cases fs with
    | nil => rfl
    | cons f fs => simp at this; omega
  · have hA : A = some ⟨g, 0, none⟩ := by injection e1
    subst hA
    exact FRow.of_cells (Array.getElem?_eq_some_iff.1 hg).1 (h.cells (g := g) rfl)

theorem FOwn.len {w : World} {base : Nat} {A : Option Addr} {n c : Nat} {fs : List FV} (h : FOwn w base A n c fs) : fs.length = n := by
  have := h.1
  rw [fcells_len] at this
  omega

theorem FOwn.cap {w : World} {base : Nat} {A : Option Addr} {n c : Nat} {fs : List FV} (h : FOwn w base A n c fs) : n ≤ c := by
  rcases h.2 with ⟨e1, e2⟩ | ⟨g, cap, cur, e1, hb, hg, hn, _⟩
  · omega
  · injection e1 with _ _ e; omega

theorem FRow.sub_ {w : World} {B : Nat} {A : Option Addr} {fs : List FV} (h : FRow w B A fs) (i j : Nat) (hij : i ≤ j) (hj : j ≤ fs.length) {A' : Option Addr} (hA : i < j → A' = A.map (·.add (i * 5))) : FRow w B A' ((fs.drop i).take (j - i)) := by
  by_cases hlt : i < j
  · rcases h with rfl | ⟨ad, e, hb, hc⟩
    · simp at hj; omega
    · right
      subst e
      refine ⟨ad.add (i * 5), by rw [hA hlt]; rfl, by rw [addr_block]; exact hb, fun k x hx => ?_⟩
      rw [addr_add, show i * 5 + k * 5 = (i + k) * 5 by omega]
      refine hc _ x ?_
      rw [List.getElem?_take] at hx
      split at hx
      · rw [List.getElem?_drop] at hx; exact hx
      · cases hx
  · left
    rw [show j - i = 0 by omega]; simp

theorem Try.infoFr : (Try.prog.info? 30).map (fun i => (i.zero, i.size, i.bytes)) = some (some (.agg #[.bool false, .int .i64 0, .bool false, .int .i64 0, .slice none 0 0]), 5, 56) := by kernel_rfl

theorem run_append_fr (w : World) (base : Nat) (ty : TypeId) (v : Value) (n : Nat) (fs : List FV) (hown : w.ownsRow base 30 5 v n (fcells fs))
    (A : Option Addr) (m c B : Nat) (fs' : List FV) (hm : fs'.length = m) (hr : FRow w B A fs') (h63 : n + m ≤ 1000) (hbase : base ≤ w.heap.size) :
    ∃ A' c' w', (Builtin.append_ #[22, 22] ty #[v, .slice A m c]).run Try.prog w = .ok (.slice A' (n + m) c') w' ∧ FOwn w' base A' (n + m) c' (fs ++ fs') ∧ n + m ≤ c' ∧ Below base w w' := by
  obtain ⟨i, hi, hz, hsize, hby⟩ := info_parts Try.infoFr
  have hu := Try.underlying22
  have form : ∀ (v' : Value) (w' : World), w'.ownsRow base 30 5 v' (n + m) (fcells (fs ++ fs')) → ∃ A' c', v' = .slice A' (n + m) c' ∧ n + m ≤ c' := by
    intro v' w' h
    rcases h.2 with ⟨rfl, h0⟩ | ⟨g, cap, cur, rfl, _, _, hc, _⟩
    · exact ⟨none, 0, by rw [h0], by omega⟩
    · exact ⟨_, _, rfl, hc⟩
  have low : ∀ k, v.ownBlock = some k → base ≤ k := fun k e => (hown.lt k e).1
  cases A with
  | some ad =>
    obtain ⟨v', w', hrun, h2, h3, _, _⟩ := run_append_own_at (P := Try.prog) w base 22 ty 30 i _ 5 56 hu hi hz hsize hby rfl (by omega) v n _ hown ad m c (fcells fs') (by rw [fcells_len, hm]) hr.cells (fcells_one fs') (by unfold maxLen; omega) (by omega) hbase
    rw [← fcells_app] at h2
    obtain ⟨A', c', rfl, hc'⟩ := form v' w' h2
    exact ⟨A', c', w', hrun, h2, hc', (Below.refl _ _).grown h3 hbase low⟩
  | none =>
    obtain rfl : fs' = [] := by
      rcases hr with rfl | ⟨ad, e', _⟩
      · rfl
      · cases e'
    obtain rfl : m = 0 := hm.symm
    have hrun : (Builtin.append_ #[22, 22] ty #[v, .slice none 0 c]).run Try.prog w = .ok v w := by
      rcases hown.2 with ⟨rfl, rfl⟩ | ⟨g, cap, cur, rfl, _, _, hnc, _⟩
      · simp [Builtin.append_, run_underlying hu, sizeOf, typeInfo, hi, Builtin.lenOf, Builtin.firstCells]
      · simp [Builtin.append_, run_underlying hu, sizeOf, typeInfo, hi, Builtin.lenOf, Builtin.firstCells, hnc, storeCells]
    have h2 : w.ownsRow base 30 5 v (n + 0) (fcells (fs ++ [])) := by simpa using hown
    obtain ⟨A', c', rfl, hc'⟩ := form v w h2
    exact ⟨A', c', w, hrun, h2, hc', Below.refl _ _⟩

theorem wpList_append_fr (w : World) {ops : Array Oper} {rest : List Oper} {o : Oper} {a : Act} {Q : Exit → Act → World → Prop} (hw : Region.wanted o (yielded ops a.tmps) = true) (s x : Operand)
    (ho : o.op = .call { callee := .builtin .append, args := #[s, x], argTypes := #[22, 22] })
    (base : Nat) (v : Value) (n : Nat) (fs : List FV) (hs : a.eval s = v) (hown : w.ownsRow base 30 5 v n (fcells fs))
    (A : Option Addr) (m c B : Nat) (fs' : List FV) (hx : a.eval x = .slice A m c) (hm : fs'.length = m) (hr : FRow w B A fs')
    (h63 : n + m ≤ 1000) (hbase : base ≤ w.heap.size)
    (h : ∀ A' c' w', FOwn w' base A' (n + m) c' (fs ++ fs') → n + m ≤ c' → Below base w w' → wpList Try.prog ops Q rest (a.put o.dst (.slice A' (n + m) c')) w') : wpList Try.prog ops Q (o :: rest) a w := by
  obtain ⟨A', c', w', hrun, h2, hc', h3⟩ := run_append_fr w base o.type v n fs hown A m c B fs' hm hr h63 hbase
  unfold wpList
  rw [if_pos hw]
  left
  unfold Oper.wp execOp
  simp only [ho, resolve, invoke, builtin, Sem.run_bind, Sem.run_pure, Result.andThen_ok, List.map_toArray, List.map_cons, List.map_nil, hs, hx, hrun]
  exact h A' c' w' h2 hc' h3

/-- One frame, written out in the text. -/
theorem FRow.lit1 (W : World) (f : FV) {k : Nat} (hk : k = W.heap.size) : FRow (W.alloc (.cells #[.bool f.x, .int .i64 f.i, .bool f.r, .int .i64 f.n, .slice f.a f.m f.c] 30)) (W.alloc (.cells #[.bool f.x, .int .i64 f.i, .bool f.r, .int .i64 f.n, .slice f.a f.m f.c] 30)).heap.size (some ⟨k, 0, none⟩) [f] := by
  subst hk
  refine FRow.of_cells (by simp) fun j u hu => ?_
  rw [add0]
  have hb := World.alloc_heap_new W (.cells #[.bool f.x, .int .i64 f.i, .bool f.r, .int .i64 f.n, .slice f.a f.m f.c] 30)
  simp only [World.cell?, hb]
  simpa [fcells, FV.cs] using hu

theorem fown_empty (W : World) (base g : Nat) (hg : g = W.heap.size) (hb : base ≤ W.heap.size) : FOwn (W.alloc (.cells #[] 30)) base (some ⟨g, 0, none⟩) 0 0 [] := by
  subst hg
  exact ⟨rfl, .inr ⟨W.heap.size, 0, _, rfl, hb, World.alloc_heap_new _ _, Nat.zero_le _, by decide, by simp, by simp [fcells]⟩⟩

/-- A frame that can be read whole. -/
def FData (w : World) (f : FV) : Prop := f.m ≤ maxLen ∧ f.m ≤ f.c ∧ ∃ dl : List Int, dl.length = f.m ∧ Row .u8 w w.heap.size f.a dl

theorem FData.to {w w' : World} {f : FV} (h : FData w f) (b : Below w.heap.size w w') : FData w' f := by
  obtain ⟨h1, h2, dl, h3, h4⟩ := h
  exact ⟨h1, h2, dl, h3, h4.to b⟩

theorem rightB_app (a b : List Int) : rightB (a ++ b) = (rightB a && rightB b) := by simp [rightB]

theorem flag_right (r : Bool) : rightB [flag r] = true := by cases r <;> decide

theorem flag_right2 (r : Bool) : rightB [flag r, 0] = true := by cases r <;> decide

theorem rankV_right (x : Bool) (ID : Nat) (r : Bool) : rightB (rankV x ID r) = true := by
  cases x
  · simp only [rankV, rankS, Bool.false_eq_true, if_false]
    rw [rightB_app, bitRow_right, flag_right2]; rfl
  · simp only [rankV, rankX, if_true]
    rw [rightB_app, rightB_app, rightB_app, bitRow_right, bitRow_right, flag_right]; decide

theorem rankF_right (f : FV) : rightB (rankF f) = true := rankV_right _ _ _

theorem rankF_ne (f : FV) : rankF f ≠ [] := by
  intro e
  have := rankF_len f
  rw [e] at this
  cases h : f.x <;> rw [h] at this <;> cases this

theorem rankF_le (f : FV) : (rankF f).length ≤ 32 := by rw [rankF_len]; cases f.x <;> decide

theorem first_diff : ∀ (m : Nat) (a b : List Int), m ≤ a.length → m ≤ b.length → a.take m ≠ b.take m → ∃ k x y, k < m ∧ a.take k = b.take k ∧ a[k]? = some x ∧ b[k]? = some y ∧ x ≠ y
  | 0, a, b, _, _, h => absurd (by simp) h
  | m + 1, [], b, h, _, _ => by simp at h
  | m + 1, _ :: _, [], _, h, _ => by simp at h
  | m + 1, x :: a, y :: b, ha, hb, h => by
    by_cases e : x = y
    · subst e
      obtain ⟨k, u, v, h1, h2, h3, h4, h5⟩ := first_diff m a b (by simpa using ha) (by simpa using hb) (by simpa using h)
      exact ⟨k + 1, u, v, by omega, by simp [h2], by simpa using h3, by simpa using h4, h5⟩
    · exact ⟨0, x, y, by omega, by simp, by simp, by simp, e⟩

theorem cmp_of {a b : List Int} (ha : rightB a = true) (hb : rightB b = true) {k : Nat} {x y : Int} (h1 : a.take k = b.take k) (h2 : a[k]? = some x) (h3 : b[k]? = some y) (h4 : x ≠ y) : lessR a b ∨ lessR b a := by
  rcases rightB_at ha h2 with rfl | rfl <;> rcases rightB_at hb h3 with rfl | rfl
  · exact absurd rfl h4
  · exact .inl ⟨k, h1, h2, h3⟩
  · exact .inr ⟨k, h1.symm, h3, h2⟩
  · exact absurd rfl h4

/-- Of two right frames' ranks one is ahead of the other, if they are not alike. -/
theorem rank_cmp {f g : FV} (hf : FOk f) (hg : FOk g) : rankF f = rankF g ∨ lessR (rankF f) (rankF g) ∨ lessR (rankF g) (rankF f) := by
  obtain ⟨a, ha, ia⟩ := hf
  obtain ⟨b, hb, ib⟩ := hg
  have ea : rankF f = rankV f.x a f.r := by unfold rankF; rw [ha]; simp
  have eb : rankF g = rankV g.x b g.r := by unfold rankF; rw [hb]; simp
  rw [ea, eb]
  by_cases h : (rankV f.x a f.r).take (min (rn f.x) (rn g.x)) = (rankV g.x b g.r).take (min (rn f.x) (rn g.x))
  · obtain ⟨h1, h2, h3⟩ := (rankV_pre ia ib).1 h
    left
    rw [h1, h2, h3]
  · right
    obtain ⟨k, x, y, _, h1, h2, h3, h4⟩ := first_diff _ _ _ (by rw [rankV_len]; omega) (by rw [rankV_len]; omega) h
    exact cmp_of (rankV_right _ _ _) (rankV_right _ _ _) h1 h2 h3 h4

theorem ranks_mem {fs : List FV} {r : List Int} (h : r ∈ ranks fs) : ∃ f ∈ fs, rankF f = r := by
  obtain ⟨f, h1, h2⟩ := List.mem_map.1 h
  exact ⟨f, h1, h2⟩

theorem least_fs (fs : List FV) (hok : ∀ f ∈ fs, FOk f) : ∃ W q, LeastE W (ranks fs) ∧ W.length = q ∧ q ≤ 32 := by
  obtain ⟨W, hW⟩ := least_ex (ranks fs) (fun a ha b hb => by
      obtain ⟨f, hf, rfl⟩ := ranks_mem ha
      obtain ⟨g, hg, rfl⟩ := ranks_mem hb
      exact rank_cmp (hok f hf) (hok g hg)) (fun r hr => by
      obtain ⟨f, hf, rfl⟩ := ranks_mem hr
      exact rankF_right f) (fun r hr => by
      obtain ⟨f, hf, rfl⟩ := ranks_mem hr
      exact rankF_ne f)
  refine ⟨W, _, hW, rfl, ?_⟩
  by_cases e : W = []
  · rw [e]; simp
  · obtain ⟨f, _, hf⟩ := ranks_mem (hW.mem e)
    rw [← hf]
    exact rankF_le f

theorem least_of (fs : List FV) (hok : ∀ f ∈ fs, FOk f) (f0 : FV) (h0 : f0 ∈ fs) (h : ∀ f ∈ fs, lessB (rankF f) (rankF f0) = false) : LeastE (rankF f0) (ranks fs) where
  all := by
    intro r hr
    obtain ⟨f, hf, rfl⟩ := ranks_mem hr
    rcases rank_cmp (hok f hf) (hok f0 h0) with e | e | e
    · exact .inl e
    · have := h f hf
      rw [lessB_yes e] at this
      cases this
    · exact .inr e
  mem := fun _ => List.mem_map.2 ⟨f0, h0, rfl⟩
  right := fun r hr => by
    obtain ⟨f, hf, rfl⟩ := ranks_mem hr
    exact rankF_right f
  rw_ := rankF_right f0
  none_ := fun e => by
    have : rankF f0 ∈ ranks fs := List.mem_map.2 ⟨f0, h0, rfl⟩
    rw [e] at this
    cases this
  pos := fun r hr => by
    obtain ⟨f, hf, rfl⟩ := ranks_mem hr
    exact rankF_ne f

/-- Frames, written out in the text. -/
theorem FRow.lit (W : World) (fs : List FV) {cs : Array Value} (hcs : cs = (fcells fs).toArray) {k : Nat} (hk : k = W.heap.size) : FRow (W.alloc (.cells cs 30)) (W.alloc (.cells cs 30)).heap.size (some ⟨k, 0, none⟩) fs := by
  subst hk hcs
  refine FRow.of_cells (by simp) fun j u hu => ?_
  rw [add0]
  have hb := World.alloc_heap_new W (.cells (fcells fs).toArray 30)
  simp only [World.cell?, hb]
  simpa using hu

theorem Row.at_ {κ : IntKind} {w : World} {B : Nat} {ad : Addr} {l : List Int} (h : Row κ w B (some ad) l) {k : Nat} {x : Int} (hx : l[k]? = some x) : w.cell? (ad.add k) = some (.int κ x) := by
  rcases h with rfl | ⟨ad', e, _, hc⟩
  · simp at hx
  · cases e
    exact hc k x hx

/-- The two own no block together. -/
def TwoRows (v v2 : Value) : Prop := ∀ g, v.ownBlock = some g → v2.ownBlock ≠ some g

theorem TwoRows.symm {v v2 : Value} (h : TwoRows v v2) : TwoRows v2 v := fun g e e' => h g e' e

theorem own_low {w : World} {base base' : Nat} {e : TypeId} {size : Nat} {v : Value} {n : Nat} {xs : List Value} (h : w.ownsRow base e size v n xs) (hb : base' ≤ base) : w.ownsRow base' e size v n xs := by
  refine ⟨h.1, ?_⟩
  rcases h.2 with h0 | ⟨g, cap, cur, hv, hg, hrest⟩
  · exact .inl h0
  · exact .inr ⟨g, cap, cur, hv, by omega, hrest⟩

theorem own_kept {w w' : World} {base : Nat} {e : TypeId} {size : Nat} {v v2 : Value} {n : Nat} {xs : List Value} (h : w.ownsRow base e size v2 n xs) (hg : w.grownBy w' v.ownBlock) (ht : TwoRows v v2) : w'.ownsRow base e size v2 n xs := by
  refine h.kept hg ?_
  rcases h.2 with ⟨rfl, _⟩ | ⟨g, cap, cur, rfl, _⟩
  · exact .inl rfl
  · refine .inr fun e' => ?_
    exact ht g (by rw [← e']; rfl) rfl

theorem wpList_append_two {P : Program} (w : World) {ops : Array Oper} {rest : List Oper} {o : Oper} {a : Act} {Q : Exit → Act → World → Prop} (κ : IntKind) (hw : Region.wanted o (yielded ops a.tmps) = true) (s x : Operand) (t : TypeId)
    (ho : o.op = .call { callee := .builtin .append, args := #[s, x], argTypes := #[t, t] })
    (base : Nat) (e : TypeId) (i : TypeInfo) (z : Value) (bytes : Nat) (ht : P.underlying t = some (.slice e)) (hi : P.info? e = some i) (hz : i.zero = some z)
    (hsize : i.size = 1) (hby : i.bytes = bytes) (hzs : z.cells.size = 1)
    (v : Value) (n : Nat) (l : List Int) (hs : a.eval s = v) (hown : w.ownsRow base e 1 v n (l.map (Value.int κ)))
    (ad : Addr) (m c B : Nat) (l' : List Int) (hx : a.eval x = .slice (some ad) m c) (hm : l'.length = m) (hr : Row κ w B (some ad) l')
    (h63 : n + m ≤ maxLen) (hbytes : (n + m) * bytes ≤ 140737488355328) (hbase : base ≤ w.heap.size)
    (v2 : Value) (n2 : Nat) (xs2 : List Value) (hown2 : w.ownsRow base e 1 v2 n2 xs2) (hT : TwoRows v v2)
    (h : ∀ A' c' w', w'.ownsRow base e 1 (.slice A' (n + m) c') (n + m) ((l ++ l').map (Value.int κ)) → Below base w w' → w'.ownsRow base e 1 v2 n2 xs2 → TwoRows (.slice A' (n + m) c') v2 → wpList P ops Q rest (a.put o.dst (.slice A' (n + m) c')) w') : wpList P ops Q (o :: rest) a w := by
  have hcells : ∀ j u, (l'.map (Value.int κ))[j]? = some u → w.cell? (ad.add j) = some u := by
    intro j u hu
    rw [List.getElem?_map, Option.map_eq_some_iff] at hu
    obtain ⟨x, hx, rfl⟩ := hu
    exact hr.at_ hx
  obtain ⟨v', w', hrun, h2, h3, _, h5⟩ := run_append_own_at (P := P) w base t o.type e i z 1 bytes ht hi hz hsize hby hzs (by omega) v n _ hown ad m c _ (by simp [hm]) hcells (ints_one κ l') h63 hbytes hbase
  rw [← List.map_append] at h2
  have hB : Below base w w' := (Below.refl _ _).grown h3 hbase (fun k e => (hown.lt k e).1)
  have k2 : w'.ownsRow base e 1 v2 n2 xs2 := own_kept hown2 h3 hT
  have kT : TwoRows v' v2 := by
    intro g e1 e2
    rcases h5 with h5 | h5
    · rw [h5] at e1; exact hT g e1 e2
    · rw [h5] at e1
      cases e1
      have := (hown2.lt _ e2).2
      omega
  obtain ⟨A', c', rfl⟩ : ∃ A' c', v' = .slice A' (n + m) c' := by
    rcases h2.2 with ⟨rfl, h0⟩ | ⟨g, cap, cur, rfl, _⟩
    · exact ⟨none, 0, by rw [h0]⟩
    · exact ⟨_, _, rfl⟩
  unfold wpList
  rw [if_pos hw]
  left
  unfold Oper.wp execOp
  simp only [ho, resolve, invoke, builtin, Sem.run_bind, Sem.run_pure, Result.andThen_ok, List.map_toArray, List.map_cons, List.map_nil, hs, hx, hrun]
  exact h A' c' w' h2 hB k2 kT

theorem FRow.at_lt {w : World} {B : Nat} {A : Option Addr} {fs : List FV} (h : FRow w B A fs) {k : Nat} {f : FV} (hf : fs[k]? = some f) : ∃ ad, A = some ad ∧ FAt w (ad.add (k * 5)) f := by
  rcases h with rfl | ⟨ad, e, _, hc⟩
  · simp at hf
  · exact ⟨ad, e, hc k f hf⟩

theorem wpList_append_fr2 (w : World) {ops : Array Oper} {rest : List Oper} {o : Oper} {a : Act} {Q : Exit → Act → World → Prop} (hw : Region.wanted o (yielded ops a.tmps) = true) (s x : Operand)
    (ho : o.op = .call { callee := .builtin .append, args := #[s, x], argTypes := #[22, 22] })
    (base : Nat) (v : Value) (n : Nat) (fs : List FV) (hs : a.eval s = v) (hown : w.ownsRow base 30 5 v n (fcells fs))
    (ad : Addr) (m c B : Nat) (fs' : List FV) (hx : a.eval x = .slice (some ad) m c) (hm : fs'.length = m) (hr : FRow w B (some ad) fs')
    (h63 : n + m ≤ 1000) (hbase : base ≤ w.heap.size)
    (v2 : Value) (n2 : Nat) (xs2 : List Value) (hown2 : w.ownsRow base 30 5 v2 n2 xs2) (hT : TwoRows v v2)
    (h : ∀ A' c' w', FOwn w' base A' (n + m) c' (fs ++ fs') → n + m ≤ c' → Below base w w' → w'.ownsRow base 30 5 v2 n2 xs2 → TwoRows (.slice A' (n + m) c') v2 → wpList Try.prog ops Q rest (a.put o.dst (.slice A' (n + m) c')) w') : wpList Try.prog ops Q (o :: rest) a w := by
  obtain ⟨i, hi, hz, hsize, hby⟩ := info_parts Try.infoFr
  obtain ⟨v', w', hrun, h2, h3, _, h5⟩ := run_append_own_at (P := Try.prog) w base 22 o.type 30 i _ 5 56 Try.underlying22 hi hz hsize hby rfl (by omega) v n _ hown ad m c (fcells fs') (by rw [fcells_len, hm]) hr.cells (fcells_one fs') (by unfold maxLen; omega) (by omega) hbase
  rw [← fcells_app] at h2
  have hB : Below base w w' := (Below.refl _ _).grown h3 hbase (fun k e => (hown.lt k e).1)
  have k2 : w'.ownsRow base 30 5 v2 n2 xs2 := own_kept hown2 h3 hT
  have kT : TwoRows v' v2 := by
    intro g e1 e2
    rcases h5 with h5 | h5
    · rw [h5] at e1; exact hT g e1 e2
    · rw [h5] at e1
      cases e1
      have := (hown2.lt _ e2).2
      omega
  obtain ⟨A', c', rfl, hc'⟩ : ∃ A' c', v' = .slice A' (n + m) c' ∧ n + m ≤ c' := by
    rcases h2.2 with ⟨rfl, h0⟩ | ⟨g, cap, cur, rfl, _, _, hc, _⟩
    · exact ⟨none, 0, by rw [h0], by omega⟩
    · exact ⟨_, _, rfl, hc⟩
  unfold wpList
  rw [if_pos hw]
  left
  unfold Oper.wp execOp
  simp only [ho, resolve, invoke, builtin, Sem.run_bind, Sem.run_pure, Result.andThen_ok, List.map_toArray, List.map_cons, List.map_nil, hs, hx, hrun]
  exact h A' c' w' h2 hc' hB k2 kT

/-- The least is the least among fewer, if it is there. -/
theorem LeastE.less {W : List Int} {rs rs' : List (List Int)} (h : LeastE W rs) (hs : ∀ r ∈ rs', r ∈ rs) (hW : W ∈ rs') : LeastE W rs' where
  all := fun r hr => h.all r (hs r hr)
  mem := fun _ => hW
  right := fun r hr => h.right r (hs r hr)
  rw_ := h.rw_
  none_ := fun e => by rw [e] at hW; cases hW
  pos := fun r hr => h.pos r (hs r hr)

theorem ranks_sub {gs hs : List FV} (h : ∀ f ∈ hs, f ∈ gs) : ∀ r ∈ ranks hs, r ∈ ranks gs := by
  intro r hr
  obtain ⟨f, hf, rfl⟩ := ranks_mem hr
  exact List.mem_map.2 ⟨f, h f hf, rfl⟩

theorem rank_in {gs : List FV} {f : FV} (h : f ∈ gs) : rankF f ∈ ranks gs := List.mem_map.2 ⟨f, h, rfl⟩

/-- One frame, written out in the text, is the call's own. -/
theorem fown_lit1 (W : World) (f : FV) (base : Nat) {k : Nat} (hk : k = W.heap.size) (hb : base ≤ W.heap.size) : FOwn (W.alloc (.cells #[.bool f.x, .int .i64 f.i, .bool f.r, .int .i64 f.n, .slice f.a f.m f.c] 30)) base (some ⟨k, 0, none⟩) 1 1 [f] := by
  subst hk
  exact ⟨rfl, .inr ⟨W.heap.size, 1, _, rfl, hb, World.alloc_heap_new _ _, Nat.le_refl _, by decide, by simp, by simp [fcells, FV.cs]⟩⟩

/-- The first difference that is not 0. -/
def firstD : List Int → List Int → Int
  | a :: s, b :: t => if a - b = 0 then firstD s t else a - b
  | _, _ => 0

theorem firstD_nil (t : List Int) : firstD [] t = 0 := by simp [firstD]

theorem firstD_nil' (s : List Int) : firstD s [] = 0 := by cases s <;> simp [firstD]

theorem bit_row (n a b : Nat) (ha : a < 2 ^ n) (hb : b < 2 ^ n) : ∀ s t : List Int,
    (a < b → firstD (bitRow a n n ++ s) (bitRow b n n ++ t) < 0) ∧ (a = b → firstD (bitRow a n n ++ s) (bitRow b n n ++ t) = firstD s t) ∧ (b < a → 0 < firstD (bitRow a n n ++ s) (bitRow b n n ++ t)) := by
  induction n generalizing a b with
  | zero =>
    intro s t
    have h1 : a = 0 := by omega
    have h2 : b = 0 := by omega
    subst h1 h2
    exact ⟨by omega, fun _ => rfl, by omega⟩
  | succ n ih =>
    intro s t
    rw [Nat.pow_succ] at ha hb
    have ea : bitRow a (n + 1) (n + 1) = bitRow (a / 2) n n ++ [((a % 2 : Nat) : Int)] := by
      have := bitRow_snoc (a / 2) (a % 2) n (Nat.mod_lt _ (by omega))
      rwa [show 2 * (a / 2) + a % 2 = a by omega] at this
    have eb : bitRow b (n + 1) (n + 1) = bitRow (b / 2) n n ++ [((b % 2 : Nat) : Int)] := by
      have := bitRow_snoc (b / 2) (b % 2) n (Nat.mod_lt _ (by omega))
      rwa [show 2 * (b / 2) + b % 2 = b by omega] at this
    rw [ea, eb, List.append_assoc, List.append_assoc]
    obtain ⟨i1, i2, i3⟩ := ih (a / 2) (b / 2) (by omega) (by omega) ([((a % 2 : Nat) : Int)] ++ s) ([((b % 2 : Nat) : Int)] ++ t)
    by_cases h : a / 2 = b / 2
    · rw [i2 h]
      simp only [List.cons_append, List.nil_append, firstD]
      refine ⟨fun hl => ?_, fun he => ?_, fun hl => ?_⟩
      · rw [if_neg (by omega)]; omega
      · rw [if_pos (by subst he; omega)]
      · rw [if_neg (by omega)]; omega
    · rcases Nat.lt_or_gt_of_ne h with h | h
      · exact ⟨fun _ => i1 h, fun he => by subst he; omega, fun hl => by omega⟩
      · exact ⟨fun hl => by omega, fun he => by subst he; omega, fun _ => i3 h⟩

theorem orderSS {a b : Nat} {r s : Bool} (ha : a < 2048) (hb : b < 2048) :
    (a < b → firstD (rankS a r) (rankS b s) < 0) ∧ (a = b → firstD (rankS a r) (rankS b s) = flag r - flag s) ∧ (b < a → 0 < firstD (rankS a r) (rankS b s)) := by
  obtain ⟨h1, h2, h3⟩ := bit_row 11 a b (by omega) (by omega) [flag r, 0] [flag s, 0]
  refine ⟨h1, fun e => ?_, h3⟩
  unfold rankS
  rw [h2 e]
  cases r <;> cases s <;> rfl

theorem orderXX {a b : Nat} {r s : Bool} (ha : a < 536870912) (hb : b < 536870912) :
    (a < b → firstD (rankX a r) (rankX b s) < 0) ∧ (a = b → firstD (rankX a r) (rankX b s) = flag r - flag s) ∧ (b < a → 0 < firstD (rankX a r) (rankX b s)) := by
  obtain ⟨h1, h2, h3⟩ := bit_row 11 (a / 262144) (b / 262144) (by omega) (by omega) ([1, 1] ++ (bitRow (a % 262144) 18 18 ++ [flag r])) ([1, 1] ++ (bitRow (b % 262144) 18 18 ++ [flag s]))
  obtain ⟨g1, g2, g3⟩ := bit_row 18 (a % 262144) (b % 262144) (Nat.mod_lt _ (by omega)) (Nat.mod_lt _ (by omega)) [flag r] [flag s]
  have mid : firstD ([1, 1] ++ (bitRow (a % 262144) 18 18 ++ [flag r])) ([1, 1] ++ (bitRow (b % 262144) 18 18 ++ [flag s])) = firstD (bitRow (a % 262144) 18 18 ++ [flag r]) (bitRow (b % 262144) 18 18 ++ [flag s]) := by
    simp [firstD]
  have last : firstD [flag r] [flag s] = flag r - flag s := by cases r <;> cases s <;> rfl
  unfold rankX
  by_cases h : a / 262144 = b / 262144
  · rw [h2 h, mid]
    exact ⟨fun hl => g1 (by omega), fun e => by rw [g2 (by omega), last], fun hl => g3 (by omega)⟩
  · rcases Nat.lt_or_gt_of_ne h with h | h
    · exact ⟨fun _ => h1 h, fun e => by omega, fun hl => by omega⟩
    · exact ⟨fun hl => by omega, fun e => by omega, fun _ => h3 h⟩

theorem orderSX {a b : Nat} {r s : Bool} (ha : a < 2048) (hb : b < 536870912) : (a = b / 262144 → firstD (rankS a r) (rankX b s) < 0) ∧ firstD (rankS a r) (rankX b s) ≠ 0 := by
  obtain ⟨h1, h2, h3⟩ := bit_row 11 a (b / 262144) (by omega) (by omega) [flag r, 0] ([1, 1] ++ (bitRow (b % 262144) 18 18 ++ [flag s]))
  have last : firstD [flag r, 0] ([1, 1] ++ (bitRow (b % 262144) 18 18 ++ [flag s])) = -1 := by cases r <;> simp [firstD, flag]
  unfold rankS rankX
  refine ⟨fun e => by rw [h2 e, last]; decide, ?_⟩
  by_cases h : a = b / 262144
  · rw [h2 h, last]; decide
  · rcases Nat.lt_or_gt_of_ne h with h | h
    · have := h1 h; omega
    · have := h3 h; omega

theorem less_firstD : ∀ (a b : List Int), rightB a = true → rightB b = true → firstD a b < 0 → lessR a b
  | [], b, _, _, h => by rw [firstD_nil] at h; omega
  | a :: s, [], _, _, h => by rw [firstD_nil'] at h; omega
  | a :: s, b :: t, ha, hb, h => by
    have ha0 := rightB_at ha (k := 0) (x := a) rfl
    have hb0 := rightB_at hb (k := 0) (x := b) rfl
    by_cases e : a - b = 0
    · rw [firstD, if_pos e] at h
      obtain rfl : a = b := by omega
      obtain ⟨k, h1, h2, h3⟩ := less_firstD s t (by simpa using rightB_drop ha 1) (by simpa using rightB_drop hb 1) h
      exact ⟨k + 1, by simp [h1], by simpa using h2, by simpa using h3⟩
    · rw [firstD, if_neg e] at h
      obtain ⟨rfl, rfl⟩ : a = 0 ∧ b = 1 := by omega
      exact ⟨0, by simp, by simp, by simp⟩

/-- Of one kind the lesser identifier is ahead. -/
theorem rank_lt {x : Bool} {i j : Nat} {r s : Bool} (hi : idOk x i) (hj : idOk x j) (h : i < j) : lessR (rankV x i r) (rankV x j s) := by
  refine less_firstD _ _ (rankV_right _ _ _) (rankV_right _ _ _) ?_
  cases x
  · exact (orderSS (r := r) (s := s) hi hj).1 h
  · exact (orderXX (r := r) (s := s) hi hj).1 h

theorem rank_data {i : Nat} (hi : i < 2048) : lessR (rankV false i false) (rankV false i true) := by
  refine less_firstD _ _ (rankV_right _ _ _) (rankV_right _ _ _) ?_
  show firstD (rankS i false) (rankS i true) < 0
  rw [(orderSS (r := false) (s := true) hi hi).2.1 rfl]
  decide

theorem rank_ext {i j : Nat} {r s : Bool} (hi : i < 2048) (hj : j < 262144) : lessR (rankV false i r) (rankV true (i * 262144 + j) s) := by
  refine less_firstD _ _ (rankV_right _ _ _) (rankV_right _ _ _) ?_
  exact (orderSX (r := r) (s := s) hi (by omega)).1 (by omega)

/-- The least of some, and who wins. -/
theorem least_is (fs : List FV) {W : List Int} (h0 : W ∈ ranks fs) (h : ∀ f ∈ fs, rankF f = W ∨ lessR W (rankF f)) : LeastE W (ranks fs) where
  all := fun r hr => by obtain ⟨f, hf, rfl⟩ := ranks_mem hr; exact h f hf
  mem := fun _ => h0
  right := fun r hr => by obtain ⟨f, _, rfl⟩ := ranks_mem hr; exact rankF_right f
  rw_ := by obtain ⟨f, _, rfl⟩ := ranks_mem h0; exact rankF_right f
  none_ := fun e => by rw [e] at h0; cases h0
  pos := fun r hr => by obtain ⟨f, _, rfl⟩ := ranks_mem hr; exact rankF_ne f

theorem less_ne {a b : List Int} (h : lessR a b) : b ≠ a := fun e => less_irr (e ▸ h)

theorem win_two {f g : FV} (h : lessR (rankF f) (rankF g)) : LeastE (rankF f) (ranks [f, g]) ∧ winOf (rankF f) (ranks [f, g]) = 0 ∧ LeastE (rankF f) (ranks [g, f]) ∧ winOf (rankF f) (ranks [g, f]) = 1 := by
  refine ⟨least_is _ (by simp [ranks]) ?_, winOf_at (i := 0) (by simp [ranks]) (by intro j hj; omega), least_is _ (by simp [ranks]) ?_, winOf_at (i := 1) (by simp [ranks]) ?_⟩
  · intro x hx
    simp only [List.mem_cons, List.not_mem_nil, or_false] at hx
    rcases hx with rfl | rfl
    · exact .inl rfl
    · exact .inr h
  · intro x hx
    simp only [List.mem_cons, List.not_mem_nil, or_false] at hx
    rcases hx with rfl | rfl
    · exact .inr h
    · exact .inl rfl
  · intro j hj
    obtain rfl : j = 0 := by omega
    simpa [ranks] using less_ne h

theorem win_three {f g k : FV} (h : lessR (rankF f) (rankF g)) (h' : lessR (rankF f) (rankF k)) : LeastE (rankF f) (ranks [k, g, f]) ∧ winOf (rankF f) (ranks [k, g, f]) = 2 := by
  refine ⟨least_is _ (by simp [ranks]) ?_, winOf_at (i := 2) (by simp [ranks]) ?_⟩
  · intro x hx
    simp only [List.mem_cons, List.not_mem_nil, or_false] at hx
    rcases hx with rfl | rfl | rfl
    · exact .inr h'
    · exact .inr h
    · exact .inl rfl
  · intro j hj
    have : j = 0 ∨ j = 1 := by omega
    rcases this with rfl | rfl
    · simpa [ranks] using less_ne h'
    · simpa [ranks] using less_ne h

theorem and_keep_ (U k : Nat) (hk : k ≤ 61) (h : U < 2 ^ k) : bits .and .i64 (U : Int) ((2 ^ k - 1 : Nat) : Int) = U := by
  have e : bits .and .i64 (U : Int) ((2 ^ k - 1 : Nat) : Int) = IntKind.i64.wrap ((BitVec.ofInt 64 (U : Int) &&& BitVec.ofInt 64 ((2 ^ k - 1 : Nat) : Int)).toNat : Int) := rfl
  have h2 : 2 ^ k ≤ 2 ^ 61 := Nat.pow_le_pow_right (by omega) hk
  rw [e, BitVec.ofInt_natCast, BitVec.ofInt_natCast, BitVec.toNat_and, BitVec.toNat_ofNat, BitVec.toNat_ofNat, Nat.mod_eq_of_lt (show U < 2 ^ 64 by omega), Nat.mod_eq_of_lt (show 2 ^ k - 1 < 2 ^ 64 by omega), Nat.and_two_pow_sub_one_eq_mod, Nat.mod_eq_of_lt h, IntKind.wrap_i64]
  omega

theorem idm_keep_ {f : FV} (h : FOk f) : idm f.x f.i = f.i := by
  obtain ⟨U, e, hU⟩ := h
  rw [e]
  cases hx : f.x <;> rw [hx] at hU
  · exact and_keep_ U 11 (by omega) hU
  · exact and_keep_ U 29 (by omega) hU

/-- A row of bytes lies in no frame's block. -/
theorem row_ne {w : World} {B : Nat} {ad : Addr} {l : List Int} (h : Row .u8 w B (some ad) l) (h0 : l ≠ []) {F : Nat} {x r : Bool} {i n : Int} {D : Option Addr} {m c : Nat} {t : TypeId} (hF : w.heap[F]? = some (.cells #[.bool x, .int .i64 i, .bool r, .int .i64 n, .slice D m c] t)) : ad.block ≠ F := by
  intro e
  obtain ⟨y, l', rfl⟩ : ∃ y l', l = y :: l' := by cases l with | nil => exact absurd rfl h0 | cons y l' => exact ⟨y, l', rfl⟩
  have hc := h.at_ (k := 0) (x := y) rfl
  have hh : w.heap[(ad.add 0).block]? = some (.cells #[.bool x, .int .i64 i, .bool r, .int .i64 n, .slice D m c] t) := by rw [addr_block, e]; exact hF
  simp only [World.cell?, hh] at hc
  have hm : Value.int .u8 y ∈ [Value.bool x, .int .i64 i, .bool r, .int .i64 n, .slice D m c] := by
    have h2 := hc
    simp at h2
    first
      | exact List.mem_of_getElem? h2.2
      | exact List.mem_of_getElem? h2
  simp at hm

theorem row_set5 {w : World} {A : Option Addr} {l : List Int} (h : Row .u8 w w.heap.size A l) {F : Nat} {x r : Bool} {i n : Int} {D : Option Addr} {m c : Nat} {t : TypeId} (hF : w.heap[F]? = some (.cells #[.bool x, .int .i64 i, .bool r, .int .i64 n, .slice D m c] t)) (v0 v1 v2 v3 v4 : Value) : Row .u8 (set5 w F v0 v1 v2 v3 v4) (set5 w F v0 v1 v2 v3 v4).heap.size A l := by
  by_cases h0 : l = []
  · exact .inl h0
  · have hg := set5_grown w F v0 v1 v2 v3 v4
    rcases h with e | ⟨ad, rfl, hb, hc⟩
    · exact .inl e
    · have hne := row_ne (.inr ⟨ad, rfl, hb, hc⟩) h0 hF
      exact .inr ⟨ad, rfl, Nat.lt_of_lt_of_le hb hg.size, fun k y hy => hg.cell (hc k y hy) (by simp [addr_block]; exact hne)⟩

end Go.Proofs.Ytlbgilbigcnleaa
