/-
  ArbA · ArbB · ArbC: what this seat needs of them.
-/
import Derived.Test.YtajabpjphobabaaTBi
import Derived.Test.YtajabpjphobabaaTFr
import Derived.Test.YtajabpjphobabaaTSt
import Derived.Test.YtajabpjphobabaaTCr
import Derived.Test.YtajabpjphobabaaTWi
import Derived.Test.YtajabpjphobabaaTRk
import Derived.Test.YtajabpjphobabaaTAm
import Derived.Lib.JoinLaws
import Derived.Deep.OwnRows
namespace Go.Proofs.Ytajabpjphobabaa
open Go.RowKit
set_option linter.unusedVariables false
set_option linter.unusedSimpArgs false

set_option maxHeartbeats 800000 in
theorem index_any (l : List Int) (v : Int) (n : Nat) (hn : l.length = n) (A : Option Addr) (c B : Nat) (w : World) (h : Row .i64 w B A l) (hl : n ≤ maxLen) :
    Calls Try.prog 34 #[.slice A n c, .int .i64 v] w fun e w' => e = .returned (.int .i64 (idxI v l)) ∧ w = w' := by
  unfold maxLen at hl
  have Hn := Lib.hid hn
  clear hn
  go_enter Try.func34, Try.ntmps34
  go_wp2
  go_loop [8] (fun i => ∃ k : Nat, k ≤ n ∧ i = .int .i64 k ∧ (∀ j : Nat, j < k → l[j]? ≠ some v)) (fun i => n - (intOf i).toNat)
  case atStart => exact ⟨0, Nat.zero_le _, rfl, fun j hj => absurd hj (by omega)⟩
  case round =>
    obtain ⟨k, hk, rfl, hr⟩ := hrel
    have Hr := Lib.hid hr
    clear hr
    by_cases hlt : k < n
    · obtain ⟨ad, x, rfl, hx, hc⟩ := h.get_ (k := k) (by rw [Hn.out]; exact hlt)
      have Hx := Lib.hid hx
      clear hx
      by_cases hxy : v = x
      · have hd2 : (v == x) = true := by simp [hxy]
        have Hxy := Lib.hid hxy
        clear hxy
        go_wp2
        go_ret
        refine ⟨ret_int ?_, rfl⟩
        exact (idxI_at (by rw [Hx.out, Hxy.out]) Hr.out).symm
      · have hd2 : (v == x) = false := by simp [hxy]
        have Hxy := Lib.hid hxy
        clear hxy
        go_wp2
        go_round
        case measure => simp [intOf]; omega
        refine ⟨k + 1, by omega, by go_num, fun j hj => ?_⟩
        by_cases hjk : j < k
        · exact Hr.out j hjk
        · obtain rfl : j = k := by omega
          rw [Hx.out]
          exact fun e => Hxy.out (Option.some.inj e).symm
    · obtain rfl : k = n := by omega
      go_wp2
      go_ret
      refine ⟨ret_int ?_, rfl⟩
      refine (idxI_none fun hm => ?_).symm
      obtain ⟨j, hj, e⟩ := List.getElem_of_mem hm
      exact Hr.out j (by rw [← Hn.out]; exact hj) (by rw [List.getElem?_eq_getElem hj, e])

def idxGe (l : List Int) (v : Int) : Bool := decide (0 ≤ idxI v l)

theorem idxGe_mem (l : List Int) (v : Int) : idxGe l v = decide (v ∈ l) := by
  unfold idxGe
  rcases idxI_cases v l with ⟨h1, h2⟩ | ⟨k, h1, _, h2⟩
  · simp [h1, h2]
  · have := List.mem_of_getElem? h1
    simp [this, h2]

set_option maxHeartbeats 800000 in
theorem contains_any (l : List Int) (v : Int) (n : Nat) (hn : l.length = n) (A : Option Addr) (c B : Nat) (w : World) (h : Row .i64 w B A l) (hl : n ≤ maxLen) (q : Bool) (hq : decide (v ∈ l) = q) :
    Calls Try.prog 36 #[.slice A n c, .int .i64 v] w fun e w' => e = .returned (.bool q) ∧ w = w' := by
  obtain ⟨x, hx⟩ : ∃ x, idxI v l = x := ⟨_, rfl⟩
  have hg := (idxGe_mem l v).trans hq
  unfold idxGe at hg
  rw [hx] at hg
  have Hx := Lib.hid hx
  clear hx hq
  go_enter Try.func36, Try.ntmps36
  go_wp2_with (go_at_call 34; refine (index_any l v n hn A c B w h hl).mono ?_; rw [Hx.out]; rintro e w' ⟨rfl, rfl⟩)
  go_ret
  exact ⟨rfl, rfl⟩

set_option maxHeartbeats 800000 in
theorem and_any (l : List Int) (n : Nat) (hn : l.length = n) (A : Option Addr) (c B : Nat) (w : World) (h : Row .i64 w B A l) (hl : n ≤ maxLen) (x : Int) (hx : andL l = x) :
    Calls Try.prog 18 #[.slice A n c] w fun e w' => e = .returned (.int .i64 x) ∧ w = w' := by
  have Hn := Lib.hid hn
  clear hn
  by_cases h0 : (0 : Int) ∈ l
  · obtain rfl : 0 = x := by rw [← hx]; simp [andL, h0]
    clear hx
    go_enter Try.func18, Try.ntmps18
    go_wp2_with (go_at_call 36; refine (contains_any l 0 n Hn.out A c B w h hl true (by simp [h0])).mono ?_; rintro e w' ⟨rfl, rfl⟩)
    go_ret
    exact ⟨rfl, rfl⟩
  · obtain rfl : 1 = x := by rw [← hx]; simp [andL, h0]
    clear hx
    go_enter Try.func18, Try.ntmps18
    go_wp2_with (go_at_call 36; refine (contains_any l 0 n Hn.out A c B w h hl false (by simp [h0])).mono ?_; rintro e w' ⟨rfl, rfl⟩)
    go_ret
    exact ⟨rfl, rfl⟩

theorem bit_yes (l : List Int) (n : Nat) (hn : l.length = n) (A : Option Addr) (c B p : Nat) (x : Int) (hx : l[p]? = some x) (w : World) (h : Row .i64 w B A l) (hl : n ≤ 1000) :
    Calls Try.prog 46 #[.slice A n c, .int .i64 p] w fun e w' => e = .returned (.tuple #[.int .i64 x, .bool true]) ∧ w = w' := by
  have hp : p < n := by rw [← hn]; exact (List.getElem?_eq_some_iff.1 hx).1
  obtain ⟨ad, y, rfl, hy, hc⟩ := h.get_ (k := p) (by rw [hn]; exact hp)
  obtain rfl : y = x := by rw [hx] at hy; exact (Option.some.inj hy).symm
  clear hx hy h hn
  go_enter Try.func46, Try.ntmps46
  go_wp2
  go_ret2
  exact ⟨rfl, rfl⟩

theorem bit_no (n : Nat) (A : Option Addr) (c p : Nat) (hp : n ≤ p) (w : World) (hl : p ≤ 1000) :
    Calls Try.prog 46 #[.slice A n c, .int .i64 p] w fun e w' => e = .returned (.tuple #[.int .i64 0, .bool false]) ∧ w = w' := by
  go_enter Try.func46, Try.ntmps46
  go_wp2
  go_ret2
  exact ⟨rfl, rfl⟩

/-- A frame as it lies in memory. -/
structure FV where
  x : Bool
  i : Int
  r : Bool
  n : Int
  a : Option Addr
  m : Nat
  c : Nat

abbrev FV.v (f : FV) : Value := .agg #[.bool f.x, .int .i64 f.i, .bool f.r, .int .i64 f.n, .slice f.a f.m f.c]

def FV.cs (f : FV) : List Value := [.bool f.x, .int .i64 f.i, .bool f.r, .int .i64 f.n, .slice f.a f.m f.c]

def FAt (w : World) (a : Addr) (f : FV) : Prop :=
  w.cell? a = some (.bool f.x) ∧ w.cell? ⟨a.block, a.off + 1, none⟩ = some (.int .i64 f.i) ∧ w.cell? ⟨a.block, a.off + 2, none⟩ = some (.bool f.r) ∧ w.cell? ⟨a.block, a.off + 3, none⟩ = some (.int .i64 f.n) ∧ w.cell? ⟨a.block, a.off + 4, none⟩ = some (.slice f.a f.m f.c)

/-- A slice of frames. -/
def FRow (w : World) (B : Nat) (A : Option Addr) (fs : List FV) : Prop :=
  fs = [] ∨ ∃ ad, A = some ad ∧ ad.block < B ∧ ∀ k f, fs[k]? = some f → FAt w (ad.add (k * 5)) f

/-- Its identifier is one of its kind. -/
def FOk (f : FV) : Prop := ∃ ID : Nat, f.i = ID ∧ idOk f.x ID

def rankF (f : FV) : List Int := rankV f.x f.i.toNat f.r

def ranks (fs : List FV) : List (List Int) := fs.map rankF

theorem rankF_len (f : FV) : (rankF f).length = rn f.x := rankV_len _ _ _

theorem FRow.get_ {w : World} {B : Nat} {A : Option Addr} {fs : List FV} (h : FRow w B A fs) {k : Nat} (hk : k < fs.length) : ∃ ad f, A = some ad ∧ fs[k]? = some f ∧ FAt w (ad.add (k * 5)) f := by
  rcases h with rfl | ⟨ad, e, _, hc⟩
  · simp at hk
  · exact ⟨ad, fs[k], e, List.getElem?_eq_getElem hk, hc k _ (List.getElem?_eq_getElem hk)⟩

theorem FRow.move {w w' : World} {B : Nat} {A : Option Addr} {fs : List FV} (h : FRow w B A fs) (hk : ∀ p : Addr, p.block < B → w'.cell? p = w.cell? p) : FRow w' B A fs := by
  rcases h with rfl | ⟨ad, e, hb, hc⟩
  · exact .inl rfl
  · refine .inr ⟨ad, e, hb, fun k f hf => ?_⟩
    obtain ⟨h0, h1, h2, h3, h4⟩ := hc k f hf
    have hb' : (ad.add (k * 5)).block < B := by rw [addr_block]; exact hb
    exact ⟨(hk _ hb').trans h0, (hk ⟨_, _, none⟩ hb').trans h1, (hk ⟨_, _, none⟩ hb').trans h2, (hk ⟨_, _, none⟩ hb').trans h3, (hk ⟨_, _, none⟩ hb').trans h4⟩

theorem FRow.more {w : World} {B B' : Nat} {A : Option Addr} {fs : List FV} (h : FRow w B A fs) (hB : B ≤ B') : FRow w B' A fs := by
  rcases h with rfl | ⟨ad, e, hb, hc⟩
  · exact .inl rfl
  · exact .inr ⟨ad, e, by omega, hc⟩

theorem FRow.below {w w' : World} {B : Nat} {A : Option Addr} {fs : List FV} (h : FRow w B A fs) (hb : Below B w w') : FRow w' B A fs := h.move fun _ hp => hb.cell hp

theorem FRow.to {a b : World} {A : Option Addr} {fs : List FV} (h : FRow a a.heap.size A fs) (k : Below a.heap.size a b) : FRow b b.heap.size A fs := (h.below k).more k.size

theorem rankF_at (f : FV) (hf : FOk f) (n : Nat) (hn : (rankF f).length = n) (w : World) :
    Calls Try.prog 20 #[f.v] w fun e w' => ∃ ad c', e = .returned (.slice (some ad) n c') ∧ Row .i64 w' w'.heap.size (some ad) (rankF f) ∧ n ≤ c' ∧ Below w.heap.size w w' ∧ w.heap.size ≤ ad.block := by
  obtain ⟨x, i, r, m, a, l, c⟩ := f
  obtain ⟨ID, rfl, hID⟩ := hf
  have e : rn x = n := by rw [← hn, rankF_len]
  refine (rank_new x ID r m a l c hID n e w).mono ?_
  rintro e' w' ⟨A', c', rfl, hr, hc, hB, hfr⟩
  obtain ⟨ad, rfl⟩ := hr.some_ (by rw [rankV_len]; cases x <;> decide)
  exact ⟨ad, c', rfl, by simpa [rankF] using hr, hc, hB, hfr ad rfl⟩

/-- Where a frame's bits come from. -/
structure Src where
  ad : Addr
  n : Nat
  c : Nat
  r : List Int

abbrev Src.v (s : Src) : Value := .func (.func 46) #[.slice (some s.ad) s.n s.c] #[]

/-- Its bits lie there, and not in block G. -/
structure SrcOk (w : World) (G : Nat) (s : Src) : Prop where
  len : s.r.length = s.n
  small : s.n ≤ 32
  lt : s.ad.block < w.heap.size
  ne : s.ad.block ≠ G
  row : Row .i64 w w.heap.size (some s.ad) s.r

theorem SrcOk.to {w w' : World} {G : Nat} {s : Src} (h : SrcOk w G s) (g : w.grownBy w' (some G)) : SrcOk w' G s := by
  refine ⟨h.len, h.small, by have := g.size; have := h.lt; omega, h.ne, ?_⟩
  rcases h.row with e | ⟨ad, e, hb, hc⟩
  · exact .inl e
  · obtain rfl := Option.some.inj e
    refine .inr ⟨_, rfl, by have := g.size; omega, fun k x hx => ?_⟩
    rw [← hc k x hx]
    exact World.cell?_of_block (by rw [addr_block]; exact g.block _ h.lt (by simp; exact h.ne))

/-- The list of sources in block G: vs ahead, its cells all told. -/
def SBlk (w : World) (G : Nat) (cs : List Value) : Prop := w.heap[G]? = some (.cells cs.toArray 64 (0, 0))

theorem SBlk.cell {w : World} {G : Nat} {cs : List Value} (h : SBlk w G cs) {k : Nat} {v : Value} (hk : cs[k]? = some v) : w.cell? ⟨G, k, none⟩ = some v := by
  simp [World.cell?, show w.heap[G]? = _ from h, hk]

theorem SBlk.lt {w : World} {G : Nat} {cs : List Value} (h : SBlk w G cs) : G < w.heap.size := (Array.getElem?_eq_some_iff.1 h).1

theorem SBlk.to {w w' : World} {G : Nat} {cs : List Value} (h : SBlk w G cs) (b : Below w.heap.size w w') : SBlk w' G cs := (b.block G h.lt).trans h

theorem Try.infoSrc : (Try.prog.info? 64).map (fun i => (i.zero, i.size, i.bytes)) = some (some .nilFunc, 1, 8) := by kernel_rfl

/-- An append into room: one source. -/
theorem run_append_src (w : World) (ty : TypeId) (G j cap : Nat) (cs : List Value) (hG : SBlk w G cs) (hcap : cs.length = cap) (hj : j < cap) (a : Addr) (c : Nat) (v : Value) (hv : w.cell? a = some v) (h1 : v.oneCell' = true) :
    (Builtin.append_ #[61, 61] ty #[.slice (some ⟨G, 0, none⟩) j cap, .slice (some a) 1 c]).run Try.prog w = .ok (.slice (some ⟨G, 0, none⟩) (j + 1) cap) (w.setRow G (cs.set j v).toArray) := by
  obtain ⟨i0, hi, hz0, hz1, hz2⟩ := info_parts Try.infoSrc
  have h := run_append_room (P := Try.prog) w 61 ty 64 i0 Try.underlying61 hi G j cap cs.toArray hG a 1 c [v] (by simp [hz1]) (by
    intro k u hu
    cases k with
    | zero => simp at hu; subst hu; simpa [Addr.add] using hv
    | succ k => simp at hu) (by simpa using h1) (by omega) (by simp [hz1]; omega)
  rw [h]
  congr 3
  simp only [hz1, Nat.mul_one, List.length_singleton]
  rw [List.set_eq_take_append_cons_drop, if_pos (by omega)]
  simp

theorem SBlk.set {w : World} {G : Nat} {cs : List Value} (h : SBlk w G cs) (cs' : List Value) : SBlk (w.setRow G cs'.toArray) G cs' := setRow_heap _ _ _ _ _ _ h

theorem grown_setRow (w : World) (G : Nat) (cs : Array Value) : w.grownBy (w.setRow G cs) (some G) :=
  ⟨rfl, rfl, rfl, by simp [World.setRow], fun k _ hk => setRow_other _ _ _ _ (by intro e; subst e; exact hk rfl)⟩

theorem below_setRow {w : World} {B G : Nat} (cs : Array Value) (h : B ≤ G) : Below B w (w.setRow G cs) :=
  ⟨rfl, rfl, rfl, by simp [World.setRow], fun k hk => setRow_other _ _ _ _ (by omega)⟩

def isFn (v : Value) : Prop := ∀ n, v ≠ .int .i64 n

theorem SBlk.ne {w : World} {G B : Nat} {cs : List Value} (h : SBlk w G cs) (hf : ∀ v ∈ cs, isFn v) {ad : Addr} {r : List Int} (hr : Row .i64 w B (some ad) r) (h0 : r ≠ []) : ad.block ≠ G := by
  intro e
  rcases hr with e' | ⟨ad', e', _, hc⟩
  · exact h0 e'
  · obtain rfl := Option.some.inj e'
    obtain ⟨x, r', rfl⟩ : ∃ x r', r = x :: r' := by cases r with | nil => exact absurd rfl h0 | cons x r' => exact ⟨x, r', rfl⟩
    have := hc 0 x rfl
    have hh : w.heap[(ad.add 0).block]? = some (.cells cs.toArray 64 (0, 0)) := by rw [addr_block, e]; exact h
    simp only [World.cell?, hh] at this
    have hm : Value.int .i64 x ∈ cs := by
      have h2 := this
      simp at h2
      first
        | exact List.mem_of_getElem? h2
        | exact List.mem_of_getElem? h2.2
    exact hf _ hm x rfl

theorem below_grown {w w' : World} (b : Below w.heap.size w w') (row : Option Nat) : w.grownBy w' row := ⟨b.os, b.tape, b.output, b.size, fun k hk _ => b.block k hk⟩

theorem isFn_src (s : Src) : isFn s.v := fun n e => by cases e

theorem isFn_nil : isFn .nilFunc := fun n e => by cases e

def srcCells (ss : List Src) (n : Nat) : List Value := ss.map Src.v ++ List.replicate (n - ss.length) .nilFunc

theorem srcCells_len {ss : List Src} {n : Nat} (h : ss.length ≤ n) : (srcCells ss n).length = n := by simp [srcCells]; omega

theorem srcCells_fn (ss : List Src) (n : Nat) : ∀ v ∈ srcCells ss n, isFn v := by
  intro v hv
  rcases List.mem_append.1 hv with h | h
  · obtain ⟨s, _, rfl⟩ := List.mem_map.1 h
    exact isFn_src s
  · rw [List.eq_of_mem_replicate h]
    exact isFn_nil

theorem srcCells_set {ss : List Src} {n : Nat} (h : ss.length < n) (s : Src) : (srcCells ss n).set ss.length s.v = srcCells (ss ++ [s]) n := by
  unfold srcCells
  rw [List.set_append_right _ _ (by simp)]
  simp only [List.length_map, Nat.sub_self, List.map_append, List.append_assoc, List.length_append, List.length_singleton]
  obtain ⟨m, hm⟩ : ∃ m, n - ss.length = m + 1 := ⟨n - ss.length - 1, by omega⟩
  rw [hm, show n - (ss.length + 1) = m by omega, List.replicate_succ]
  simp

theorem madeCells_src (n : Nat) : madeCells #[Value.nilFunc] n = (srcCells [] n).toArray := by
  apply Array.ext
  · simp [madeCells, srcCells]
  · intro i h1 h2
    simp [madeCells, srcCells, Nat.mod_one]

set_option maxRecDepth 100000 in
set_option maxHeartbeats 1000000 in
theorem sourcesOf_any (fs : List FV) (n : Nat) (hn : fs.length = n) (A : Option Addr) (c : Nat) (w : World) (h : FRow w w.heap.size A fs) (hok : ∀ f ∈ fs, FOk f) (hm : n ≤ 100) :
    Calls Try.prog 35 #[.slice A n c] w fun e w' => ∃ (G : Nat) (ss : List Src), e = .returned (.slice (some ⟨G, 0, none⟩) n n) ∧ w.heap.size ≤ G ∧ SBlk w' G (ss.map Src.v) ∧ ss.map (·.r) = ranks fs ∧ (∀ s ∈ ss, SrcOk w' G s) ∧ (∀ s ∈ ss, w.heap.size ≤ s.ad.block) ∧ Below w.heap.size w w' := by
  have hmk := run_make_room (P := Try.prog) 61 64 .nilFunc 8 Try.underlying61 Try.infoSrc rfl .i64 .i64 n (by omega) (by omega)
  rw [madeCells_src n] at hmk
  have Hn := Lib.hid hn
  obtain ⟨G, hG⟩ : ∃ G, w.heap.size = G := ⟨_, rfl⟩
  have HG := Lib.hid hG
  clear hn
  go_enter Try.func35, Try.ntmps35
  go_wp2_with fail
  go_loopw [3, 11] (fun o i wr => ∃ (k : Nat) (ss : List Src), k ≤ n ∧ i = .int .i64 k ∧ o = .slice (some ⟨G, 0, none⟩) k n ∧ ss.length = k ∧ SBlk wr G (srcCells ss n) ∧ ss.map (·.r) = (ranks fs).take k ∧ (∀ s ∈ ss, SrcOk wr G s) ∧ (∀ s ∈ ss, w.heap.size ≤ s.ad.block) ∧ Below w.heap.size w wr)
    (fun _ i _ => n - (intOf i).toNat)
  case atStart =>
    refine ⟨0, [], Nat.zero_le _, rfl, rfl, rfl, ?_, by simp, by simp, by simp, (Below.refl _ _).alloc (Nat.le_refl _) _⟩
    rw [← HG.out]
    exact World.alloc_heap_new _ _
  case round =>
    obtain ⟨k, ss, hk, rfl, rfl, hsl, hS, hss, hso, hnew, hB⟩ := hrel
    have hsz := hB.size
    by_cases hlt : k < n
    · obtain ⟨ad, f, rfl, hf, h0, h1, h2, h3, h4⟩ := (h.below hB).get_ (k := k) (by rw [Hn.out]; exact hlt)
      have hfok : FOk f := hok f (List.mem_of_getElem? hf)
      have hnext : (ranks fs).take (k + 1) = (ranks fs).take k ++ [rankF f] := by
        rw [List.take_add_one]
        simp [ranks, hf]
      obtain ⟨q, hq⟩ : ∃ q, (rankF f).length = q := ⟨_, rfl⟩
      have hq32 : q ≤ 32 := by rw [← hq, rankF_len]; cases f.x <;> decide
      have hne : rankF f ≠ [] := by intro e; have := rankF_len f; rw [e] at this; cases hfx : f.x <;> rw [hfx] at this <;> cases this
      have HX := Lib.hid (And.intro hnext (And.intro hq (And.intro hsl (And.intro hss hG))))
      have HSO := Lib.hid (And.intro hso hnew)
      have HOK := Lib.hid hok
      have HNE := Lib.hid hne
      clear hnext hsl hss hf hso hok hne hG hnew
      go_wp2_with fail
      refine (rankF_at f hfok q hq _).mono ?_
      rintro e w1 ⟨ad1, c1, rfl, hr1, hc1, hB1, hfr1⟩
      have hfr1 : w.heap.size ≤ ad1.block := by simp at hfr1; omega
      obtain ⟨s, hs⟩ : ∃ s : Src, s = ⟨ad1, q, c1, rankF f⟩ := ⟨_, rfl⟩
      have hB1' := below_lit hB1
      have hS1 : SBlk w1 G (srcCells ss n) := hS.to hB1'
      obtain ⟨w2, hw2⟩ : ∃ w2, w1.alloc (.cells #[.func (.func 46) #[.slice (some ad1) q c1] #[]] 64) = w2 := ⟨_, rfl⟩
      have hB2 := below_lits hw2
      have hS2 : SBlk w2 G (srcCells ss n) := hS1.to hB2
      have hlen : (srcCells ss n).length = n := srcCells_len (by rw [HX.out.2.2.1]; omega)
      have hc2 : w2.cell? ⟨w1.heap.size, 0, none⟩ = some (.func (.func 46) #[.slice (some ad1) q c1] #[]) := by
        have := World.alloc_heap_new w1 (.cells #[.func (.func 46) #[.slice (some ad1) q c1] #[]] 64)
        rw [hw2] at this
        simp [World.cell?, this]
      have hrun := fun ty => run_append_src w2 ty G k n (srcCells ss n) hS2 hlen hlt ⟨w1.heap.size, 0, none⟩ 1 _ hc2 rfl
      have HRun := Lib.hid hrun
      have HW2 := Lib.hid hw2
      have HL := Lib.hid (And.intro hs hlen)
      clear hrun hc2 hw2 hs hlen hq h0 h1 h2 h3 h4
      go_wp2_with (at_builtin; rw [HW2.out]; refine Lib.wpList_append_run _ rfl _ _ _ _ rfl _ _ rfl rfl _ _ (HRun.out _) ?_)
      have hset : (srcCells ss n).set k (.func (.func 46) #[.slice (some ad1) q c1] #[]) = srcCells (ss ++ [s]) n := by
        have := srcCells_set (ss := ss) (n := n) (by rw [HX.out.2.2.1]; exact hlt) s
        rw [HX.out.2.2.1, HL.out.1] at this
        rw [HL.out.1]
        exact this
      have hg : wr.grownBy (w2.setRow G (srcCells (ss ++ [s]) n).toArray) (some G) := (below_grown (below_then hB1' hB2) _).trans (grown_setRow _ _ _)
      have hs1 : SrcOk w1 G s := by
        rw [HL.out.1]
        refine ⟨HX.out.2.1, hq32, ?_, hS1.ne (srcCells_fn _ _) hr1 HNE.out, hr1⟩
        rcases hr1 with e | ⟨ad', e, hb, _⟩
        · exact absurd e HNE.out
        · obtain rfl := Option.some.inj e
          exact hb
      rw [hset]
      refine ⟨⟨k + 1, ss ++ [s], by omega, by go_num, rfl, by simp [HX.out.2.2.1], hS2.set _, ?_, ?_, ?_, ?_⟩, by simp [intOf]; omega⟩
      · rw [List.map_append, HX.out.2.2.2.1, HX.out.1, HL.out.1]; rfl
      · intro s' hs'
        rcases List.mem_append.1 hs' with h' | h'
        · exact (HSO.out.1 s' h').to hg
        · obtain rfl : s' = s := by simpa using h'
          exact hs1.to ((below_grown hB2 _).trans (grown_setRow _ _ _))
      · intro s' hs'
        rcases List.mem_append.1 hs' with h' | h'
        · exact HSO.out.2 s' h'
        · obtain rfl : s' = s := by simpa using h'
          rw [HL.out.1]
          exact hfr1
      · exact (hB.trans ((below_then hB1' hB2).mono hsz)).trans (below_setRow _ (by rw [HG.out]; exact Nat.le_refl _))
    · obtain rfl : k = n := by omega
      go_wp2
      go_ret
      refine ⟨G, ss, rfl, by rw [HG.out]; exact Nat.le_refl _, ?_, ?_, hso, hnew, hB⟩
      · have : srcCells ss k = ss.map Src.v := by simp [srcCells, hsl]
        rw [this] at hS
        exact hS
      · rw [hss, List.take_of_length_le (by simp [ranks]; exact Nat.le_of_eq Hn.out)]

end Go.Proofs.Ytajabpjphobabaa
