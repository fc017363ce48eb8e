/-
  A range over a function whose iterator keeps variables of its own: what the caller knows abides whatever happens at or above the blocks that the iterator lays.
-/
import Derived.RangeFuncBox
import Derived.RangeFuncNested
import Derived.RangeFuncLeaves
import Derived.Test.YtmapkjjglhpamaaProg
namespace Go.Proofs.Ytmapkjjglhpamaa
open Go.RowKit

def Bides {α : Type} (B : Nat) (J : List α → World → Prop) : Prop := ∀ s A W, J s A → Below B A W → J s W

/-- The iterator's word, where each round goes on. -/
def SeqOn {α : Type} (F : Fence) (n : Nat) (P : Program) (g : Nat) (lb : Array Value) (encs : α → Array Value) (Kp : World → World → Prop) (S : List α → Prop) (N : Nat) (w : World) : Prop :=
  ∀ (l : Nat) (J : List α → World → Prop) (W : World), Below w.heap.size w W → Bides W.heap.size J →
    (∀ pre x A, J pre A → pre.length < N → YieldAt F (n - 1) P l (encs x) A fun e W' => e = .returned (.bool true) ∧ J (pre ++ [x]) W' ∧ Kp A W') → J [] W →
    CallsIn F n P g (#[.func (.yield l) #[] #[]] ++ lb) W fun e W' => (∃ v, e = .returned v) ∧ ∃ xs, S xs ∧ J xs W'

/-- How a round ends that goes on. -/
def onPost {α : Type} (B : Nat) (Kp : World → World → Prop) (I : List α → World → Prop) (xs : List α) (W : World) : Exit → Act → World → Prop
  | .normal, _, W' => KeepsFrom B W W' ∧ Kp W W' ∧ I xs W'
  | .ret, _, _ => False
  | .exit _, _, _ => False
  | .goto _, _, _ => False
  | .panic _, _, _ => False
  | .outgrown, _, _ => False

theorem below_put {B l : Nat} (W : World) (o : Obj) (hl : B ≤ l) : Below B W (W.putObj l o) :=
  ⟨rfl, rfl, rfl, by simp [World.putObj], fun k hk => World.putObj_heap_other (by omega)⟩

theorem wpIn_rangeFunc_on {α : Type} {F : Fence} {n : Nat} {P : Program} {g : Operand} {ps : Array Tmp} {assign body : Code} {Q : Exit → Act → World → Prop} {a : Act} {w : World}
    (hro : F.round = none) (h1 : 1 ≤ n) {gf : Nat} {lb : Array Value} (hg : a.eval g = .func (.func gf) #[] lb) (hFg : F.fn gf) (eg : ∀ args w, (callFunc gf args).run P w = .ok (.enter gf args) w)
    {encs : α → Array Value} {Kp : World → World → Prop} {S : List α → Prop} {N : Nat} (hseq : SeqOn F (n - 1) P gf lb encs Kp S N w)
    (hKt : ∀ {A B C : World}, Kp A B → Kp B C → Kp A C) (hKb : ∀ (W : World) (l : Nat) (o o' : Obj), W.heap[l]? = some o → o.isCells = false → Kp W (W.putObj l o')) (hps : ∀ x, (encs x).size = ps.size)
    (I : List α → World → Prop) (hI : Bides w.heap.size I) (h0 : I [] w) (act : α → Act)
    (hassign : ∀ (l : Nat) (x : α) (W : World) (K : Act → World → Prop), K (act x) W →
      assign.wpIn (F.inRound l) (n - 1 - 1) P (Exit.then K (fun _ _ _ => False)) { tmps := (ps.zip (encs x)).foldl (fun t (p, v) => t.setIfInBounds p v) a.tmps, defers := [] } W)
    (hbody : ∀ (l : Nat) (pre : List α) (x : α) (W : World), I pre W → pre.length < N → body.wpIn (F.inRound l) (n - 1 - 1) P (onPost w.heap.size Kp I (pre ++ [x]) W) (act x) W)
    (hdone : ∀ (D : Nat) (xs : List α) (W : World), w.heap.size ≤ D → S xs → I xs W → W.heap[D]? = some (.deferred (some [])) → Q .normal { a with defers := { target := .collected D, args := #[] } :: a.defers } W) :
    (Code.rangeFunc g ps assign body).wpIn F n P Q a w := by
  refine wpIn_rangeFunc fun fn hfn => ?_
  rw [hro]
  -- the loop's record, by its state
  obtain ⟨rc, hrc⟩ : ∃ rc : LoopState → Loop, rc = fun st => { state := st, pending := none, fn, tmps := a.tmps, params := ps, assign, body, defers := w.heap.size } := ⟨_, rfl⟩
  obtain ⟨D, hD⟩ : ∃ D, w.heap.size = D := ⟨_, rfl⟩
  obtain ⟨V, hV⟩ : ∃ V, (w.alloc (.deferred (some []))).alloc (.loop (rc .ready)) = V := ⟨_, rfl⟩
  have hVs : V.heap.size = D + 2 := by rw [← hV, ← hD]; simp
  have hbV : Below D w V := by rw [← hV, ← hD]; exact ((Below.refl _ w).alloc (Nat.le_refl _) _).alloc (by simp) _
  have hrec : V.heap[D + 1]? = some (.loop (rc .ready)) := by
    have := World.alloc_heap_new (w.alloc (.deferred (some []))) (.loop (rc .ready))
    rw [World.size_alloc, hV, hD] at this
    exact this
  have hdef : V.heap[D]? = some (.deferred (some [])) := by
    rw [← hV, ← hD, Below.heap_alloc _ _ _ (by simp)]
    exact World.alloc_heap_new w _
  refine ⟨D + 1, [{ target := .collected D, args := #[] }], V, { target := .fn (.func gf) lb, args := #[.func (.yield (D + 1)) #[] #[]] }, V, gf, #[.func (.yield (D + 1)) #[] #[]] ++ lb, V, ?_, ?_, ?_, ?_, fun _ => h1, ?_⟩
  · rw [← hV, hrc, ← hD]; exact run_enterLoop_outer _ _ _ _ _
  · simp only [resolve, hg]
    simp [go_sem]
  · intro f' hf'
    simp [Target.leads] at hf'
    subst hf'
    exact hFg
  · simp [invoke, go_sem, eg]
  · -- beside the caller's own knowledge: the record is ready, the block for deferred calls is empty
    have hw : Below w.heap.size w V := by rw [hD]; exact hbV
    refine (hseq (D + 1) (fun pre W => I pre W ∧ W.heap[D + 1]? = some (.loop (rc .ready)) ∧ W.heap[D]? = some (.deferred (some []))) V hw ?_ ?_ ⟨hI _ _ _ h0 hw, hrec, hdef⟩).mono ?_
    · rintro s A W ⟨k1, k2, k3⟩ hb
      refine ⟨hI _ _ _ k1 (hb.mono (by omega)), (hb.block _ (by omega)).trans k2, (hb.block _ (by omega)).trans k3⟩
    · rintro pre x W ⟨k1, k2, k3⟩ hlen
      have hy := run_yield (P := P) (args := encs x) k2 (by rw [hrc]; exact hps x)
      rw [hrc] at hy
      refine ⟨fn, _, assign, body, hy, roundIn_of_wpIn hfn (hassign _ x W _ ⟨_, run_beginRound k2 (by rw [hrc]), ?_⟩)⟩
      obtain ⟨rb, hrb⟩ : ∃ rb, ({ rc .ready with state := .busy } : Loop) = rb := ⟨_, rfl⟩
      rw [hrb]
      have hlt : D + 1 < W.heap.size := (Array.getElem?_eq_some_iff.1 k2).1
      have m2 : (W.putObj (D + 1) (.loop rb)).heap[D + 1]? = some (.loop rb) := World.putObj_heap_same hlt
      have m3 : (W.putObj (D + 1) (.loop rb)).heap[D]? = some (.deferred (some [])) := (World.putObj_heap_other (by omega)).trans k3
      refine wpIn_mono (hbody _ pre x _ (hI _ _ _ k1 (below_put W (.loop rb) (by omega))) hlen) ?_
      intro e a3 W3 hp
      cases e with
      | normal =>
        obtain ⟨q1, q2, q3⟩ := hp
        have n2 := q1.same _ _ (by omega) m2 rfl
        have n3 := q1.same _ _ (by omega) m3 rfl
        have hend := run_endRound (P := P) none n2
        have hback : ({ rb with state := if (none : Option Code).isNone then .ready else .done, pending := none } : Loop) = rc .ready := by rw [← hrb, hrc]; rfl
        rw [hback] at hend
        exact ⟨_, _, hend, rfl, ⟨hI _ _ _ q3 (below_put W3 _ (by omega)), World.putObj_heap_same (Array.getElem?_eq_some_iff.1 n2).1, (World.putObj_heap_other (by omega)).trans n3⟩,
          hKt (hKt (hKb W (D + 1) _ _ k2 rfl) q2) (hKb W3 (D + 1) _ _ n2 rfl)⟩
      | ret => exact hp.elim
      | exit id => exact hp.elim
      | goto t => exact hp.elim
      | panic c => exact hp.elim
      | outgrown => exact hp.elim
    · rintro e W2 ⟨⟨v, rfl⟩, xs, hS, k1, k2, k3⟩
      have hend := run_endLoop (P := P) k2 (by rw [hrc]; simp)
      have hpend : (rc .ready).pending = none := by rw [hrc]
      rw [hpend] at hend
      exact ⟨none, _, hend, hdone D xs _ (by omega) hS (hI _ _ _ k1 (below_put W2 _ (by omega))) ((World.putObj_heap_other (by omega)).trans k3)⟩

end Go.Proofs.Ytmapkjjglhpamaa
