/-
  NBi · NFr · NAr · NCn · NdF · NdR · NeO · NgR · NgN · NdY · NgH · Open9 · Open10.
-/
import Derived.Test.YtcifjccojmfpaaaGreatJ0
import Derived.Test.YtcifjccojmfpaaaGreatJ1
import Derived.Test.YtcifjccojmfpaaaGreatJ2
import Derived.Test.YtcifjccojmfpaaaGreatJ3
import Derived.RangeFuncBox
import Derived.RangeFuncNested
import Derived.RangeFuncLeaves
import Derived.Shelf.Abstract
import Derived.WalkKit
import Derived.OwnWalkIn
import Derived.TacticsInMore
import Derived.LoopNIn
import Derived.LoopIn
import Derived.Maps.AppendAt
import Derived.Lib.Hide
import Derived.Laws.BitsAllLaws
import Derived.Laws.BitsLemmas
import Derived.WalkSpells
import Derived.WalkLawsBesides
import Derived.Deep.QuietTactic
import Derived.BigQuiet
import Derived.Laws.BytesArg
import Derived.OwnWalk
import Derived.Deep.Draws
import Derived.Maps.Range
import Derived.Deep.AppendLies
import Derived.Lib.AppendZeros
import Derived.Deep.RegionHeld3
import Derived.Lib.JoinLaws
import Derived.Deep.OwnRows
import Derived.Lib.MinMax
import Derived.Deep.CutRange
import Derived.Laws.EntriesVeiled
import Derived.Maps.OwnOps
import Derived.Deep.RegionWith
import Derived.ProofKit
import Derived.OpenShut
import Derived.ChangeOld
import Derived.Deep.Grids
set_option maxRecDepth 100000
set_option maxHeartbeats 4000000
namespace Go.Proofs.YtcifjccojmfpaaaGreat
open Go.RowKit
set_option linter.unusedVariables false
set_option linter.unusedSimpArgs false
open Go.RowKit Go.Shelf
attribute [local go_sem] Oper.semAt_some
open Go.RowKit Go.Shelf
attribute [local go_sem] Oper.semAt_some
theorem ofInt64 (a : Nat) (ha : a < 9223372036854775808) : (BitVec.ofInt 64 (a : Int)).toNat = a := by
  rw [BitVec.ofInt_natCast, BitVec.toNat_ofNat]; exact Nat.mod_eq_of_lt (by omega)
open Go.RowKit Go.Shelf
attribute [local go_sem] Oper.semAt_some
end Go.Proofs.YtcifjccojmfpaaaGreat

namespace Go.Proofs.YtcifjccojmfpaaaGreat
open Go.RowKit
set_option linter.unusedVariables false
set_option linter.unusedSimpArgs false
section
variable {w w' : World} {R : Nat} {A : Option Addr} {n c : Nat} {l : List Int} {k : Nat}
end
theorem refFrRight_at (x : Bool) (i : Int) (r : Bool) (n : Int) (A : Option Addr) (m c : Nat) (w : World) :
    Calls Tryz.prog 79 #[.agg #[.bool x, .int .i64 i, .bool r, .int .i64 n, .slice A m c]] w fun e w' => e = .returned (.bool (rightV x i r n m)) ∧ Below w.heap.size w w' := by
  have Hfin := Lib.hid (show Below w.heap.size w (w.alloc (.cells #[.bool x, .int .i64 i, .bool r, .int .i64 n, .slice A m c] 34)) from (Below.refl _ w).alloc (Nat.le_refl _) _)
  rcases dec (i < 0) with ⟨d1, h1⟩ | ⟨d1, h1⟩
  · cases x
    all_goals
      go_enter Tryz.func79, Tryz.ntmps79
      go_wp2_with fail
      go_ret
      exact ⟨ret_bool (by rw [Bool.eq_iff_iff]; simp [rightV]; omega), Hfin.out⟩
  · cases x
    · rcases dec (2048 ≤ i) with ⟨d2, h2⟩ | ⟨d2, h2⟩
      · go_enter Tryz.func79, Tryz.ntmps79
        go_wp2_with fail
        go_ret
        exact ⟨ret_bool (by rw [Bool.eq_iff_iff]; simp [rightV]; omega), Hfin.out⟩
      rcases dec (n < 0) with ⟨d3, h3⟩ | ⟨d3, h3⟩
      · go_enter Tryz.func79, Tryz.ntmps79
        go_wp2_with fail
        go_ret
        exact ⟨ret_bool (by rw [Bool.eq_iff_iff]; simp [rightV]; omega), Hfin.out⟩
      rcases dec (8 < n) with ⟨d4, h4⟩ | ⟨d4, h4⟩
      all_goals
        cases r
        all_goals
          go_enter Tryz.func79, Tryz.ntmps79
          go_wp2_with fail
          go_ret
          exact ⟨ret_bool (by rw [Bool.eq_iff_iff]; simp [rightV]; omega), Hfin.out⟩
    · rcases dec (536870912 ≤ i) with ⟨d2, h2⟩ | ⟨d2, h2⟩
      · go_enter Tryz.func79, Tryz.ntmps79
        go_wp2_with fail
        go_ret
        exact ⟨ret_bool (by rw [Bool.eq_iff_iff]; simp [rightV]; omega), Hfin.out⟩
      rcases dec (n < 0) with ⟨d3, h3⟩ | ⟨d3, h3⟩
      · go_enter Tryz.func79, Tryz.ntmps79
        go_wp2_with fail
        go_ret
        exact ⟨ret_bool (by rw [Bool.eq_iff_iff]; simp [rightV]; omega), Hfin.out⟩
      rcases dec (8 < n) with ⟨d4, h4⟩ | ⟨d4, h4⟩
      all_goals
        cases r
        all_goals
          go_enter Tryz.func79, Tryz.ntmps79
          go_wp2_with fail
          go_ret
          exact ⟨ret_bool (by rw [Bool.eq_iff_iff]; simp [rightV]; omega), Hfin.out⟩
theorem refFrRight_q (x : Bool) (i : Int) (r : Bool) (n : Int) (A : Option Addr) (m c : Nat) (w : World) (q : Bool) (hq : rightV x i r n m = q) :
    Calls Tryz.prog 79 #[.agg #[.bool x, .int .i64 i, .bool r, .int .i64 n, .slice A m c]] w fun e w' => e = .returned (.bool q) ∧ Below w.heap.size w w' := by
  subst hq; exact refFrRight_at x i r n A m c w
end Go.Proofs.YtcifjccojmfpaaaGreat

namespace Go.Proofs.YtcifjccojmfpaaaGreat
open Go.RowKit
set_option linter.unusedVariables false
set_option linter.unusedSimpArgs false
theorem and_keep_ (U k : Nat) (hk : k ≤ 61) (h : U < 2 ^ k) : bits .and .i64 (U : Int) ((2 ^ k - 1 : Nat) : Int) = U := by
  have e : bits .and .i64 (U : Int) ((2 ^ k - 1 : Nat) : Int) = IntKind.i64.wrap ((BitVec.ofInt 64 (U : Int) &&& BitVec.ofInt 64 ((2 ^ k - 1 : Nat) : Int)).toNat : Int) := rfl
  have h2 : 2 ^ k ≤ 2 ^ 61 := Nat.pow_le_pow_right (by omega) hk
  rw [e, BitVec.ofInt_natCast, BitVec.ofInt_natCast, BitVec.toNat_and, BitVec.toNat_ofNat, BitVec.toNat_ofNat, Nat.mod_eq_of_lt (show U < 2 ^ 64 by omega), Nat.mod_eq_of_lt (show 2 ^ k - 1 < 2 ^ 64 by omega), Nat.and_two_pow_sub_one_eq_mod, Nat.mod_eq_of_lt h, IntKind.wrap_i64]
  omega
theorem idm_keep_ {f : FV} (h : FOk f) : idm f.x f.i = f.i := by
  obtain ⟨U, e, hU⟩ := h
  rw [e]
  cases hx : f.x <;> rw [hx] at hU
  · exact and_keep_ U 11 (by omega) hU
  · exact and_keep_ U 29 (by omega) hU
end Go.Proofs.YtcifjccojmfpaaaGreat

namespace Go.Proofs.YtcifjccojmfpaaaGreat
open Go.RowKit
set_option linter.unusedVariables false
set_option linter.unusedSimpArgs false
theorem cv_ext {a b : CV} : a = b ↔ a.t = b.t ∧ a.r = b.r ∧ a.s = b.s ∧ a.q = b.q := by
  cases a; cases b; simp
end Go.Proofs.YtcifjccojmfpaaaGreat

namespace Go.Proofs.YtcifjccojmfpaaaGreat
open Go.RowKit
set_option linter.unusedVariables false
set_option linter.unusedSimpArgs false
section
variable {w : World} {P P' : Nat → Prop} {f g : FV} {F G : FC}
theorem refFrRight_c (h : FIs w P f F) (q : Bool) (hq : rightC F = q) : Calls Tryz.prog 79 #[f.v] w fun e w' => e = .returned (.bool q) ∧ Below w.heap.size w w' :=
  refFrRight_q f.x f.i f.r f.n f.a f.m f.c w q (by rw [h.x, h.i, h.r, h.n, ← h.len]; exact hq)
end
end Go.Proofs.YtcifjccojmfpaaaGreat

namespace Go.Proofs.YtcifjccojmfpaaaGreat
open Go.RowKit
set_option linter.unusedVariables false
set_option linter.unusedSimpArgs false
theorem allUptoF.next {Fs : List FC} {k : Nat} (h : allUptoF Fs k) {f : FC} (hf : Fs[k]? = some f) (ht : rightC f = true) : allUptoF Fs (k + 1) := by
  intro j g hj hg
  by_cases hjk : j < k
  · exact h j g hjk hg
  · obtain rfl : j = k := by omega
    rw [hf] at hg
    obtain rfl := Option.some.inj hg
    exact ht
theorem allUptoF.all {Fs : List FC} (h : allUptoF Fs Fs.length) : Fs.all rightC = true := by
  rw [List.all_eq_true]
  intro f hf
  obtain ⟨j, hj, e⟩ := List.getElem_of_mem hf
  exact h j f hj (by rw [List.getElem?_eq_getElem hj, e])
theorem all_atF {Fs : List FC} {k : Nat} {f : FC} (hf : Fs[k]? = some f) (ht : rightC f = false) : Fs.all rightC = false := by
  cases h : Fs.all rightC
  · rfl
  · rw [List.all_eq_true.1 h f (List.mem_of_getElem? hf)] at ht; cases ht
theorem refFs_c {w : World} {P : Nat → Prop} {A : Option Addr} {n c : Nat} {Fs : List FC} (h : FSl w P A n c Fs) (m : Nat) (M : Int) (hM : (m : Int) = M) (q : Bool) (hq : rightFs m Fs = q) :
    Calls Tryz.prog 58 #[.slice A n c, .int .i64 M] w fun e w' => e = .returned (.bool q) ∧ Below w.heap.size w w' := by
  subst hM
  have Hn := Lib.hid h.len
  have hbig := h.big
  unfold maxLen at hbig
  unfold rightFs at hq
  have Hq := Lib.hid hq
  clear hq
  go_enter Tryz.func58, Tryz.ntmps58
  go_wp2_with fail
  go_loopw [5] (fun i wr => ∃ k : Nat, k ≤ n ∧ i = .int .i64 k ∧ allUptoF Fs k ∧ Below w.heap.size w wr) (fun i _ => n - (intOf i).toNat)
  case atStart => exact ⟨0, Nat.zero_le _, rfl, fun j f hj => absurd hj (by omega), Below.refl _ _⟩
  case round =>
    obtain ⟨k, hk, rfl, hr, hB⟩ := hrel
    have Hr := Lib.hid hr
    clear hr
    by_cases hlt : k < n
    · obtain ⟨ad, f, F, rfl, hf, ⟨h0, h1, h2, h3, h4⟩, hfi⟩ := (h.to hB).at_ (k := k) hlt
      skip
      have Hf := Lib.hid hf
      clear hf
      obtain ⟨r, hr⟩ : ∃ q, rightC F = q := ⟨_, rfl⟩
      have HR := Lib.hid hr
      clear hr
      cases r
      · go_wp2_with (first | (go_at_call 79; refine (refFrRight_c hfi false HR.out).mono ?_; rintro e w1 ⟨rfl, hB1⟩) | fail)
        go_ret
        exact ⟨ret_bool (by rw [← Hq.out, all_atF Hf.out HR.out, Bool.and_false]), hB.trans (hB1.mono hB.size)⟩
      · go_wp2_with (first | (go_at_call 79; refine (refFrRight_c hfi true HR.out).mono ?_; rintro e w1 ⟨rfl, hB1⟩) | fail)
        go_round
        case measure => simp [intOf]; omega
        exact ⟨k + 1, by omega, by go_num, Hr.out.next Hf.out HR.out, hB.trans (hB1.mono hB.size)⟩
    · obtain rfl : k = n := by omega
      have hq2 := Hq.out
      rw [allUptoF.all (by rw [Hn.out]; exact Hr.out), Bool.and_true, Hn.out] at hq2
      have HQ2 := Lib.hid hq2
      clear hq2
      go_wp2_with fail
      go_ret
      exact ⟨ret_bool (by rw [← HQ2.out]), hB⟩
theorem allUptoL.next {ls : List FL} {k : Nat} (h : allUptoL ls k) {f : FL} (hf : ls[k]? = some f) (ht : refRightP f = true) : allUptoL ls (k + 1) := by
  intro j g hj hg
  by_cases hjk : j < k
  · exact h j g hjk hg
  · obtain rfl : j = k := by omega
    rw [hf] at hg
    obtain rfl := Option.some.inj hg
    exact ht
theorem allUptoL.all {ls : List FL} (h : allUptoL ls ls.length) : ls.all refRightP = true := by
  rw [List.all_eq_true]
  intro f hf
  obtain ⟨j, hj, e⟩ := List.getElem_of_mem hf
  exact h j f hj (by rw [List.getElem?_eq_getElem hj, e])
theorem all_atL {ls : List FL} {k : Nat} {f : FL} (hf : ls[k]? = some f) (ht : refRightP f = false) : ls.all refRightP = false := by
  cases h : ls.all refRightP
  · rfl
  · rw [List.all_eq_true.1 h f (List.mem_of_getElem? hf)] at ht; cases ht
theorem refLs_c {w : World} {P : Nat → Prop} {A : Option Addr} {n c : Nat} {ls : List FL} (h : LSl w P A n c ls)  (q : Bool) (hq : rightLs 8 ls = q) :
    Calls Tryz.prog 59 #[.slice A n c] w fun e w' => e = .returned (.bool q) ∧ Below w.heap.size w w' := by
  skip
  have Hn := Lib.hid h.len
  have hbig := h.big
  unfold maxLen at hbig
  unfold rightLs at hq
  have Hq := Lib.hid hq
  clear hq
  go_enter Tryz.func59, Tryz.ntmps59
  go_wp2_with fail
  go_loopw [3] (fun i wr => ∃ k : Nat, k ≤ n ∧ i = .int .i64 k ∧ allUptoL ls k ∧ Below w.heap.size w wr) (fun i _ => n - (intOf i).toNat)
  case atStart => exact ⟨0, Nat.zero_le _, rfl, fun j f hj => absurd hj (by omega), Below.refl _ _⟩
  case round =>
    obtain ⟨k, hk, rfl, hr, hB⟩ := hrel
    have Hr := Lib.hid hr
    clear hr
    by_cases hlt : k < n
    · obtain ⟨ad, f, rfl, hf, h0, h1, h2⟩ := (h.to hB).at_ (k := k) hlt
      have Hw := Lib.hid (h.wide f (List.mem_of_getElem? hf))
      have Hf := Lib.hid hf
      clear hf
      obtain ⟨r, hr⟩ : ∃ q, refRightP f = q := ⟨_, rfl⟩
      have HR := Lib.hid hr
      clear hr
      cases r
      · go_wp2_with (first | (go_at_call 63; refine (refLrRight_c false HR.out _).mono ?_; rintro e w1 ⟨rfl, hB1⟩) | fail)
        go_ret
        exact ⟨ret_bool (by rw [← Hq.out, all_atL Hf.out HR.out, Bool.and_false]), hB.trans (hB1.mono hB.size)⟩
      · go_wp2_with (first | (go_at_call 63; refine (refLrRight_c true HR.out _).mono ?_; rintro e w1 ⟨rfl, hB1⟩) | fail)
        go_round
        case measure => simp [intOf]; omega
        exact ⟨k + 1, by omega, by go_num, Hr.out.next Hf.out HR.out, hB.trans (hB1.mono hB.size)⟩
    · obtain rfl : k = n := by omega
      have hq2 := Hq.out
      rw [allUptoL.all (by rw [Hn.out]; exact Hr.out), Bool.and_true, Hn.out] at hq2
      have HQ2 := Lib.hid hq2
      clear hq2
      go_wp2_with fail
      go_ret
      exact ⟨ret_bool (by rw [← HQ2.out]; simp; omega), hB⟩
end Go.Proofs.YtcifjccojmfpaaaGreat

namespace Go.Proofs.YtcifjccojmfpaaaGreat
open Go.RowKit
set_option linter.unusedVariables false
set_option linter.unusedSimpArgs false
theorem FOwn9.to {w w' : World} {base : Nat} {A : Option Addr} {n c : Nat} {fs : List FV} (h : FOwn w base A n c fs) (b : Below w.heap.size w w') : FOwn w' base A n c fs := own_to h b
end Go.Proofs.YtcifjccojmfpaaaGreat

namespace Go.Proofs.YtcifjccojmfpaaaGreat
open Go.RowKit
set_option linter.unusedVariables false
set_option linter.unusedSimpArgs false
section
variable {V : Type} {cs : V → List Value} {sz : Nat}
variable {t ts : TypeId}
end
section
variable {V C : Type} {R R' : V → C → Prop} {vs vs' : List V} {Cs Cs' : List C}
end
theorem beside_app {w w' : World} {Rp : World → (Nat → Prop) → Prop} {L : List Nat} {A A' : Option Addr} {n c : Nat}
    (mono : ∀ (w : World) (P Q : Nat → Prop), Rp w P → (∀ b, b < w.heap.size → P b → Q b) → Rp w Q)
    (mv : ∀ (w w' : World) (P : Nat → Prop), Rp w P → Below w.heap.size w w' → Rp w' P)
    (grow : ∀ (w w' : World) (P : Nat → Prop) (X : Nat), Rp w P → w.grownBy w' (some X) → ¬ P X → Rp w' P)
    (h : Rp w (Out (L ++ ownL A))) (g : w.grownBy w' (Value.slice A n c).ownBlock) (e : ownL A' = ownL A ∨ ownL A' = [w.heap.size]) : Rp w' (Out (L ++ ownL A')) := by
  have h1 : Rp w (Out (L ++ (ownL A ++ ownL A'))) := mono _ _ _ h (fun b hb hp => by
    intro Y hY
    rcases List.mem_append.1 hY with hY | hY
    · exact hp Y (by simp [hY])
    · rcases List.mem_append.1 hY with h' | h'
      · exact hp Y (by simp [h'])
      · rcases e with e | e
        · rw [e] at h'; exact hp Y (by simp [h'])
        · rw [e] at h'; simp at h'; omega)
  have h2 : Rp w' (Out (L ++ (ownL A ++ ownL A'))) := by
    cases A with
    | none => exact mv _ _ _ h1 ((Below.refl _ _).grown g (Nat.le_refl _) (fun k hk => by cases hk))
    | some a => exact grow _ _ _ a.block h1 g (out_not (by simp [ownL]))
  exact mono _ _ _ h2 (fun b _ hp Y hY => hp Y (by rcases List.mem_append.1 hY with hY | hY <;> simp [hY]))
end Go.Proofs.YtcifjccojmfpaaaGreat

namespace Go.Proofs.YtcifjccojmfpaaaGreat
open Go.RowKit
set_option linter.unusedVariables false
set_option linter.unusedSimpArgs false
section
variable {w w' : World} {P Q : Nat → Prop} {A : Option Addr} {n c : Nat} {Ns : List NC}
end
theorem nsl_app9 {w w' : World} {L : List Nat} {A A' B : Option Addr} {n c k d : Nat} {Ns : List NC} (h : NSl w (Out (L ++ ownL A)) B k d Ns) (g : w.grownBy w' (Value.slice A n c).ownBlock) (e : ownL A' = ownL A ∨ ownL A' = [w.heap.size]) : NSl w' (Out (L ++ ownL A')) B k d Ns :=
  beside_app (Rp := fun w P => NSl w P B k d Ns) (fun _ _ _ h hq => h.mono hq) (fun _ _ _ h b => h.to b) (fun _ _ _ _ h g hX => h.grow g hX) h g e
end Go.Proofs.YtcifjccojmfpaaaGreat

namespace Go.Proofs.YtcifjccojmfpaaaGreat
open Go.RowKit
set_option linter.unusedVariables false
set_option linter.unusedSimpArgs false
theorem refRight_c {w : World} {P : Nat → Prop} {n : NV} {N : NC} (h : NIs w P n N) (q : Bool) (hq : rightN N = q) :
    Calls Tryz.prog 35 #[n.v] w fun e w' => e = .returned (.bool q) ∧ Below w.heap.size w w' := by
  unfold rightN at hq
  obtain ⟨q1, h1⟩ : ∃ q, rightFs 16 N.q = q := ⟨_, rfl⟩
  obtain ⟨q2, h2⟩ : ∃ q, rightFs 64 N.g = q := ⟨_, rfl⟩
  obtain ⟨q3, h3⟩ : ∃ q, rightLs 8 N.l = q := ⟨_, rfl⟩
  obtain ⟨q4, h4⟩ : ∃ q, rightV_NCn N.k = q := ⟨_, rfl⟩
  rw [h1, h2, h3, h4] at hq
  have H1 := Lib.hid h1
  have H2 := Lib.hid h2
  have H3 := Lib.hid h3
  have H4 := Lib.hid (show rightV_NCn n.k = q4 by rw [h.k]; exact h4)
  clear h1 h2 h3 h4
  subst hq
  cases q1
  · skip
    obtain ⟨w0, hw0⟩ : ∃ w0, (w.alloc (.cells #[.slice n.qa n.qm n.qc, .slice n.la n.lm n.lc, .int .i64 n.k.t, .int .i64 n.k.r, .int .i64 n.k.s, .int .i64 n.k.q, .slice n.ga n.gm n.gc] 49)) = w0 := ⟨_, rfl⟩
    have hT0 : Below w.heap.size w w0 := by rw [← hw0]; exact below_alloc1 _ _
    have hn0 : w0.heap[w.heap.size]? = some (.cells #[.slice n.qa n.qm n.qc, .slice n.la n.lm n.lc, .int .i64 n.k.t, .int .i64 n.k.r, .int .i64 n.k.s, .int .i64 n.k.q, .slice n.ga n.gm n.gc] 49) := by rw [← hw0]; exact World.alloc_heap_new _ _
    have hs0 : w0.heap.size = w.heap.size + 1 := by rw [← hw0]; simp
    have Hs0 := Lib.hid hs0
    clear hs0
    obtain ⟨nc0, nc1, nc2, nc3, nc4, nc5, nc6⟩ := cells7' hn0
    go_enter Tryz.func35, Tryz.ntmps35
    go_wp2_with fail
    clear nc0 nc1 nc2 nc3 nc4 nc5 nc6
    clear hw0
    have hZ0 := Below.refl w0.heap.size w0
    refine (refFs_c (h.q.to hT0) 16 16 rfl false H1.out).mono ?_
    rintro e w1 ⟨rfl, hB1⟩
    have hT1 := below_then hT0 hB1
    have hZ1 := below_then hZ0 hB1
    clear hZ0
    have hn1 := block_below hB1 hn0
    clear hT0 hn0  hB1
    obtain ⟨nc0, nc1, nc2, nc3, nc4, nc5, nc6⟩ := cells7' hn1
    go_wp2_with fail
    go_ret
    exact ⟨ret_bool (by simp), hT1⟩
  cases q2
  · skip
    obtain ⟨w0, hw0⟩ : ∃ w0, (w.alloc (.cells #[.slice n.qa n.qm n.qc, .slice n.la n.lm n.lc, .int .i64 n.k.t, .int .i64 n.k.r, .int .i64 n.k.s, .int .i64 n.k.q, .slice n.ga n.gm n.gc] 49)) = w0 := ⟨_, rfl⟩
    have hT0 : Below w.heap.size w w0 := by rw [← hw0]; exact below_alloc1 _ _
    have hn0 : w0.heap[w.heap.size]? = some (.cells #[.slice n.qa n.qm n.qc, .slice n.la n.lm n.lc, .int .i64 n.k.t, .int .i64 n.k.r, .int .i64 n.k.s, .int .i64 n.k.q, .slice n.ga n.gm n.gc] 49) := by rw [← hw0]; exact World.alloc_heap_new _ _
    have hs0 : w0.heap.size = w.heap.size + 1 := by rw [← hw0]; simp
    have Hs0 := Lib.hid hs0
    clear hs0
    obtain ⟨nc0, nc1, nc2, nc3, nc4, nc5, nc6⟩ := cells7' hn0
    go_enter Tryz.func35, Tryz.ntmps35
    go_wp2_with fail
    clear nc0 nc1 nc2 nc3 nc4 nc5 nc6
    clear hw0
    have hZ0 := Below.refl w0.heap.size w0
    refine (refFs_c (h.q.to hT0) 16 16 rfl true H1.out).mono ?_
    rintro e w1 ⟨rfl, hB1⟩
    have hT1 := below_then hT0 hB1
    have hZ1 := below_then hZ0 hB1
    clear hZ0
    have hn1 := block_below hB1 hn0
    clear hT0 hn0  hB1
    obtain ⟨nc0, nc1, nc2, nc3, nc4, nc5, nc6⟩ := cells7' hn1
    go_wp2_with fail
    clear nc0 nc1 nc2 nc3 nc4 nc5 nc6
    refine (refFs_c (h.g.to hT1) 64 64 rfl false H2.out).mono ?_
    rintro e w2 ⟨rfl, hB2⟩
    have hT2 := below_then hT1 hB2
    have hZ2 := below_then hZ1 hB2
    clear hZ1
    have hn2 := block_below hB2 hn1
    clear hT1 hn1  hB2
    obtain ⟨nc0, nc1, nc2, nc3, nc4, nc5, nc6⟩ := cells7' hn2
    go_wp2_with fail
    go_ret
    exact ⟨ret_bool (by simp), hT2⟩
  cases q3
  · skip
    obtain ⟨w0, hw0⟩ : ∃ w0, (w.alloc (.cells #[.slice n.qa n.qm n.qc, .slice n.la n.lm n.lc, .int .i64 n.k.t, .int .i64 n.k.r, .int .i64 n.k.s, .int .i64 n.k.q, .slice n.ga n.gm n.gc] 49)) = w0 := ⟨_, rfl⟩
    have hT0 : Below w.heap.size w w0 := by rw [← hw0]; exact below_alloc1 _ _
    have hn0 : w0.heap[w.heap.size]? = some (.cells #[.slice n.qa n.qm n.qc, .slice n.la n.lm n.lc, .int .i64 n.k.t, .int .i64 n.k.r, .int .i64 n.k.s, .int .i64 n.k.q, .slice n.ga n.gm n.gc] 49) := by rw [← hw0]; exact World.alloc_heap_new _ _
    have hs0 : w0.heap.size = w.heap.size + 1 := by rw [← hw0]; simp
    have Hs0 := Lib.hid hs0
    clear hs0
    obtain ⟨nc0, nc1, nc2, nc3, nc4, nc5, nc6⟩ := cells7' hn0
    go_enter Tryz.func35, Tryz.ntmps35
    go_wp2_with fail
    clear nc0 nc1 nc2 nc3 nc4 nc5 nc6
    clear hw0
    have hZ0 := Below.refl w0.heap.size w0
    refine (refFs_c (h.q.to hT0) 16 16 rfl true H1.out).mono ?_
    rintro e w1 ⟨rfl, hB1⟩
    have hT1 := below_then hT0 hB1
    have hZ1 := below_then hZ0 hB1
    clear hZ0
    have hn1 := block_below hB1 hn0
    clear hT0 hn0  hB1
    obtain ⟨nc0, nc1, nc2, nc3, nc4, nc5, nc6⟩ := cells7' hn1
    go_wp2_with fail
    clear nc0 nc1 nc2 nc3 nc4 nc5 nc6
    refine (refFs_c (h.g.to hT1) 64 64 rfl true H2.out).mono ?_
    rintro e w2 ⟨rfl, hB2⟩
    have hT2 := below_then hT1 hB2
    have hZ2 := below_then hZ1 hB2
    clear hZ1
    have hn2 := block_below hB2 hn1
    clear hT1 hn1  hB2
    obtain ⟨nc0, nc1, nc2, nc3, nc4, nc5, nc6⟩ := cells7' hn2
    go_wp2_with fail
    clear nc0 nc1 nc2 nc3 nc4 nc5 nc6
    refine (refLs_c (h.l.to hT2) false H3.out).mono ?_
    rintro e w3 ⟨rfl, hB3⟩
    have hT3 := below_then hT2 hB3
    have hZ3 := below_then hZ2 hB3
    clear hZ2
    have hn3 := block_below hB3 hn2
    clear hT2 hn2  hB3
    obtain ⟨nc0, nc1, nc2, nc3, nc4, nc5, nc6⟩ := cells7' hn3
    go_wp2_with fail
    go_ret
    exact ⟨ret_bool (by simp), hT3⟩
  obtain ⟨w0, hw0⟩ : ∃ w0, (w.alloc (.cells #[.slice n.qa n.qm n.qc, .slice n.la n.lm n.lc, .int .i64 n.k.t, .int .i64 n.k.r, .int .i64 n.k.s, .int .i64 n.k.q, .slice n.ga n.gm n.gc] 49)) = w0 := ⟨_, rfl⟩
  have hT0 : Below w.heap.size w w0 := by rw [← hw0]; exact below_alloc1 _ _
  have hn0 : w0.heap[w.heap.size]? = some (.cells #[.slice n.qa n.qm n.qc, .slice n.la n.lm n.lc, .int .i64 n.k.t, .int .i64 n.k.r, .int .i64 n.k.s, .int .i64 n.k.q, .slice n.ga n.gm n.gc] 49) := by rw [← hw0]; exact World.alloc_heap_new _ _
  have hs0 : w0.heap.size = w.heap.size + 1 := by rw [← hw0]; simp
  have Hs0 := Lib.hid hs0
  clear hs0
  obtain ⟨nc0, nc1, nc2, nc3, nc4, nc5, nc6⟩ := cells7' hn0
  go_enter Tryz.func35, Tryz.ntmps35
  go_wp2_with fail
  clear nc0 nc1 nc2 nc3 nc4 nc5 nc6
  clear hw0
  have hZ0 := Below.refl w0.heap.size w0
  refine (refFs_c (h.q.to hT0) 16 16 rfl true H1.out).mono ?_
  rintro e w1 ⟨rfl, hB1⟩
  have hT1 := below_then hT0 hB1
  have hZ1 := below_then hZ0 hB1
  clear hZ0
  have hn1 := block_below hB1 hn0
  clear hT0 hn0  hB1
  obtain ⟨nc0, nc1, nc2, nc3, nc4, nc5, nc6⟩ := cells7' hn1
  go_wp2_with fail
  clear nc0 nc1 nc2 nc3 nc4 nc5 nc6
  refine (refFs_c (h.g.to hT1) 64 64 rfl true H2.out).mono ?_
  rintro e w2 ⟨rfl, hB2⟩
  have hT2 := below_then hT1 hB2
  have hZ2 := below_then hZ1 hB2
  clear hZ1
  have hn2 := block_below hB2 hn1
  clear hT1 hn1  hB2
  obtain ⟨nc0, nc1, nc2, nc3, nc4, nc5, nc6⟩ := cells7' hn2
  go_wp2_with fail
  clear nc0 nc1 nc2 nc3 nc4 nc5 nc6
  refine (refLs_c (h.l.to hT2) true H3.out).mono ?_
  rintro e w3 ⟨rfl, hB3⟩
  have hT3 := below_then hT2 hB3
  have hZ3 := below_then hZ2 hB3
  clear hZ2
  have hn3 := block_below hB3 hn2
  clear hT2 hn2  hB3
  obtain ⟨nc0, nc1, nc2, nc3, nc4, nc5, nc6⟩ := cells7' hn3
  go_wp2_with fail
  clear nc0 nc1 nc2 nc3 nc4 nc5 nc6
  refine (refRight_q_NCn n.k q4 H4.out w3).mono ?_
  rintro e w4 ⟨rfl, hB4⟩
  have hT4 := below_then hT3 hB4
  have hZ4 := below_then hZ3 hB4
  clear hZ3
  have hn4 := block_below hB4 hn3
  clear hT3 hn3  hB4
  obtain ⟨nc0, nc1, nc2, nc3, nc4, nc5, nc6⟩ := cells7' hn4
  go_wp2_with fail
  go_ret
  exact ⟨ret_bool (by simp), hT4⟩
end Go.Proofs.YtcifjccojmfpaaaGreat

namespace Go.Proofs.YtcifjccojmfpaaaGreat
open Go.RowKit
set_option linter.unusedVariables false
set_option linter.unusedSimpArgs false
theorem slotsTo_len (Ns : List NC) (Hs : List (List Int)) (k : Nat) : (slotsTo Ns Hs k).length = Ns.length := by
  induction k with
  | zero => rfl
  | succ k ih => rw [slotsTo, slotN_len, ih]
end Go.Proofs.YtcifjccojmfpaaaGreat

namespace Go.Proofs.YtcifjccojmfpaaaGreat
open Go.ChangeShapes Go.WideShapes Go.ChangeAt Go.RowKit
set_option linter.unusedVariables false
section
variable {H : Type} {enc : TypeId × Value → H} {W : World}
theorem open_frame9 {base : Nat} {v : Value} {d : DataW H} {p : List MemPlace} (hv : Value.okWide Tryz.prog W .any base 34 v) (h : DataW.Trod enc Tryz.prog W 0 (fun _ => true) true 34 v d p) :
    ∃ (f : FV) (F : FC), v = f.v ∧ FIs W Any_ f F := by
  obtain ⟨cs, rfl, hsz⟩ := okWide_struct Tryz.underlying34 hv
  obtain ⟨l⟩ := cs
  obtain ⟨fuel, hf⟩ := h
  obtain ⟨f, F, h1, h2⟩ := open_fr (cs := l) (by simpa using hsz.trans cells_fr) (by simpa [Value.cells] using hf)
  subst h1
  exact ⟨f, F, rfl, h2⟩
end
end Go.Proofs.YtcifjccojmfpaaaGreat

namespace Go.Proofs.YtcifjccojmfpaaaGreat
open Go.ChangeShapes Go.WideShapes Go.ChangeAt Go.RowKit
set_option linter.unusedVariables false
section
variable {H : Type} {enc : TypeId × Value → H} {W : World}
theorem open_hit10 {base : Nat} {v : Value} {d : DataW H} {p : List MemPlace} (hv : Value.okWide Tryz.prog W .any base 41 v) (h : DataW.Trod enc Tryz.prog W 0 (fun _ => true) true 41 v d p) :
    ∃ (x : HV) (K : List Int), v = .agg #[.slice x.a x.m x.c] ∧ HIs W Any_ x K := by
  obtain ⟨cs, rfl, hsz⟩ := okWide_struct Tryz.underlying41 hv
  obtain ⟨l⟩ := cs
  obtain ⟨fuel, hf⟩ := h
  obtain ⟨x, K, h1, h2⟩ := open_ht (l := l) (by simpa using hsz.trans cells_ht) (by simpa [Value.cells] using hf)
  subst h1
  exact ⟨x, K, rfl, h2⟩
end
end Go.Proofs.YtcifjccojmfpaaaGreat

