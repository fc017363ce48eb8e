/-
  Whether filters are all right; whether any of them takes a frame: the program's functions and the document's.
-/
import Derived.Test.YtmffflckcpgjiaaFil1
import Derived.Test.YtmffflckcpgjiaaFil2
import Derived.Test.YtmffflckcpgjiaaFil3
namespace Go.Proofs.Ytmffflckcpgjiaa
open Go.RowKit
set_option linter.unusedVariables false
set_option linter.unusedSimpArgs false

def anyV (fs : List FL) (x : Bool) (i : Int) : Bool := fs.isEmpty || fs.any (takesV · x i)
def goodV (fs : List FL) : Bool := fs.all refRightP
def noneUpto (fs : List FL) (x : Bool) (i : Int) (k : Nat) : Prop := ∀ j f, j < k → fs[j]? = some f → takesV f x i = false
theorem noneUpto.next {fs : List FL} {x : Bool} {i : Int} {k : Nat} (h : noneUpto fs x i k) {f : FL} (hf : fs[k]? = some f) (ht : takesV f x i = false) : noneUpto fs x i (k + 1) := by
  intro j g hj hg
  by_cases hjk : j < k
  · exact h j g hjk hg
  · obtain rfl : j = k := by omega
    rw [hf] at hg
    obtain rfl := Option.some.inj hg
    exact ht
theorem noneUpto.all {fs : List FL} {x : Bool} {i : Int} (h : noneUpto fs x i fs.length) : fs.any (takesV · x i) = false := by
  rw [List.any_eq_false]
  intro f hf
  obtain ⟨j, hj, e⟩ := List.getElem_of_mem hf
  have := h j f hj (by rw [List.getElem?_eq_getElem hj, e])
  simp [this]
theorem any_at {fs : List FL} {x : Bool} {i : Int} {k : Nat} {f : FL} (hf : fs[k]? = some f) (ht : takesV f x i = true) : fs.any (takesV · x i) = true := by
  rw [List.any_eq_true]
  exact ⟨f, List.mem_of_getElem? hf, ht⟩

set_option maxRecDepth 100000 in
set_option maxHeartbeats 2000000 in
theorem good_any (fs : List FL) (n : Nat) (hn : fs.length = n) (A : Option Addr) (c : Nat) (w : World) (h : LRow w w.heap.size A fs) (hm : n ≤ 100) :
    Calls Try.prog 13 #[.slice A n c] w fun e w' => e = .returned (.bool (goodV fs)) ∧ Below w.heap.size w w' := by
  have Hn := Lib.hid hn
  clear hn
  go_enter Try.func13, Try.ntmps13
  go_wp2_with fail
  go_loopw [3] (fun i wr => ∃ k : Nat, k ≤ n ∧ i = .int .i64 k ∧ (∀ j f, j < k → fs[j]? = some f → refRightP f = true) ∧ Below w.heap.size w wr) (fun i _ => n - (intOf i).toNat)
  case atStart => exact ⟨0, Nat.zero_le _, rfl, fun j f hj => absurd hj (by omega), Below.refl _ _⟩
  case round =>
    obtain ⟨k, hk, rfl, hr, hB⟩ := hrel
    have Hr := Lib.hid hr
    clear hr
    by_cases hlt : k < n
    · obtain ⟨ad, f, rfl, hf, h0, h1, h2⟩ := (h.below hB).get_ (k := k) (by rw [Hn.out]; exact hlt)
      have Hf := Lib.hid hf
      clear hf
      obtain ⟨q, hq⟩ : ∃ q, refRightP f = q := ⟨_, rfl⟩
      have Hq := Lib.hid hq
      clear hq
      cases q
      · go_wp2_with (first | (go_at_call 12; refine (refRight_any f _).mono ?_; rw [Hq.out]; rintro e w1 ⟨rfl, hB1⟩) | fail)
        go_ret
        refine ⟨ret_bool ?_, hB.trans (hB1.mono hB.size)⟩
        cases hg : goodV fs
        · rfl
        · have := List.all_eq_true.1 hg f (List.mem_of_getElem? Hf.out)
          rw [Hq.out] at this
          cases this
      · go_wp2_with (first | (go_at_call 12; refine (refRight_any f _).mono ?_; rw [Hq.out]; rintro e w1 ⟨rfl, hB1⟩) | fail)
        go_round
        case measure => simp [intOf]; omega
        refine ⟨k + 1, by omega, by go_num, fun j g hj hg => ?_, hB.trans (hB1.mono hB.size)⟩
        by_cases hjk : j < k
        · exact Hr.out j g hjk hg
        · obtain rfl : j = k := by omega
          rw [Hf.out] at hg
          obtain rfl := Option.some.inj hg
          exact Hq.out
    · obtain rfl : k = n := by omega
      go_wp2_with fail
      go_ret
      refine ⟨ret_bool ?_, hB⟩
      symm
      unfold goodV
      rw [List.all_eq_true]
      intro f hf
      obtain ⟨j, hj, e⟩ := List.getElem_of_mem hf
      exact Hr.out j f (by rw [← Hn.out]; exact hj) (by rw [List.getElem?_eq_getElem hj, e])

set_option maxRecDepth 100000 in
set_option maxHeartbeats 2000000 in
theorem any1_any (f : FL) (g : FV) (X : Nat) (w : World) (hX : HasF w X g) (q : Bool) (hq : takesV f g.x g.i = q) :
    Calls Try.prog 24 #[f.v, .pointer (some ⟨X, 0, none⟩)] w fun e w' => e = .returned (.bool q) ∧ Below w.heap.size w w' := by
  have Hq := Lib.hid hq
  clear hq
  obtain ⟨w0, hw0⟩ : ∃ w0, w.alloc (.cells #[.bool f.x, .int .i64 f.k, .int .i64 f.m] 23) = w0 := ⟨_, rfl⟩
  have hT0 : Below w.heap.size w w0 := by rw [← hw0]; exact below_alloc1 _ _
  have hA0 : HasL w0 w.heap.size f := by rw [← hw0]; exact World.alloc_heap_new _ _
  have hX0 : HasF w0 X g := block_below hT0 hX
  obtain ⟨a0, a1, a2⟩ := cells3' hA0
  obtain ⟨b0, b1, b2, b3, b4⟩ := cells5' hX0
  go_enter Try.func24, Try.ntmps24
  go_wp2_with (first | (go_at_call 15; refine (takes_any f g _).mono ?_; rw [Hq.out]; rintro e w1 ⟨rfl, hB1⟩) | fail)
  go_ret
  exact ⟨rfl, below_then hT0 hB1⟩

abbrev clos (X : Nat) : Value := .func (.func 24) #[] #[.pointer (some ⟨X, 0, none⟩)]

set_option maxRecDepth 100000 in
set_option maxHeartbeats 2000000 in
theorem index_any (fs : List FL) (g : FV) (X n : Nat) (hn : fs.length = n) (A : Option Addr) (c : Nat) (w : World) (h : LRow w w.heap.size A fs) (hX : HasF w X g) (hm : n ≤ 1000) :
    Calls Try.prog 27 #[.slice A n c, clos X] w fun e w' => ∃ z : Int, e = .returned (.int .i64 z) ∧ decide (0 ≤ z) = fs.any (takesV · g.x g.i) ∧ Below w.heap.size w w' := by
  have Hn := Lib.hid hn
  clear hn
  go_enter Try.func27, Try.ntmps27
  go_wp2_with fail
  go_loopw [8] (fun i wr => ∃ k : Nat, k ≤ n ∧ i = .int .i64 k ∧ noneUpto fs g.x g.i k ∧ Below w.heap.size w wr) (fun i _ => n - (intOf i).toNat)
  case atStart => exact ⟨0, Nat.zero_le _, rfl, fun j f hj => absurd hj (by omega), Below.refl _ _⟩
  case round =>
    obtain ⟨k, hk, rfl, hr, hB⟩ := hrel
    have Hr := Lib.hid hr
    clear hr
    by_cases hlt : k < n
    · obtain ⟨ad, f, rfl, hf, h0, h1, h2⟩ := (h.below hB).get_ (k := k) (by rw [Hn.out]; exact hlt)
      have Hf := Lib.hid hf
      clear hf
      obtain ⟨q, hq⟩ : ∃ q, takesV f g.x g.i = q := ⟨_, rfl⟩
      have Hq := Lib.hid hq
      clear hq
      have hX1 : HasF wr X g := block_below hB hX
      have HX := Lib.hid hX1
      clear hX1
      cases q
      · go_wp2_with (first | (go_at_call 24; refine (any1_any f g X _ HX.out false Hq.out).mono ?_; rintro e w1 ⟨rfl, hB1⟩) | fail)
        go_round
        case measure => simp [intOf]; omega
        exact ⟨k + 1, by omega, by go_num, Hr.out.next Hf.out Hq.out, hB.trans (hB1.mono hB.size)⟩
      · go_wp2_with (first | (go_at_call 24; refine (any1_any f g X _ HX.out true Hq.out).mono ?_; rintro e w1 ⟨rfl, hB1⟩) | fail)
        go_ret
        exact ⟨_, rfl, by rw [any_at Hf.out Hq.out]; simp, hB.trans (hB1.mono hB.size)⟩
    · obtain rfl : k = n := by omega
      go_wp2_with fail
      go_ret
      refine ⟨_, rfl, ?_, hB⟩
      rw [noneUpto.all (by rw [Hn.out]; exact Hr.out)]
      rfl

set_option maxRecDepth 100000 in
set_option maxHeartbeats 2000000 in
theorem contains_any (fs : List FL) (g : FV) (X n : Nat) (hn : fs.length = n) (A : Option Addr) (c : Nat) (w : World) (h : LRow w w.heap.size A fs) (hX : HasF w X g) (hm : n ≤ 1000) (q : Bool) (hq : fs.any (takesV · g.x g.i) = q) :
    Calls Try.prog 25 #[.slice A n c, clos X] w fun e w' => e = .returned (.bool q) ∧ Below w.heap.size w w' := by
  have Hq := Lib.hid hq
  clear hq
  go_enter Try.func25, Try.ntmps25
  go_wp2_with (first | (go_at_call 27; refine (index_any fs g X n hn A c _ h hX hm).mono ?_; rw [Hq.out]; rintro e w1 ⟨z, rfl, hz, hB1⟩) | fail)
  go_ret
  exact ⟨rfl, hB1⟩

set_option maxRecDepth 100000 in
set_option maxHeartbeats 2000000 in
theorem any_any (fs : List FL) (g : FV) (n : Nat) (hn : fs.length = n) (A : Option Addr) (c : Nat) (w : World) (h : LRow w w.heap.size A fs) (hm : n ≤ 1000) :
    Calls Try.prog 17 #[.slice A n c, g.v] w fun e w' => e = .returned (.bool (anyV fs g.x g.i)) ∧ Below w.heap.size w w' := by
  obtain ⟨w0, hw0⟩ : ∃ w0, w.alloc (.cells #[.bool g.x, .int .i64 g.i, .bool g.r, .int .i64 g.n, .slice g.a g.m g.c] 27) = w0 := ⟨_, rfl⟩
  have hT0 : Below w.heap.size w w0 := by rw [← hw0]; exact below_alloc1 _ _
  have hX0 : HasF w0 w.heap.size g := by rw [← hw0]; exact World.alloc_heap_new _ _
  have HX := Lib.hid hX0
  clear hX0
  by_cases h0 : n = 0
  · subst h0
    obtain rfl := List.eq_nil_of_length_eq_zero hn
    go_enter Try.func17, Try.ntmps17
    go_wp2_with fail
    go_ret
    exact ⟨rfl, hT0⟩
  · obtain ⟨q, hq⟩ : ∃ q, fs.any (takesV · g.x g.i) = q := ⟨_, rfl⟩
    have Hq := Lib.hid hq
    clear hq
    have hd1 : ((n : Int) == 0) = false := by simp; omega
    have hd2 : (n == 0) = false := by simp; omega
    go_enter Try.func17, Try.ntmps17
    go_wp2_with (first | (go_at_call 25; refine (contains_any fs g w.heap.size n hn A c _ (h.to hT0) HX.out hm q Hq.out).mono ?_; rintro e w1 ⟨rfl, hB1⟩) | fail)
    go_ret
    refine ⟨ret_bool ?_, below_then hT0 hB1⟩
    unfold anyV
    rw [Hq.out]
    cases fs with
    | nil => simp at hn; omega
    | cons => simp

end Go.Proofs.Ytmffflckcpgjiaa
