/-
  Are frames, or filters, right, and not too many: the program's fits, the document's frames and filters.
-/
import Derived.Test.YtlbgilbigcnleaaNdF
namespace Go.Proofs.Ytlbgilbigcnleaa
open Go.RowKit
set_option linter.unusedVariables false
set_option linter.unusedSimpArgs false

theorem lrRight_c {f : FL} (hf : -9223372036854775808 ≤ f.m ∧ f.m < 9223372036854775808) (q : Bool) (hq : refRightP f = q) (w : World) : Calls Try.prog 38 #[f.v] w fun e w' => e = .returned (.bool q) ∧ Below w.heap.size w w' :=
  (right_any f w).mono (by rintro e w' ⟨h1, h2⟩; exact ⟨by rw [h1, right_eq hf, hq], h2⟩)
theorem refLrRight_c {f : FL} (q : Bool) (hq : refRightP f = q) (w : World) : Calls Try.prog 62 #[f.v] w fun e w' => e = .returned (.bool q) ∧ Below w.heap.size w w' :=
  (refRight_any f w).mono (by rintro e w' ⟨h1, h2⟩; exact ⟨by rw [h1, hq], h2⟩)

set_option maxRecDepth 100000 in
set_option maxHeartbeats 2000000 in
theorem fits1F {w : World} {P : Nat → Prop} {f : FV} {F : FC} (hf : FIs w P f F) (q : Bool) (hq : rightC F = q) (X : Nat) (hX : w.cell? ⟨X, 0, none⟩ = some (fnv 43)) :
    Calls Try.prog 63 #[f.v, .pointer (some ⟨X, 0, none⟩)] w fun e w' => e = .returned (.bool (!q)) ∧ Below w.heap.size w w' := by
  have Hq := Lib.hid hq
  clear hq
  obtain ⟨w0, hw0⟩ : ∃ w0, w.alloc (.cells #[.bool f.x, .int .i64 f.i, .bool f.r, .int .i64 f.n, .slice f.a f.m f.c] 30) = w0 := ⟨_, rfl⟩
  have hT0 : Below w.heap.size w w0 := by rw [← hw0]; exact below_alloc1 _ _
  have hX0 : HasF w0 w.heap.size f := by rw [← hw0]; exact World.alloc_heap_new _ _
  have hC0 := (hT0.cell (World.block_lt_of_cell? _ _ hX)).trans hX
  obtain ⟨b0, b1, b2, b3, b4⟩ := cells5' hX0
  go_enter Try.func63, Try.ntmps63
  go_wp2_with fail
  refine (frRight_c (hf.to hT0) q Hq.out).mono ?_
  rintro e w1 ⟨rfl, hB1⟩
  go_wp2_with fail
  go_ret
  exact ⟨rfl, below_then hT0 hB1⟩

abbrev closF (X : Nat) : Value := .func (.func 63) #[] #[.pointer (some ⟨X, 0, none⟩)]
def allUptoF (Fs : List FC) (k : Nat) : Prop := ∀ (j : Nat) (f : FC), j < k → Fs[j]? = some f → rightC f = true
theorem allUptoF.next {Fs : List FC} {k : Nat} (h : allUptoF Fs k) {f : FC} (hf : Fs[k]? = some f) (ht : rightC f = true) : allUptoF Fs (k + 1) := by
  intro j g hj hg
  by_cases hjk : j < k
  · exact h j g hjk hg
  · obtain rfl : j = k := by omega
    rw [hf] at hg
    obtain rfl := Option.some.inj hg
    exact ht
theorem allUptoF.all {Fs : List FC} (h : allUptoF Fs Fs.length) : Fs.all rightC = true := by
  rw [List.all_eq_true]
  intro f hf
  obtain ⟨j, hj, e⟩ := List.getElem_of_mem hf
  exact h j f hj (by rw [List.getElem?_eq_getElem hj, e])
theorem all_atF {Fs : List FC} {k : Nat} {f : FC} (hf : Fs[k]? = some f) (ht : rightC f = false) : Fs.all rightC = false := by
  cases h : Fs.all rightC
  · rfl
  · rw [List.all_eq_true.1 h f (List.mem_of_getElem? hf)] at ht; cases ht

set_option maxRecDepth 100000 in
set_option maxHeartbeats 2000000 in
theorem indexF_any {w : World} {P : Nat → Prop} {A : Option Addr} {n c : Nat} {Fs : List FC} (h : FSl w P A n c Fs) (hm : n ≤ 1000) (X : Nat) (hX : w.cell? ⟨X, 0, none⟩ = some (fnv 43)) :
    Calls Try.prog 77 #[.slice A n c, closF X] w fun e w' => ∃ z : Int, e = .returned (.int .i64 z) ∧ decide (0 ≤ z) = (!Fs.all rightC) ∧ Below w.heap.size w w' := by
  have Hn := Lib.hid h.len
  have HC := Lib.hid hX
  clear hX
  go_enter Try.func77, Try.ntmps77
  go_wp2_with fail
  go_loopw [8] (fun i wr => ∃ k : Nat, k ≤ n ∧ i = .int .i64 k ∧ allUptoF Fs k ∧ Below w.heap.size w wr) (fun i _ => n - (intOf i).toNat)
  case atStart => exact ⟨0, Nat.zero_le _, rfl, fun j f hj => absurd hj (by omega), Below.refl _ _⟩
  case round =>
    obtain ⟨k, hk, rfl, hr, hB⟩ := hrel
    have Hr := Lib.hid hr
    clear hr
    by_cases hlt : k < n
    · obtain ⟨ad, f, F, rfl, hf, ⟨h0, h1, h2, h3, h4⟩, hfi⟩ := (h.to hB).at_ (k := k) hlt
      skip
      have Hf := Lib.hid hf
      clear hf
      obtain ⟨q, hq⟩ : ∃ q, rightC F = q := ⟨_, rfl⟩
      have Hq := Lib.hid hq
      clear hq
      have HC1 := Lib.hid ((hB.cell (World.block_lt_of_cell? _ _ HC.out)).trans HC.out)
      cases q
      · go_wp2_with (first | (go_at_call 63; refine (fits1F hfi false Hq.out X HC1.out).mono ?_; rintro e w1 ⟨rfl, hB1⟩) | fail)
        go_ret
        exact ⟨_, rfl, by rw [all_atF Hf.out Hq.out]; simp, hB.trans (hB1.mono hB.size)⟩
      · go_wp2_with (first | (go_at_call 63; refine (fits1F hfi true Hq.out X HC1.out).mono ?_; rintro e w1 ⟨rfl, hB1⟩) | fail)
        go_round
        case measure => simp [intOf]; omega
        exact ⟨k + 1, by omega, by go_num, Hr.out.next Hf.out Hq.out, hB.trans (hB1.mono hB.size)⟩
    · obtain rfl : k = n := by omega
      go_wp2_with fail
      go_ret
      refine ⟨_, rfl, ?_, hB⟩
      rw [allUptoF.all (by rw [Hn.out]; exact Hr.out)]
      rfl

set_option maxRecDepth 100000 in
set_option maxHeartbeats 2000000 in
theorem containsF_any {w : World} {P : Nat → Prop} {A : Option Addr} {n c : Nat} {Fs : List FC} (h : FSl w P A n c Fs) (hm : n ≤ 1000) (X : Nat) (hX : w.cell? ⟨X, 0, none⟩ = some (fnv 43)) (q : Bool) (hq : Fs.all rightC = q) :
    Calls Try.prog 64 #[.slice A n c, closF X] w fun e w' => e = .returned (.bool (!q)) ∧ Below w.heap.size w w' := by
  have Hq := Lib.hid hq
  clear hq
  go_enter Try.func64, Try.ntmps64
  go_wp2_with (first | (go_at_call 77; refine (indexF_any h hm X hX).mono ?_; rw [Hq.out]; rintro e w1 ⟨z, rfl, hz, hB1⟩) | fail)
  go_ret
  exact ⟨rfl, hB1⟩

def rightFs (m : Nat) (Fs : List FC) : Bool := decide (Fs.length ≤ m) && Fs.all rightC
set_option maxRecDepth 100000 in
set_option maxHeartbeats 2000000 in
theorem fitsF_c {w : World} {P : Nat → Prop} {A : Option Addr} {n c : Nat} {Fs : List FC} (h : FSl w P A n c Fs) (m : Nat) (M : Int) (hM : (m : Int) = M) (hm : m ≤ 1000) (q : Bool) (hq : rightFs m Fs = q) :
    Calls Try.prog 42 #[.slice A n c, .int .i64 M, fnv 43] w fun e w' => e = .returned (.bool q) ∧ Below w.heap.size w w' := by
  subst hM
  obtain ⟨w0, hw0⟩ : ∃ w0, w.alloc (.cells #[fnv 43] 33) = w0 := ⟨_, rfl⟩
  have hT0 : Below w.heap.size w w0 := by rw [← hw0]; exact below_alloc1 _ _
  have hX0 : w0.cell? ⟨w.heap.size, 0, none⟩ = some (fnv 43) := by rw [← hw0]; have hb := World.alloc_heap_new w (.cells #[fnv 43] 33); simp only [World.cell?, hb]; rfl
  have HC := Lib.hid hX0
  clear hX0
  unfold rightFs at hq
  rw [h.len] at hq
  by_cases hle : n ≤ m
  · obtain ⟨r, hr⟩ : ∃ r, Fs.all rightC = r := ⟨_, rfl⟩
    have Hr := Lib.hid hr
    obtain rfl : r = q := by rw [← hq, hr]; simp [hle]
    clear hq hr
    have d1 : decide ((n : Int) ≤ (m : Int)) = true := by simp; omega
    have d2 : (n : Int) ≤ (m : Int) := by omega
    go_enter Try.func42, Try.ntmps42
    go_wp2_with (first | (go_at_call 64; refine (containsF_any (h.to hT0) (by omega) w.heap.size HC.out r Hr.out).mono ?_; rintro e w1 ⟨rfl, hB1⟩) | fail)
    go_ret
    exact ⟨ret_bool (by cases r <;> rfl), below_then hT0 hB1⟩
  · obtain rfl : false = q := by rw [← hq]; simp [hle]
    clear hq
    have d1 : decide ((n : Int) ≤ (m : Int)) = false := by simp; omega
    have d2 : ¬ (n : Int) ≤ (m : Int) := by omega
    go_enter Try.func42, Try.ntmps42
    go_wp2_with fail
    go_ret
    exact ⟨rfl, hT0⟩

set_option maxRecDepth 100000 in
set_option maxHeartbeats 2000000 in
theorem refFs_c {w : World} {P : Nat → Prop} {A : Option Addr} {n c : Nat} {Fs : List FC} (h : FSl w P A n c Fs) (m : Nat) (M : Int) (hM : (m : Int) = M) (q : Bool) (hq : rightFs m Fs = q) :
    Calls Try.prog 45 #[.slice A n c, .int .i64 M] w fun e w' => e = .returned (.bool q) ∧ Below w.heap.size w w' := by
  subst hM
  have Hn := Lib.hid h.len
  have hbig := h.big
  unfold maxLen at hbig
  unfold rightFs at hq
  have Hq := Lib.hid hq
  clear hq
  go_enter Try.func45, Try.ntmps45
  go_wp2_with fail
  go_loopw [5] (fun i wr => ∃ k : Nat, k ≤ n ∧ i = .int .i64 k ∧ allUptoF Fs k ∧ Below w.heap.size w wr) (fun i _ => n - (intOf i).toNat)
  case atStart => exact ⟨0, Nat.zero_le _, rfl, fun j f hj => absurd hj (by omega), Below.refl _ _⟩
  case round =>
    obtain ⟨k, hk, rfl, hr, hB⟩ := hrel
    have Hr := Lib.hid hr
    clear hr
    by_cases hlt : k < n
    · obtain ⟨ad, f, F, rfl, hf, ⟨h0, h1, h2, h3, h4⟩, hfi⟩ := (h.to hB).at_ (k := k) hlt
      skip
      have Hf := Lib.hid hf
      clear hf
      obtain ⟨r, hr⟩ : ∃ q, rightC F = q := ⟨_, rfl⟩
      have HR := Lib.hid hr
      clear hr
      cases r
      · go_wp2_with (first | (go_at_call 29; refine (refFrRight_c hfi false HR.out).mono ?_; rintro e w1 ⟨rfl, hB1⟩) | fail)
        go_ret
        exact ⟨ret_bool (by rw [← Hq.out, all_atF Hf.out HR.out, Bool.and_false]), hB.trans (hB1.mono hB.size)⟩
      · go_wp2_with (first | (go_at_call 29; refine (refFrRight_c hfi true HR.out).mono ?_; rintro e w1 ⟨rfl, hB1⟩) | fail)
        go_round
        case measure => simp [intOf]; omega
        exact ⟨k + 1, by omega, by go_num, Hr.out.next Hf.out HR.out, hB.trans (hB1.mono hB.size)⟩
    · obtain rfl : k = n := by omega
      have hq2 := Hq.out
      rw [allUptoF.all (by rw [Hn.out]; exact Hr.out), Bool.and_true, Hn.out] at hq2
      have HQ2 := Lib.hid hq2
      clear hq2
      go_wp2_with fail
      go_ret
      exact ⟨ret_bool (by rw [← HQ2.out]), hB⟩

set_option maxRecDepth 100000 in
set_option maxHeartbeats 2000000 in
theorem fits1L {w : World} {f : FL} (hf : -9223372036854775808 ≤ f.m ∧ f.m < 9223372036854775808) (q : Bool) (hq : refRightP f = q) (X : Nat) (hX : w.cell? ⟨X, 0, none⟩ = some (fnv 38)) :
    Calls Try.prog 60 #[f.v, .pointer (some ⟨X, 0, none⟩)] w fun e w' => e = .returned (.bool (!q)) ∧ Below w.heap.size w w' := by
  have Hq := Lib.hid hq
  clear hq
  obtain ⟨w0, hw0⟩ : ∃ w0, w.alloc (.cells #[.bool f.x, .int .i64 f.k, .int .i64 f.m] 61) = w0 := ⟨_, rfl⟩
  have hT0 : Below w.heap.size w w0 := by rw [← hw0]; exact below_alloc1 _ _
  have hX0 : HasL w0 w.heap.size f := by rw [← hw0]; exact World.alloc_heap_new _ _
  have hC0 := (hT0.cell (World.block_lt_of_cell? _ _ hX)).trans hX
  obtain ⟨b0, b1, b2⟩ := cells3' hX0
  go_enter Try.func60, Try.ntmps60
  go_wp2_with fail
  refine (lrRight_c hf q Hq.out _).mono ?_
  rintro e w1 ⟨rfl, hB1⟩
  go_wp2_with fail
  go_ret
  exact ⟨rfl, below_then hT0 hB1⟩

abbrev closL (X : Nat) : Value := .func (.func 60) #[] #[.pointer (some ⟨X, 0, none⟩)]
def allUptoL (ls : List FL) (k : Nat) : Prop := ∀ (j : Nat) (f : FL), j < k → ls[j]? = some f → refRightP f = true
theorem allUptoL.next {ls : List FL} {k : Nat} (h : allUptoL ls k) {f : FL} (hf : ls[k]? = some f) (ht : refRightP f = true) : allUptoL ls (k + 1) := by
  intro j g hj hg
  by_cases hjk : j < k
  · exact h j g hjk hg
  · obtain rfl : j = k := by omega
    rw [hf] at hg
    obtain rfl := Option.some.inj hg
    exact ht
theorem allUptoL.all {ls : List FL} (h : allUptoL ls ls.length) : ls.all refRightP = true := by
  rw [List.all_eq_true]
  intro f hf
  obtain ⟨j, hj, e⟩ := List.getElem_of_mem hf
  exact h j f hj (by rw [List.getElem?_eq_getElem hj, e])
theorem all_atL {ls : List FL} {k : Nat} {f : FL} (hf : ls[k]? = some f) (ht : refRightP f = false) : ls.all refRightP = false := by
  cases h : ls.all refRightP
  · rfl
  · rw [List.all_eq_true.1 h f (List.mem_of_getElem? hf)] at ht; cases ht

set_option maxRecDepth 100000 in
set_option maxHeartbeats 2000000 in
theorem indexL_any {w : World} {P : Nat → Prop} {A : Option Addr} {n c : Nat} {ls : List FL} (h : LSl w P A n c ls) (hm : n ≤ 1000) (X : Nat) (hX : w.cell? ⟨X, 0, none⟩ = some (fnv 38)) :
    Calls Try.prog 76 #[.slice A n c, closL X] w fun e w' => ∃ z : Int, e = .returned (.int .i64 z) ∧ decide (0 ≤ z) = (!ls.all refRightP) ∧ Below w.heap.size w w' := by
  have Hn := Lib.hid h.len
  have HC := Lib.hid hX
  clear hX
  go_enter Try.func76, Try.ntmps76
  go_wp2_with fail
  go_loopw [8] (fun i wr => ∃ k : Nat, k ≤ n ∧ i = .int .i64 k ∧ allUptoL ls k ∧ Below w.heap.size w wr) (fun i _ => n - (intOf i).toNat)
  case atStart => exact ⟨0, Nat.zero_le _, rfl, fun j f hj => absurd hj (by omega), Below.refl _ _⟩
  case round =>
    obtain ⟨k, hk, rfl, hr, hB⟩ := hrel
    have Hr := Lib.hid hr
    clear hr
    by_cases hlt : k < n
    · obtain ⟨ad, f, rfl, hf, h0, h1, h2⟩ := (h.to hB).at_ (k := k) hlt
      have Hw := Lib.hid (h.wide f (List.mem_of_getElem? hf))
      have Hf := Lib.hid hf
      clear hf
      obtain ⟨q, hq⟩ : ∃ q, refRightP f = q := ⟨_, rfl⟩
      have Hq := Lib.hid hq
      clear hq
      have HC1 := Lib.hid ((hB.cell (World.block_lt_of_cell? _ _ HC.out)).trans HC.out)
      cases q
      · go_wp2_with (first | (go_at_call 60; refine (fits1L Hw.out false Hq.out X HC1.out).mono ?_; rintro e w1 ⟨rfl, hB1⟩) | fail)
        go_ret
        exact ⟨_, rfl, by rw [all_atL Hf.out Hq.out]; simp, hB.trans (hB1.mono hB.size)⟩
      · go_wp2_with (first | (go_at_call 60; refine (fits1L Hw.out true Hq.out X HC1.out).mono ?_; rintro e w1 ⟨rfl, hB1⟩) | fail)
        go_round
        case measure => simp [intOf]; omega
        exact ⟨k + 1, by omega, by go_num, Hr.out.next Hf.out Hq.out, hB.trans (hB1.mono hB.size)⟩
    · obtain rfl : k = n := by omega
      go_wp2_with fail
      go_ret
      refine ⟨_, rfl, ?_, hB⟩
      rw [allUptoL.all (by rw [Hn.out]; exact Hr.out)]
      rfl

set_option maxRecDepth 100000 in
set_option maxHeartbeats 2000000 in
theorem containsL_any {w : World} {P : Nat → Prop} {A : Option Addr} {n c : Nat} {ls : List FL} (h : LSl w P A n c ls) (hm : n ≤ 1000) (X : Nat) (hX : w.cell? ⟨X, 0, none⟩ = some (fnv 38)) (q : Bool) (hq : ls.all refRightP = q) :
    Calls Try.prog 61 #[.slice A n c, closL X] w fun e w' => e = .returned (.bool (!q)) ∧ Below w.heap.size w w' := by
  have Hq := Lib.hid hq
  clear hq
  go_enter Try.func61, Try.ntmps61
  go_wp2_with (first | (go_at_call 76; refine (indexL_any h hm X hX).mono ?_; rw [Hq.out]; rintro e w1 ⟨z, rfl, hz, hB1⟩) | fail)
  go_ret
  exact ⟨rfl, hB1⟩

def rightLs (m : Nat) (ls : List FL) : Bool := decide (ls.length ≤ m) && ls.all refRightP
set_option maxRecDepth 100000 in
set_option maxHeartbeats 2000000 in
theorem fitsL_c {w : World} {P : Nat → Prop} {A : Option Addr} {n c : Nat} {ls : List FL} (h : LSl w P A n c ls) (m : Nat) (M : Int) (hM : (m : Int) = M) (hm : m ≤ 1000) (q : Bool) (hq : rightLs m ls = q) :
    Calls Try.prog 37 #[.slice A n c, .int .i64 M, fnv 38] w fun e w' => e = .returned (.bool q) ∧ Below w.heap.size w w' := by
  subst hM
  obtain ⟨w0, hw0⟩ : ∃ w0, w.alloc (.cells #[fnv 38] 63) = w0 := ⟨_, rfl⟩
  have hT0 : Below w.heap.size w w0 := by rw [← hw0]; exact below_alloc1 _ _
  have hX0 : w0.cell? ⟨w.heap.size, 0, none⟩ = some (fnv 38) := by rw [← hw0]; have hb := World.alloc_heap_new w (.cells #[fnv 38] 63); simp only [World.cell?, hb]; rfl
  have HC := Lib.hid hX0
  clear hX0
  unfold rightLs at hq
  rw [h.len] at hq
  by_cases hle : n ≤ m
  · obtain ⟨r, hr⟩ : ∃ r, ls.all refRightP = r := ⟨_, rfl⟩
    have Hr := Lib.hid hr
    obtain rfl : r = q := by rw [← hq, hr]; simp [hle]
    clear hq hr
    have d1 : decide ((n : Int) ≤ (m : Int)) = true := by simp; omega
    have d2 : (n : Int) ≤ (m : Int) := by omega
    go_enter Try.func37, Try.ntmps37
    go_wp2_with (first | (go_at_call 61; refine (containsL_any (h.to hT0) (by omega) w.heap.size HC.out r Hr.out).mono ?_; rintro e w1 ⟨rfl, hB1⟩) | fail)
    go_ret
    exact ⟨ret_bool (by cases r <;> rfl), below_then hT0 hB1⟩
  · obtain rfl : false = q := by rw [← hq]; simp [hle]
    clear hq
    have d1 : decide ((n : Int) ≤ (m : Int)) = false := by simp; omega
    have d2 : ¬ (n : Int) ≤ (m : Int) := by omega
    go_enter Try.func37, Try.ntmps37
    go_wp2_with fail
    go_ret
    exact ⟨rfl, hT0⟩

set_option maxRecDepth 100000 in
set_option maxHeartbeats 2000000 in
theorem refLs_c {w : World} {P : Nat → Prop} {A : Option Addr} {n c : Nat} {ls : List FL} (h : LSl w P A n c ls)  (q : Bool) (hq : rightLs 8 ls = q) :
    Calls Try.prog 41 #[.slice A n c] w fun e w' => e = .returned (.bool q) ∧ Below w.heap.size w w' := by
  skip
  have Hn := Lib.hid h.len
  have hbig := h.big
  unfold maxLen at hbig
  unfold rightLs at hq
  have Hq := Lib.hid hq
  clear hq
  go_enter Try.func41, Try.ntmps41
  go_wp2_with fail
  go_loopw [3] (fun i wr => ∃ k : Nat, k ≤ n ∧ i = .int .i64 k ∧ allUptoL ls k ∧ Below w.heap.size w wr) (fun i _ => n - (intOf i).toNat)
  case atStart => exact ⟨0, Nat.zero_le _, rfl, fun j f hj => absurd hj (by omega), Below.refl _ _⟩
  case round =>
    obtain ⟨k, hk, rfl, hr, hB⟩ := hrel
    have Hr := Lib.hid hr
    clear hr
    by_cases hlt : k < n
    · obtain ⟨ad, f, rfl, hf, h0, h1, h2⟩ := (h.to hB).at_ (k := k) hlt
      have Hw := Lib.hid (h.wide f (List.mem_of_getElem? hf))
      have Hf := Lib.hid hf
      clear hf
      obtain ⟨r, hr⟩ : ∃ q, refRightP f = q := ⟨_, rfl⟩
      have HR := Lib.hid hr
      clear hr
      cases r
      · go_wp2_with (first | (go_at_call 62; refine (refLrRight_c false HR.out _).mono ?_; rintro e w1 ⟨rfl, hB1⟩) | fail)
        go_ret
        exact ⟨ret_bool (by rw [← Hq.out, all_atL Hf.out HR.out, Bool.and_false]), hB.trans (hB1.mono hB.size)⟩
      · go_wp2_with (first | (go_at_call 62; refine (refLrRight_c true HR.out _).mono ?_; rintro e w1 ⟨rfl, hB1⟩) | fail)
        go_round
        case measure => simp [intOf]; omega
        exact ⟨k + 1, by omega, by go_num, Hr.out.next Hf.out HR.out, hB.trans (hB1.mono hB.size)⟩
    · obtain rfl : k = n := by omega
      have hq2 := Hq.out
      rw [allUptoL.all (by rw [Hn.out]; exact Hr.out), Bool.and_true, Hn.out] at hq2
      have HQ2 := Lib.hid hq2
      clear hq2
      go_wp2_with fail
      go_ret
      exact ⟨ret_bool (by rw [← HQ2.out]; simp; omega), hB⟩

end Go.Proofs.Ytlbgilbigcnleaa
