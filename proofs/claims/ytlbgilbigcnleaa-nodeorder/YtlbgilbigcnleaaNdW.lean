/-
  with, without, kept: the program's own helpers of layer 9.
-/
import Derived.Test.YtlbgilbigcnleaaNdK
import Derived.Test.YtlbgilbigcnleaaNAny
import Derived.Deep.RegionWith
namespace Go.Proofs.Ytlbgilbigcnleaa
open Go.RowKit
set_option linter.unusedVariables false
set_option linter.unusedSimpArgs false

section
variable {w w' : World} {P : Nat → Prop} {A : Option Addr} {n c : Nat} {Fs : List FC}
theorem FSl.take_ (h : FSl w P A n c Fs) {j : Nat} (hj : j ≤ n) : FSl w P A j c (Fs.take j) := by
  refine ⟨by rw [List.length_take, h.len]; omega, by have := h.cap; omega, by have := h.big; omega, ?_, fun h0 => h.inP (by omega)⟩
  obtain ⟨fs, h1, h2⟩ := h.row
  have := h1.sub_ 0 j (Nat.zero_le _) (by rw [h2.1, h.len]; exact hj) (A' := A) (fun _ => by cases A <;> simp [Addr.add])
  exact ⟨fs.take j, by simpa using this, h2.take j⟩
theorem FSl.drop_ {ad : Addr} (h : FSl w P (some ad) n c Fs) {j m d : Nat} (hm : j + m = n) (hd : j + d = c) : FSl w P (some (ad.add (j * 5))) m d (Fs.drop j) := by
  refine ⟨by rw [List.length_drop, h.len]; omega, by have := h.cap; omega, by have := h.big; omega, ?_, fun h0 a e => ?_⟩
  · obtain ⟨fs, h1, h2⟩ := h.row
    have := h1.sub_ j n (by omega) (by rw [h2.1, h.len]; omega) (A' := some (ad.add (j * 5))) (fun _ => rfl)
    rw [List.take_of_length_le (by rw [List.length_drop, h2.1, h.len]; omega)] at this
    exact ⟨fs.drop j, this, h2.drop j⟩
  · obtain rfl := Option.some.inj e
    rw [addr_block]
    exact h.inP (by omega) ad rfl
theorem FSl.empty (h : FSl w P A n c Fs) {A' : Option Addr} {d : Nat} : FSl w P A' 0 d [] := ⟨rfl, Nat.zero_le _, by decide, ⟨[], .inl rfl, FsIs.nil⟩, fun h => absurd h (by decide)⟩
theorem fsl_lit1 {f : FV} {F : FC} (h : FIs w P f F) (hP : ∀ b, w.heap.size ≤ b → P b) {k : Nat} (hk : k = w.heap.size) :
    FSl (w.alloc (.cells #[.bool f.x, .int .i64 f.i, .bool f.r, .int .i64 f.n, .slice f.a f.m f.c] 30)) P (some ⟨k, 0, none⟩) 1 1 [F] :=
  ⟨rfl, Nat.le_refl _, by decide, ⟨[f], FRow.lit1 w f hk, FsIs.one (h.to (below_alloc1 _ _))⟩, fun _ ad e => by obtain rfl := Option.some.inj e; subst hk; exact hP _ (Nat.le_refl _)⟩
end

set_option maxRecDepth 100000 in
set_option maxHeartbeats 2000000 in
theorem with_c {w : World} {P : Nat → Prop} {A : Option Addr} {n c : Nat} {Fs : List FC} {f : FV} {F : FC} (h : FSl w P A n c Fs) (hf : FIs w P f F) (hP : ∀ b, w.heap.size ≤ b → P b) (N : Nat) (hN : n + 1 = N) (hN2 : N ≤ 1000) :
    Calls Try.prog 48 #[.slice A n c, f.v] w fun e w' => ∃ A' c', e = .returned (.slice A' N c') ∧ FSl w' P A' N c' (Fs ++ [F]) ∧ Below w.heap.size w w' := by
  obtain ⟨w0, hw0⟩ : ∃ w0, w.alloc (.cells #[.bool f.x, .int .i64 f.i, .bool f.r, .int .i64 f.n, .slice f.a f.m f.c] 30) = w0 := ⟨_, rfl⟩
  have hT0 : Below w.heap.size w w0 := by rw [← hw0]; exact below_alloc1 _ _
  have hX0 : HasF w0 w.heap.size f := by rw [← hw0]; exact World.alloc_heap_new _ _
  obtain ⟨b0, b1, b2, b3, b4⟩ := cells5' hX0
  have hP0 : ∀ b, w0.heap.size ≤ b → P b := fun b hb => hP b (Nat.le_trans hT0.size hb)
  have h1 := (h.to hT0).to (below_alloc1 w0 (.cells #[.bool f.x, .int .i64 f.i, .bool f.r, .int .i64 f.n, .slice f.a f.m f.c] 30))
  have h2 := fsl_lit1 (hf.to hT0) hP0 rfl
  go_enter Try.func48, Try.ntmps48
  go_wp2_with fail
  refine (concat2F _ _ P h1 h2 N hN hN2 (fun b hb => hP0 b (by simp at hb; omega)) (by simp)).mono ?_
  rintro e w2 ⟨A', c', rfl, hr, hB⟩
  go_wp2_with fail
  go_ret
  exact ⟨A', c', rfl, hr, below_then hT0 (below_then (below_alloc1 _ _) hB)⟩

set_option maxRecDepth 100000 in
set_option maxHeartbeats 2000000 in
theorem without_c {w : World} {P : Nat → Prop} {A : Option Addr} {n c : Nat} {Fs : List FC} (h : FSl w P A n c Fs) (hP : ∀ b, w.heap.size ≤ b → P b) (k : Nat) (hk : k < n) (N : Nat) (hN : N + 1 = n) (hN2 : n ≤ 1000) (Gs : List FC) (hG : Fs.eraseIdx k = Gs) :
    Calls Try.prog 52 #[.slice A n c, .int .i64 k] w fun e w' => ∃ A' c', e = .returned (.slice A' N c') ∧ FSl w' P A' N c' Gs ∧ Below w.heap.size w w' := by
  obtain ⟨ad, _, _, rfl, _⟩ := h.at_ hk
  have hcap := h.cap
  have hi0 : decide ((k : Int) < 0) = false := by simp
  have her : Fs.take k ++ Fs.drop (k + 1) = Gs := by rw [← hG]; exact (List.eraseIdx_eq_take_drop_succ Fs k).symm
  have Her := Lib.hid her
  clear her hG
  have h1 := h.take_ (Nat.le_of_lt hk)
  by_cases hce : c = k + 1
  · subst hce
    obtain rfl : n = k + 1 := by omega
    obtain rfl : N = k := by omega
    have e0 : Fs.drop (N + 1) = [] := by rw [List.drop_eq_nil_of_le (by rw [h.len]; exact Nat.le_refl _)]
    rw [e0] at Her
    clear e0
    have i1 : (N : Int) ≤ (N : Int) + 1 := by omega
    have i2 : (0 : Int) ≤ (N : Int) + 1 := by omega
    have i4 : ((N : Int) + 1).toNat = N + 1 := by omega
    have i5 : IntKind.i64.wrap ((N : Int) + 1) = (N : Int) + 1 := by rw [IntKind.wrap_i64]; omega
    go_enter Try.func52, Try.ntmps52
    go_wp2_with fail
    go_region_with (first
      | (go_at_call 66; refine (concat2F _ _ P (h1.to (below_drew1 _)) (FSl.empty (h1.to (below_drew1 _))) N (by omega) (by omega) (fun b hb => hP b (by simpa using hb)) (by simp)).mono ?_; rintro e w2 ⟨A', c', rfl, hr, hB⟩)
      | fail)
    go_wp2_with fail
    go_ret
    exact ⟨A', c', rfl, by rw [← Her.out]; exact hr, below_then (below_drew1 _) hB⟩
  · have hcn : ¬ k + 1 = c := fun e => hce e.symm
    have i1 : (k : Int) ≤ (c : Int) := by omega
    have i2 : (k : Int) + 1 ≤ (n : Int) := by omega
    have i3 : (n : Int) ≤ (c : Int) := by omega
    have i6 : (0 : Int) ≤ (k : Int) + 1 := by omega
    have i4 : ((k : Int) + 1).toNat = k + 1 := by omega
    have i5 : IntKind.i64.wrap ((k : Int) + 1) = (k : Int) + 1 := by rw [IntKind.wrap_i64]; omega
    have h2 := h.drop_ (j := k + 1) (m := n - (k + 1)) (d := c - (k + 1)) (by omega) (by omega)
    have h2' := h2
    rw [add_pos _ _ (by omega)] at h2'
    go_enter Try.func52, Try.ntmps52
    go_wp2_with fail
    go_region_with (first
      | (go_at_call 66; refine (concat2F _ _ P (h1.to (below_drew1 _)) (by first | exact h2.to (below_drew1 _) | exact h2'.to (below_drew1 _)) N (by omega) (by omega) (fun b hb => hP b (by simpa using hb)) (by simp)).mono ?_; rintro e w2 ⟨A', c', rfl, hr, hB⟩)
      | fail)
    go_wp2_with fail
    go_ret
    exact ⟨A', c', rfl, by rw [← Her.out]; exact hr, below_then (below_drew1 _) hB⟩

set_option maxRecDepth 100000 in
set_option maxHeartbeats 2000000 in
theorem kept_c {w : World} {P : Nat → Prop} {f : FV} {F : FC} (hf : FIs w P f F) (hP : ∀ b, w.heap.size ≤ b → P b) (hm : F.d.length ≤ 1000) :
    Calls Try.prog 49 #[f.v] w fun e w' => ∃ g : FV, e = .returned g.v ∧ FIs w' P g F ∧ Below w.heap.size w w' := by
  obtain ⟨w0, hw0⟩ : ∃ w0, (w.alloc (.cells #[.bool f.x, .int .i64 f.i, .bool f.r, .int .i64 f.n, .slice f.a f.m f.c] 30)).alloc (.cells #[.bool false, .int .i64 0, .bool false, .int .i64 0, .slice none 0 0] 30) = w0 := ⟨_, rfl⟩
  have hT0 : Below w.heap.size w w0 := by rw [← hw0]; exact below_two _ _ _
  have hX0 : HasF w0 w.heap.size f := by rw [← hw0]; exact blk1 _ _ _
  have hR0 : HasF w0 (w.heap.size + 1) zeroFV := by rw [← hw0]; exact blk2_NFi _ _ _
  have hs0 : w0.heap.size = w.heap.size + 2 := by rw [← hw0]; simp
  have Hs0 := Lib.hid hs0
  clear hs0
  obtain ⟨b0, b1, b2, b3, b4⟩ := cells5' hX0
  go_enter Try.func49, Try.ntmps49
  go_wp2_with fail
  clear b0 b1 b2 b3 b4
  refine (clone_any F.d f.m hf.len (by rw [← hf.len]; exact hm) f.a f.c w0 (hf.to hT0).row (Gap P w.heap.size (w.heap.size + 2)) (fun b hb => gap_up hP (by omega) b (by have := Hs0.out; omega))).mono ?_
  rintro e w1 ⟨A', c', rfl, hr, hc, hi, hB1⟩
  have hT1 := below_then hT0 hB1
  have hX1 := block_below hB1 hX0
  have hR1 := block_below hB1 hR0
  obtain ⟨⟨b0, b1, b2, b3, b4⟩, f0, f1, f2, f3, f4⟩ := cells5 hX1
  obtain ⟨⟨c0, c1, c2, c3, c4⟩, g0, g1, g2, g3, g4⟩ := cells5 hR1
  go_wp2_with fail
  have hne := (FIs.mk (f := ⟨f.x, f.i, f.r, f.n, A', f.m, c'⟩) hf.x hf.i hf.r hf.n hf.len hc hf.big hf.byte hr hi).grow (grown_setAt w1 w.heap.size 4 (.slice A' f.m c')) (gap_not (Nat.le_refl _) (by omega))
  exact bodyPost_ret (v := FV.v ⟨f.x, f.i, f.r, f.n, A', f.m, c'⟩) (results_f (f := ⟨f.x, f.i, f.r, f.n, A', f.m, c'⟩) rfl _ rfl (set5_obj (other_g (grown_setAt _ _ _ _) hR1 (by omega)) _ _ _ _ _)) rfl ⟨_, rfl, (hne.grow (set5_grown _ _ _ _ _ _ _) (gap_not (by omega) (by omega))).ungap, below_g (below_g hT1 (grown_setAt _ _ _ _) (Nat.le_refl _)) (set5_grown _ _ _ _ _ _ _) (by omega)⟩

end Go.Proofs.Ytlbgilbigcnleaa
