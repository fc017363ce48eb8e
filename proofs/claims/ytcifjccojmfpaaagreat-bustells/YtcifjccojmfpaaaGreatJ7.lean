/-
  NbE · Open10.
-/
import Derived.Test.YtcifjccojmfpaaaGreatJ0
import Derived.Test.YtcifjccojmfpaaaGreatJ1
import Derived.Test.YtcifjccojmfpaaaGreatJ2
import Derived.Test.YtcifjccojmfpaaaGreatJ3
import Derived.Test.YtcifjccojmfpaaaGreatJ6
set_option maxRecDepth 100000
set_option maxHeartbeats 4000000
namespace Go.Proofs.YtcifjccojmfpaaaGreat
open Go.RowKit
set_option linter.unusedVariables false
set_option linter.unusedSimpArgs false
theorem sameNs_c {w : World} {P P' : Nat → Prop} {A B : Option Addr} {n c d : Nat} {Ns : List NC} (h : NSl w P A n c Ns) (h' : NSl w P' B n d Ns) (hm : n ≤ 1000) :
    Calls Tryz.prog 16 #[.slice A n c, .slice B n d] w fun e w' => e = .returned (.bool true) ∧ Below w.heap.size w w' := by
  have d0 : ((n : Int) != (n : Int)) = false := by simp
  have hT0 : Below w.heap.size w w := Below.refl _ _
  go_enter Tryz.func16, Tryz.ntmps16
  go_wp2_with fail
  go_loopw [5] (fun i wr => ∃ (k : Nat), k ≤ n ∧ i = .int .i64 k ∧ Below w.heap.size w wr) (fun i _ => n - (intOf i).toNat)
  case atStart => exact ⟨0, Nat.zero_le _, rfl, hT0⟩
  case round =>
    clear hT0
    obtain ⟨k, hk, rfl, hT50⟩ := hrel
    by_cases hlt : k < n
    · skip
      have j1 : (k : Int) < (n : Int) := by omega
      have j2 : decide ((k : Int) < (n : Int)) = true := by simpa using j1
      obtain ⟨ad, m, ea_, hAt50, hV50⟩ := NSl.at_ (h.to hT50) hlt
      obtain ⟨N, hN_⟩ : ∃ N_, Ns.getD k zeroN = N_ := ⟨_, rfl⟩
      rw [hN_] at hV50
      have HN := Lib.hid hN_
      clear hN_
      obtain rfl : A = some ad := ea_
      obtain ⟨ad2, m2, ea_, hBt50, hU50⟩ := NSl.at_ (h'.to hT50) hlt
      obtain rfl : B = some ad2 := ea_
      rw [HN.out] at hU50
      go_wp2_with fail
      refine wp_region_held_drew (S := fun W => (W.cell? (ad.add (k * 7)) = some (.slice m.qa m.qm m.qc) ∧ W.cell? ⟨(ad.add (k * 7)).block, (ad.add (k * 7)).off + 1, none⟩ = some (.slice m.la m.lm m.lc) ∧ W.cell? ⟨(ad.add (k * 7)).block, (ad.add (k * 7)).off + 2, none⟩ = some (.int .i64 m.k.t) ∧ W.cell? ⟨(ad.add (k * 7)).block, (ad.add (k * 7)).off + 3, none⟩ = some (.int .i64 m.k.r) ∧ W.cell? ⟨(ad.add (k * 7)).block, (ad.add (k * 7)).off + 4, none⟩ = some (.int .i64 m.k.s) ∧ W.cell? ⟨(ad.add (k * 7)).block, (ad.add (k * 7)).off + 5, none⟩ = some (.int .i64 m.k.q) ∧ W.cell? ⟨(ad.add (k * 7)).block, (ad.add (k * 7)).off + 6, none⟩ = some (.slice m.ga m.gm m.gc)) ∧ (W.cell? (ad2.add (k * 7)) = some (.slice m2.qa m2.qm m2.qc) ∧ W.cell? ⟨(ad2.add (k * 7)).block, (ad2.add (k * 7)).off + 1, none⟩ = some (.slice m2.la m2.lm m2.lc) ∧ W.cell? ⟨(ad2.add (k * 7)).block, (ad2.add (k * 7)).off + 2, none⟩ = some (.int .i64 m2.k.t) ∧ W.cell? ⟨(ad2.add (k * 7)).block, (ad2.add (k * 7)).off + 3, none⟩ = some (.int .i64 m2.k.r) ∧ W.cell? ⟨(ad2.add (k * 7)).block, (ad2.add (k * 7)).off + 4, none⟩ = some (.int .i64 m2.k.s) ∧ W.cell? ⟨(ad2.add (k * 7)).block, (ad2.add (k * 7)).off + 5, none⟩ = some (.int .i64 m2.k.q) ∧ W.cell? ⟨(ad2.add (k * 7)).block, (ad2.add (k * 7)).off + 6, none⟩ = some (.slice m2.ga m2.gm m2.gc))) (by kernel_rfl) (by exact ⟨(nat_to hAt50 (below_drew1 _)), (nat_to hBt50 (below_drew1 _))⟩) (fun hHeld_ => ?_)
      refine wpAnyH_take' (i := 0) (v := ?v0_t12) 17 rfl rfl (by kernel_rfl) (by kernel_rfl) (by kernel_rfl) (fun _ _ _ h => h) (Or.inl ⟨by kernel_rfl, ?hy0_t12⟩) (by assumption) ?rest0_t12
      case hy0_t12 => (intro W_ hS_; (try dsimp only at hS_); go_simp; (try (with_reducible rfl)))
      try simp only [Act.put, siA, scZ, scS]
      refine wpAnyH_take' (i := 1) (v := ?v1_t12) 18 rfl rfl (by kernel_rfl) (by kernel_rfl) (by kernel_rfl) (fun _ _ _ h => h) (Or.inl ⟨by kernel_rfl, ?hy1_t12⟩) (by assumption) ?rest1_t12
      case hy1_t12 => (intro W_ hS_; (try dsimp only at hS_); go_simp; (try (with_reducible rfl)))
      try simp only [Act.put, siA, scZ, scS]
      refine wpAnyH_take' (i := 2) (v := ?v2_t12) 19 rfl rfl (by kernel_rfl) (by kernel_rfl) (by kernel_rfl) (fun _ _ _ h => h) (Or.inl ⟨by kernel_rfl, ?hy2_t12⟩) (by assumption) ?rest2_t12
      case hy2_t12 => (intro W_ hS_; (try dsimp only at hS_); go_simp; (try (with_reducible rfl)))
      try simp only [Act.put, siA, scZ, scS]
      refine wpAnyH_take' (i := 3) (v := ?v3_t12) 20 rfl rfl (by kernel_rfl) (by kernel_rfl) (by kernel_rfl) (fun _ _ _ h => h) (Or.inl ⟨by kernel_rfl, ?hy3_t12⟩) (by assumption) ?rest3_t12
      case hy3_t12 => (intro W_ hS_; (try dsimp only at hS_); go_simp; (try (with_reducible rfl)))
      try simp only [Act.put, siA, scZ, scS]
      refine wpAnyH_take' (i := 4) (v := ?v4_t12) 21 rfl rfl (by kernel_rfl) (by kernel_rfl) (by kernel_rfl) (fun _ _ _ h => h) (Or.inl ⟨by kernel_rfl, ?hy4_t12⟩) (by assumption) ?rest4_t12
      case hy4_t12 => (intro W_ hS_; (try dsimp only at hS_); go_simp; (try (with_reducible rfl)))
      try simp only [Act.put, siA, scZ, scS]
      refine wpAnyH_take' (i := 5) (v := ?v5_t12) 22 rfl rfl (by kernel_rfl) (by kernel_rfl) (by kernel_rfl) (fun _ _ _ h => h) (Or.inl ⟨by kernel_rfl, ?hy5_t12⟩) (by assumption) ?rest5_t12
      case hy5_t12 => (intro W_ hS_; (try dsimp only at hS_); go_simp; (try (with_reducible rfl)))
      try simp only [Act.put, siA, scZ, scS]
      refine wpAnyH_take' (i := 6) (v := ?v6_t12) 23 rfl rfl (by kernel_rfl) (by kernel_rfl) (by kernel_rfl) (fun _ _ _ h => h) (Or.inl ⟨by kernel_rfl, ?hy6_t12⟩) (by assumption) ?rest6_t12
      case hy6_t12 => (intro W_ hS_; (try dsimp only at hS_); go_simp; (try (with_reducible rfl)))
      try simp only [Act.put, siA, scZ, scS]
      refine wpAnyH_take' (i := 7) (v := ?v7_t12) 24 rfl rfl (by kernel_rfl) (by kernel_rfl) (by kernel_rfl) (fun _ _ _ h => h) (Or.inl ⟨by kernel_rfl, ?hy7_t12⟩) (by assumption) ?rest7_t12
      case hy7_t12 => (intro W_ hS_; (try dsimp only at hS_); go_simp; (try (with_reducible rfl)))
      try simp only [Act.put, siA, scZ, scS]
      refine wpAnyH_ready (rs := [8]) (by kernel_rfl) (by simp) ?_
      refine AllReadyH.cons rfl (fun K_ hK_ => ?_) AllReadyH.nil
      go_simp
      refine (same9_c (NIs.to hV50 (below_drew1 _)) (NIs.to hU50 (below_drew1 _)) true (by unfold sameN; simp)).mono ?_; rintro e wr8 ⟨rfl, hBr8⟩
      go_wp2_with fail
      refine hK_.out _ _ (by exact ⟨(nat_to (nat_to hAt50 (below_drew1 _)) hBr8), (nat_to (nat_to hBt50 (below_drew1 _)) hBr8)⟩) (fun hHeld_8 => ?_)
      clear hK_
      try simp only [Act.put, siA, scZ, scS]
      refine wpAnyH_take' (i := 9) (v := ?v9_t12) 26 rfl rfl (by kernel_rfl) (by kernel_rfl) (by kernel_rfl) (fun _ _ _ h => h) (Or.inl ⟨by kernel_rfl, ?hy9_t12⟩) (by assumption) ?rest9_t12
      case hy9_t12 => (intro W_ hS_; (try dsimp only at hS_); go_simp; (try (with_reducible rfl)))
      try simp only [Act.put, siA, scZ, scS]
      refine wpAnyH_done (by kernel_rfl) ?_ _
      obtain ⟨w51, hw51⟩ : ∃ w51, wr8 = w51 := ⟨_, rfl⟩
      have hB51 : Below wr.heap.size wr w51 := by rw [← hw51]; exact (below_then (below_drew1 _) hBr8)
      rw [hw51]
      clear hw51  hBr8
      have hT51 := below_then hT50 hB51
      have hV51 := NIs.to hV50 hB51
      have hAt51 := nat_to hAt50 hB51
      have hU51 := NIs.to hU50 hB51
      have hBt51 := nat_to hBt50 hB51
      clear hT50  hV50 hAt50 hU50 hBt50 hB51
      go_wp2_with fail
      go_round
      case measure => simp [intOf]; omega
      exact ⟨k + 1, by omega, by go_num, hT51⟩
    obtain rfl : k = n := by omega
    have j1 : ¬ (k : Int) < (k : Int) := by omega
    have j2 : decide ((k : Int) < (k : Int)) = false := by simp
    go_wp2_with fail
    go_ret
    exact ⟨rfl, hT50⟩
theorem sameTs_c {w : World} {P P' : Nat → Prop} {A B : Option Addr} {n c d : Nat} {Ts : List TC} (h : TSl w P A n c Ts) (h' : TSl w P' B n d Ts) (hm : n ≤ 1000) :
    Calls Tryz.prog 17 #[.slice A n c, .slice B n d] w fun e w' => e = .returned (.bool true) ∧ Below w.heap.size w w' := by
  have d0 : ((n : Int) != (n : Int)) = false := by simp
  have hT0 : Below w.heap.size w w := Below.refl _ _
  go_enter Tryz.func17, Tryz.ntmps17
  go_wp2_with fail
  go_loopw [5] (fun i wr => ∃ (k : Nat), k ≤ n ∧ i = .int .i64 k ∧ Below w.heap.size w wr) (fun i _ => n - (intOf i).toNat)
  case atStart => exact ⟨0, Nat.zero_le _, rfl, hT0⟩
  case round =>
    clear hT0
    obtain ⟨k, hk, rfl, hT50⟩ := hrel
    by_cases hlt : k < n
    · skip
      have j1 : (k : Int) < (n : Int) := by omega
      have j2 : decide ((k : Int) < (n : Int)) = true := by simpa using j1
      obtain ⟨ad, m, ea_, hAt50, hV50⟩ := TSl.at_ (h.to hT50) hlt
      obtain rfl : A = some ad := ea_
      obtain ⟨ad2, m2, ea_, hBt50, hU50⟩ := TSl.at_ (h'.to hT50) hlt
      obtain rfl : B = some ad2 := ea_
      obtain ⟨T, hT_⟩ : ∃ T, Ts.getD k zeroT = T := ⟨_, rfl⟩
      rw [hT_] at hV50 hU50
      clear hT_
      go_wp2_with fail
      refine wp_region_held_drew (S := fun W => (W.cell? (ad.add (k * 8)) = some (.int .i64 m.w) ∧ W.cell? ⟨(ad.add (k * 8)).block, (ad.add (k * 8)).off + 1, none⟩ = some (.bool m.f.x) ∧ W.cell? ⟨(ad.add (k * 8)).block, (ad.add (k * 8)).off + 2, none⟩ = some (.int .i64 m.f.i) ∧ W.cell? ⟨(ad.add (k * 8)).block, (ad.add (k * 8)).off + 3, none⟩ = some (.bool m.f.r) ∧ W.cell? ⟨(ad.add (k * 8)).block, (ad.add (k * 8)).off + 4, none⟩ = some (.int .i64 m.f.n) ∧ W.cell? ⟨(ad.add (k * 8)).block, (ad.add (k * 8)).off + 5, none⟩ = some (.slice m.f.a m.f.m m.f.c) ∧ W.cell? ⟨(ad.add (k * 8)).block, (ad.add (k * 8)).off + 6, none⟩ = some (.bool m.ok) ∧ W.cell? ⟨(ad.add (k * 8)).block, (ad.add (k * 8)).off + 7, none⟩ = some (.int .i64 m.b)) ∧ (W.cell? (ad2.add (k * 8)) = some (.int .i64 m2.w) ∧ W.cell? ⟨(ad2.add (k * 8)).block, (ad2.add (k * 8)).off + 1, none⟩ = some (.bool m2.f.x) ∧ W.cell? ⟨(ad2.add (k * 8)).block, (ad2.add (k * 8)).off + 2, none⟩ = some (.int .i64 m2.f.i) ∧ W.cell? ⟨(ad2.add (k * 8)).block, (ad2.add (k * 8)).off + 3, none⟩ = some (.bool m2.f.r) ∧ W.cell? ⟨(ad2.add (k * 8)).block, (ad2.add (k * 8)).off + 4, none⟩ = some (.int .i64 m2.f.n) ∧ W.cell? ⟨(ad2.add (k * 8)).block, (ad2.add (k * 8)).off + 5, none⟩ = some (.slice m2.f.a m2.f.m m2.f.c) ∧ W.cell? ⟨(ad2.add (k * 8)).block, (ad2.add (k * 8)).off + 6, none⟩ = some (.bool m2.ok) ∧ W.cell? ⟨(ad2.add (k * 8)).block, (ad2.add (k * 8)).off + 7, none⟩ = some (.int .i64 m2.b))) (by kernel_rfl) (by exact ⟨(tat_to hAt50 (below_drew1 _)), (tat_to hBt50 (below_drew1 _))⟩) (fun hHeld_ => ?_)
      refine wpAnyH_take' (i := 0) (v := ?v0_t13) 17 rfl rfl (by kernel_rfl) (by kernel_rfl) (by kernel_rfl) (fun _ _ _ h => h) (Or.inl ⟨by kernel_rfl, ?hy0_t13⟩) (by assumption) ?rest0_t13
      case hy0_t13 => (intro W_ hS_; (try dsimp only at hS_); go_simp; (try (with_reducible rfl)))
      try simp only [Act.put, siA, scZ, scS]
      refine wpAnyH_take' (i := 1) (v := ?v1_t13) 18 rfl rfl (by kernel_rfl) (by kernel_rfl) (by kernel_rfl) (fun _ _ _ h => h) (Or.inl ⟨by kernel_rfl, ?hy1_t13⟩) (by assumption) ?rest1_t13
      case hy1_t13 => (intro W_ hS_; (try dsimp only at hS_); go_simp; (try (with_reducible rfl)))
      try simp only [Act.put, siA, scZ, scS]
      refine wpAnyH_take' (i := 2) (v := ?v2_t13) 19 rfl rfl (by kernel_rfl) (by kernel_rfl) (by kernel_rfl) (fun _ _ _ h => h) (Or.inl ⟨by kernel_rfl, ?hy2_t13⟩) (by assumption) ?rest2_t13
      case hy2_t13 => (intro W_ hS_; (try dsimp only at hS_); go_simp; (try (with_reducible rfl)))
      try simp only [Act.put, siA, scZ, scS]
      refine wpAnyH_take' (i := 3) (v := ?v3_t13) 20 rfl rfl (by kernel_rfl) (by kernel_rfl) (by kernel_rfl) (fun _ _ _ h => h) (Or.inl ⟨by kernel_rfl, ?hy3_t13⟩) (by assumption) ?rest3_t13
      case hy3_t13 => (intro W_ hS_; (try dsimp only at hS_); go_simp; (try (with_reducible rfl)))
      try simp only [Act.put, siA, scZ, scS]
      refine wpAnyH_take' (i := 4) (v := ?v4_t13) 21 rfl rfl (by kernel_rfl) (by kernel_rfl) (by kernel_rfl) (fun _ _ _ h => h) (Or.inl ⟨by kernel_rfl, ?hy4_t13⟩) (by assumption) ?rest4_t13
      case hy4_t13 => (intro W_ hS_; (try dsimp only at hS_); go_simp; (try (with_reducible rfl)))
      try simp only [Act.put, siA, scZ, scS]
      refine wpAnyH_take' (i := 5) (v := ?v5_t13) 22 rfl rfl (by kernel_rfl) (by kernel_rfl) (by kernel_rfl) (fun _ _ _ h => h) (Or.inl ⟨by kernel_rfl, ?hy5_t13⟩) (by assumption) ?rest5_t13
      case hy5_t13 => (intro W_ hS_; (try dsimp only at hS_); go_simp; (try (with_reducible rfl)))
      try simp only [Act.put, siA, scZ, scS]
      refine wpAnyH_take' (i := 6) (v := ?v6_t13) 23 rfl rfl (by kernel_rfl) (by kernel_rfl) (by kernel_rfl) (fun _ _ _ h => h) (Or.inl ⟨by kernel_rfl, ?hy6_t13⟩) (by assumption) ?rest6_t13
      case hy6_t13 => (intro W_ hS_; (try dsimp only at hS_); go_simp; (try (with_reducible rfl)))
      try simp only [Act.put, siA, scZ, scS]
      refine wpAnyH_take' (i := 7) (v := ?v7_t13) 24 rfl rfl (by kernel_rfl) (by kernel_rfl) (by kernel_rfl) (fun _ _ _ h => h) (Or.inl ⟨by kernel_rfl, ?hy7_t13⟩) (by assumption) ?rest7_t13
      case hy7_t13 => (intro W_ hS_; (try dsimp only at hS_); go_simp; (try (with_reducible rfl)))
      try simp only [Act.put, siA, scZ, scS]
      refine wpAnyH_ready (rs := [8]) (by kernel_rfl) (by simp) ?_
      refine AllReadyH.cons rfl (fun K_ hK_ => ?_) AllReadyH.nil
      go_simp
      refine (sameT_c (TIs.to hV50 (below_drew1 _)) (TIs.to hU50 (below_drew1 _))).mono ?_; rintro e wr8 ⟨rfl, hBr8⟩
      go_wp2_with fail
      refine hK_.out _ _ (by exact ⟨(tat_to (tat_to hAt50 (below_drew1 _)) hBr8), (tat_to (tat_to hBt50 (below_drew1 _)) hBr8)⟩) (fun hHeld_8 => ?_)
      clear hK_
      try simp only [Act.put, siA, scZ, scS]
      refine wpAnyH_take' (i := 9) (v := ?v9_t13) 26 rfl rfl (by kernel_rfl) (by kernel_rfl) (by kernel_rfl) (fun _ _ _ h => h) (Or.inl ⟨by kernel_rfl, ?hy9_t13⟩) (by assumption) ?rest9_t13
      case hy9_t13 => (intro W_ hS_; (try dsimp only at hS_); go_simp; (try (with_reducible rfl)))
      try simp only [Act.put, siA, scZ, scS]
      refine wpAnyH_done (by kernel_rfl) ?_ _
      obtain ⟨w51, hw51⟩ : ∃ w51, wr8 = w51 := ⟨_, rfl⟩
      have hB51 : Below wr.heap.size wr w51 := by rw [← hw51]; exact (below_then (below_drew1 _) hBr8)
      rw [hw51]
      clear hw51  hBr8
      have hT51 := below_then hT50 hB51
      have hV51 := TIs.to hV50 hB51
      have hU51 := TIs.to hU50 hB51
      have hAt51 := tat_to hAt50 hB51
      have hBt51 := tat_to hBt50 hB51
      clear hT50  hV50 hU50 hAt50 hBt50 hB51
      go_wp2_with fail
      go_round
      case measure => simp [intOf]; omega
      exact ⟨k + 1, by omega, by go_num, hT51⟩
    obtain rfl : k = n := by omega
    have j1 : ¬ (k : Int) < (k : Int) := by omega
    have j2 : decide ((k : Int) < (k : Int)) = false := by simp
    go_wp2_with fail
    go_ret
    exact ⟨rfl, hT50⟩
end Go.Proofs.YtcifjccojmfpaaaGreat

namespace Go.Proofs.YtcifjccojmfpaaaGreat
open Go.ChangeShapes Go.WideShapes Go.ChangeAt Go.RowKit
set_option linter.unusedVariables false
section
variable {H : Type} {enc : TypeId × Value → H} {W : World}
theorem open_hits10 {base : Nat} {v : Value} {d : DataW H} {p : List MemPlace} (hv : Value.okWide Tryz.prog W .any base 23 v) (h : DataW.Trod enc Tryz.prog W 0 (fun _ => true) true 23 v d p) :
    ∃ (a : Option Addr) (len cap : Nat) (Hs : List (List Int)), v = .slice a len cap ∧ HSl W Any_ a len cap Hs := by
  obtain ⟨a, len, cap, rfl⟩ := okWide_slice Tryz.underlying23 hv
  obtain ⟨fuel, hf⟩ := h
  have hf' : DataW.trod enc Tryz.prog W 0 (fun _ => true) true fuel 23 [.slice a len cap] = some (d, p) := by simpa [Value.cells] using hf
  rcases Go.Deep.open_slice Tryz.underlying23 hf' with ⟨hcs, _⟩ | ⟨x, l, c, m, n, D, Pl, hcs, _, hl, hm, hmm, _, hx⟩
  · cases hcs
    exact ⟨none, 0, 0, [], rfl, ⟨rfl, Nat.le_refl _, ⟨[], .inl rfl, AllIs.nil⟩⟩⟩
  · cases hcs
    simp only [if_true] at hmm
    subst hmm
    rw [cells_ht] at hx
    obtain ⟨F, hF⟩ := Go.Deep.choose_lt (α := HV × List Int) (n := m) (p := fun i f => GAt HV.cs W (x.add (i * 1)) f.1 ∧ HIs W Any_ f.1 f.2) (fun i hi => by
      obtain ⟨cs', h1, h2⟩ := hx i hi
      obtain ⟨_, hlen, hcell⟩ := World.cells?_some h1
      obtain ⟨f, F, rfl, hd⟩ := open_ht hlen h2
      refine ⟨(f, F), fun j u hu => ?_, hd⟩
      rw [hcell j (by rw [← hlen]; exact (List.getElem?_eq_some_iff.1 hu).1)]; exact hu)
    refine ⟨some x, len, m, (List.range len).map (fun j => (F j).2), rfl, by simp, hl, ⟨(List.range len).map (fun j => (F j).1), ?_, by simp, ?_⟩⟩
    · by_cases h0 : len = 0
      · left; simp [h0]
      · refine grow_of shH ?_ (fun k f hf => ?_)
        · have := World.block_lt_of_cell? W _ ((hF 0 (by omega)).1 0 _ rfl)
          rwa [addr_block, addr_block] at this
        · rw [List.getElem?_map, Option.map_eq_some_iff] at hf
          obtain ⟨j, hj, rfl⟩ := hf
          have hk := (List.getElem?_eq_some_iff.1 hj).1
          rw [List.getElem?_range (by simpa using hk)] at hj
          obtain rfl := Option.some.inj hj
          exact (hF k (by simp at hk; omega)).1
    · intro k f G h1 h2
      rw [List.getElem?_map, Option.map_eq_some_iff] at h1 h2
      obtain ⟨j, hj, rfl⟩ := h1
      obtain ⟨j', hj', rfl⟩ := h2
      obtain rfl := Option.some.inj (hj.symm.trans hj')
      have hk := (List.getElem?_eq_some_iff.1 hj).1
      rw [List.getElem?_range (by simpa using hk)] at hj
      obtain rfl := Option.some.inj hj
      exact (hF k (by simp at hk; omega)).2
end
end Go.Proofs.YtcifjccojmfpaaaGreat

