/-
  TopMany.
-/
import Derived.Test.YtajabpjphobabaaTMany
namespace Go.Proofs.Ytajabpjphobabaa
open Go.RowKit
set_option linter.unusedVariables false
set_option linter.unusedSimpArgs false

set_option maxRecDepth 100000 in
set_option maxHeartbeats 1000000 in
theorem topMany_any (fs : List FV) (n : Nat) (hn : fs.length = n) (A : Option Addr) (c : Nat) (hcap : n ≤ c) (T : Nat) (hT : T < 256) (w : World) (h : FRow w w.heap.size A fs) :
    Calls Try.prog 5 #[.slice A n c, .int .u8 T] w fun e w' => e = .returned (.bool true) ∧ Below w.heap.size w w' := by
  have Hn := Lib.hid hn
  clear hn
  go_enter Try.func5, Try.ntmps5
  go_wp2_with fail
  refine (head06_any w).mono ?_
  rintro e w1 ⟨rfl, hT1⟩
  by_cases hn0 : n = 0
  · subst hn0
    go_wp2_with fail
    go_ret
    exact ⟨rfl, hT1⟩
  have hz1 : ((n : Int) == 0) = false := by simp; omega
  have hz2 : (n == 0) = false := by simp; omega
  by_cases hbig : 12 < n
  · have hb2 : (12 : Int) < (n : Int) := by omega
    go_wp2_with fail
    go_ret
    exact ⟨rfl, hT1⟩
  have hb2 : ¬ (12 : Int) < (n : Int) := by omega
  go_wp2_with fail
  go_loopw [6] (fun i wr => ∃ k : Nat, k ≤ n ∧ i = .int .i64 k ∧ Hid (∀ j f, j < k → fs[j]? = some f → rightV f.x f.i f.r f.n f.m = true) ∧ Below w.heap.size w wr) (fun i _ => n - (intOf i).toNat)
  case atStart => exact ⟨0, Nat.zero_le _, rfl, Lib.hid (fun j f hj => absurd hj (by omega)), hT1⟩
  case round =>
  clear hT1
  obtain ⟨k, hk, rfl, Hr, hB⟩ := hrel
  by_cases hlt : k < n
  · obtain ⟨ad, f, rfl, hf, h0, h1, h2, h3, h4⟩ := (h.below hB).get_ (k := k) (by rw [Hn.out]; exact hlt)
    have Hf := Lib.hid hf
    clear hf
    have i1 : (0 : Int) ≤ (k : Int) := by omega
    have i2 : (k : Int) < (n : Int) := by omega
    by_cases hm8 : 8 < f.m
    · have hm9 : (8 : Int) < (f.m : Int) := by omega
      go_wp2_with fail
      go_ret
      exact ⟨rfl, hB⟩
    · have hm9 : ¬ (8 : Int) < (f.m : Int) := by omega
      obtain ⟨q, hq⟩ : ∃ q, rightV f.x f.i f.r f.n f.m = q := ⟨_, rfl⟩
      have Hq := Lib.hid hq
      clear hq
      cases q
      · go_wp2_with fail
        refine (refFrRight_q f.x f.i f.r f.n f.a f.m f.c wr false Hq.out).mono ?_
        rintro e w2 ⟨rfl, hB2⟩
        go_wp2_with fail
        go_ret
        exact ⟨rfl, below_then hB hB2⟩
      · go_wp2_with fail
        refine (refFrRight_q f.x f.i f.r f.n f.a f.m f.c wr true Hq.out).mono ?_
        rintro e w2 ⟨rfl, hB2⟩
        go_wp2_with fail
        go_round
        case measure => simp [intOf]; omega
        refine ⟨k + 1, by omega, by go_num, Lib.hid (fun j g hj hg => ?_), below_then hB hB2⟩
        by_cases hjk : j < k
        · exact Hr.out j g hjk hg
        · obtain rfl : j = k := by omega
          rw [Hf.out] at hg
          obtain rfl := Option.some.inj hg
          exact Hq.out
  · obtain rfl : k = n := by omega
    have hok : ∀ f ∈ fs, FOk f := by
      intro f hf
      obtain ⟨j, hj, e⟩ := List.getElem_of_mem hf
      exact right_fok (Hr.out j f (by rw [← Hn.out]; exact hj) (by rw [List.getElem?_eq_getElem hj, e]))
    clear Hr hlt hk
    obtain ⟨n, hkn⟩ : ∃ n, k = n := ⟨_, rfl⟩
    subst hkn
    obtain ⟨n, rfl⟩ : ∃ n, n = k := ⟨_, rfl⟩
    obtain ⟨W, q, hW, hWq, hq⟩ := least_fs fs hok
    obtain ⟨b, g, hbl, hg, hgW, hwin, hfirst⟩ := winner hW (by rw [Hn.out]; omega)
    have hbn : b < n := by rw [← Hn.out]; exact hbl
    have hgok := hok g (List.mem_of_getElem? hg)
    have HG := Lib.hid (And.intro hok (And.intro hW (And.intro hWq hwin)))
    have HX := Lib.hid (And.intro hg (And.intro hgW (show (rankF g).length = q by rw [hgW]; exact hWq)))
    clear hok hW hWq hwin hfirst hbl hg hgW
    have hlr := h.to hB
    go_wp2_with fail
    refine (win_any fs n Hn.out A c wr hlr HG.out.1 (by omega) W HG.out.2.1 q HG.out.2.2.1 hq (b : Int) HG.out.2.2.2).mono ?_
    rintro e w3 ⟨rfl, hB3⟩
    have hl3 := hlr.to hB3
    have hT3 := below_then hB hB3
    clear hlr hB3 hB
    obtain ⟨ad, rfl, hg0, hg1, hg2, hg3, hg4⟩ := hl3.at_lt HX.out.1
    clear hg0 hg1 hg2 hg3 hg4
    obtain ⟨K, hK⟩ : ∃ K, T % n = K := ⟨_, rfl⟩
    have hKn : K < n := by rw [← hK]; exact Nat.mod_lt _ (by omega)
    have hrem : (T : Int).tmod (n : Int) = (K : Int) := by rw [← hK]; simp [Int.tmod_eq_emod_of_nonneg]
    have hwT : IntKind.i64.wrap (T : Int) = (T : Int) := by rw [IntKind.wrap_i64]; omega
    clear hK
    go_wp2_with fail
    have hsl : FRow w3 w3.heap.size (some ad) (fs.take K) := by
      have := hl3.sub_ 0 K (Nat.zero_le _) (by rw [Hn.out]; omega) (A' := some ad) (fun _ => by simp [Addr.add])
      simpa using this
    have hsr : FRow w3 w3.heap.size (some (ad.add (K * 5))) (fs.drop K) := by
      have := hl3.sub_ K n (by omega) (by rw [Hn.out]; omega) (A' := some (ad.add (K * 5))) (fun _ => rfl)
      rwa [List.take_of_length_le (by rw [List.length_drop, Hn.out]; omega)] at this
    have HK := Lib.hid (And.intro (show (fs.take K).length = K by rw [List.length_take, Hn.out]; omega) (show (fs.drop K).length = n - K by rw [List.length_drop, Hn.out]))
    have hKc : ¬ K = c := by omega
    have hKc' : ¬ c = K := by omega
    have hKle : K ≤ c := by omega
    have j1 : (0 : Int) ≤ (K : Int) := by omega
    have j2 : (K : Int) ≤ (n : Int) := by omega
    have j3 : (K : Int) ≤ (c : Int) := by omega
    have j4 : (n : Int) ≤ (c : Int) := by omega
    have hBd : Below w3.heap.size w3 (w3.alloc (.cells #[] 24)).drew := below_then (below_alloc1 _ _) (below_drew1 _)
    refine wp_region_held_drew (S := fun W => True) (by kernel_rfl) (by exact trivial) (fun hHeld_ => ?_)
    refine wpAnyH_take' (i := 1) (v := ?v1_m1) 52 rfl rfl (by kernel_rfl) (by kernel_rfl) (by kernel_rfl) (fun _ _ _ h => h) (Or.inl ⟨by kernel_rfl, ?hy1_m1⟩) (by assumption) ?rest1_m1
    case hy1_m1 => (intro W_ hS_; (try dsimp only at hS_); go_simp; (try (with_reducible rfl)))
    try simp only [Act.put, List.setIfInBounds_toArray, List.set_cons_zero, List.set_cons_succ]
    refine wpAnyH_take' (i := 2) (v := ?v2_m1) 53 rfl rfl (by kernel_rfl) (by kernel_rfl) (by kernel_rfl) (fun _ _ _ h => h) (Or.inl ⟨by kernel_rfl, ?hy2_m1⟩) (by assumption) ?rest2_m1
    case hy2_m1 => (intro W_ hS_; (try dsimp only at hS_); go_simp; (try (with_reducible rfl)))
    try simp only [Act.put, List.setIfInBounds_toArray, List.set_cons_zero, List.set_cons_succ]
    refine wpAnyH_take' (i := 3) (v := ?v3_m1) 54 rfl rfl (by kernel_rfl) (by kernel_rfl) (by kernel_rfl) (fun _ _ _ h => h) (Or.inl ⟨by kernel_rfl, ?hy3_m1⟩) (by assumption) ?rest3_m1
    case hy3_m1 => (intro W_ hS_; (try dsimp only at hS_); go_simp; (try (with_reducible rfl)))
    try simp only [Act.put, List.setIfInBounds_toArray, List.set_cons_zero, List.set_cons_succ]
    refine wpAnyH_take' (i := 5) (v := ?v5_m1) 56 rfl rfl (by kernel_rfl) (by kernel_rfl) (by kernel_rfl) (fun _ _ _ h => h) (Or.inl ⟨by kernel_rfl, ?hy5_m1⟩) (by assumption) ?rest5_m1
    case hy5_m1 => (intro W_ hS_; (try dsimp only at hS_); go_simp; (try (with_reducible rfl)))
    try simp only [Act.put, List.setIfInBounds_toArray, List.set_cons_zero, List.set_cons_succ]
    refine wpAnyH_take' (i := 6) (v := ?v6_m1) 57 rfl rfl (by kernel_rfl) (by kernel_rfl) (by kernel_rfl) (fun _ _ _ h => h) (Or.inl ⟨by kernel_rfl, ?hy6_m1⟩) (by assumption) ?rest6_m1
    case hy6_m1 => (intro W_ hS_; (try dsimp only at hS_); go_simp; (try (with_reducible rfl)))
    try simp only [Act.put, List.setIfInBounds_toArray, List.set_cons_zero, List.set_cons_succ]
    refine wpAnyH_take' (i := 7) (v := ?v7_m1) 58 rfl rfl (by kernel_rfl) (by kernel_rfl) (by kernel_rfl) (fun _ _ _ h => h) (Or.inl ⟨by kernel_rfl, ?hy7_m1⟩) (by assumption) ?rest7_m1
    case hy7_m1 => (intro W_ hS_; (try dsimp only at hS_); go_simp; (try (with_reducible rfl)))
    try simp only [Act.put, List.setIfInBounds_toArray, List.set_cons_zero, List.set_cons_succ]
    refine wpAnyH_ready (rs := [0]) (by kernel_rfl) (by simp) ?_
    refine AllReadyH.cons rfl (fun K_ hK_ => ?_) AllReadyH.nil
    go_simp
    skip
    go_wp2_with fail
    refine hK_.out _ _ (by exact trivial) (fun hHeld_0 => ?_)
    clear hK_
    try simp only [Act.put, List.setIfInBounds_toArray, List.set_cons_zero, List.set_cons_succ]
    refine wpAnyH_ready (rs := [4]) (by kernel_rfl) (by simp) ?_
    refine AllReadyH.cons rfl (fun K_ hK_ => ?_) AllReadyH.nil
    refine step_append_fr rfl _ _ rfl w3.heap.size _ 0 [] rfl (own_to (fown_empty w3 _ _ rfl (Nat.le_refl _)) (below_drew1 _)) _ _ _ _ (fs.drop K) rfl HK.out.2 (hsr.below hBd) (by omega) hBd.size 55 rfl ?_; intro A5 c5 w5 hown6 hc5 hB6; simp only [Nat.zero_add, List.nil_append] at hown6 hc5 ⊢; have hB46 : Below w3.heap.size w3 w5 := hBd.trans hB6
    refine hK_.out _ _ (by exact trivial) (fun hHeld_4 => ?_)
    clear hK_
    try simp only [Act.put, List.setIfInBounds_toArray, List.set_cons_zero, List.set_cons_succ]
    refine wpAnyH_ready (rs := [8]) (by kernel_rfl) (by simp) ?_
    refine AllReadyH.cons rfl (fun K_ hK_ => ?_) AllReadyH.nil
    refine step_append_fr rfl _ _ rfl w3.heap.size _ (n - K) (fs.drop K) rfl hown6 (some ad) K _ w3.heap.size (fs.take K) rfl HK.out.1 (hsl.below hB46) (by omega) hB46.size 59 rfl ?_; intro A6 c6 w6 hown7 hc6 hB7
    refine hK_.out _ _ (by exact trivial) (fun hHeld_8 => ?_)
    clear hK_
    try simp only [Act.put, List.setIfInBounds_toArray, List.set_cons_zero, List.set_cons_succ]
    refine wpAnyH_take' (i := 9) (v := ?v9_m1) 9 rfl rfl (by kernel_rfl) (by kernel_rfl) (by kernel_rfl) (fun _ _ _ h => h) (Or.inl ⟨by kernel_rfl, ?hy9_m1⟩) (by assumption) ?rest9_m1
    case hy9_m1 => (intro W_ hS_; (try dsimp only at hS_); go_simp; (try (with_reducible rfl)))
    try simp only [Act.put, List.setIfInBounds_toArray, List.set_cons_zero, List.set_cons_succ]
    refine wpAnyH_done (by kernel_rfl) ?_ _
    obtain ⟨ts, hts⟩ : ∃ ts, fs.drop K ++ fs.take K = ts := ⟨_, rfl⟩
    rw [hts] at hown7
    have hnn : n - K + K = n := by omega
    have hB66 : Below w3.heap.size w3 w6 := hB46.trans hB7
    have hmem : ∀ f, f ∈ ts ↔ f ∈ fs := by rw [← hts]; exact turned_mem K fs
    have hWt : LeastE W (ranks ts) := HG.out.2.1.less (ranks_sub fun f hf => (hmem f).1 hf) (by rw [← HX.out.2.1]; exact rank_in ((hmem g).2 (List.mem_of_getElem? HX.out.1)))
    rw [hnn] at hown7 ⊢
    have hts2 : ts.length = n := FOwn.len hown7
    have hm6 := FRow.own hown7
    obtain ⟨v, f', hvl, hf', hf'W, hwin', -⟩ := winner hWt (by rw [hts2]; omega)
    have hvn : v < n := by rw [← hts2]; exact hvl
    have hf'ok := HG.out.1 f' ((hmem f').1 (List.mem_of_getElem? hf'))
    have HF := Lib.hid (And.intro hf' (And.intro hf'W (show (rankF f').length = q by rw [hf'W]; exact HG.out.2.2.1)))
    have HM := Lib.hid (And.intro hts2 (And.intro (show ∀ f ∈ ts, FOk f from fun f hf => HG.out.1 f ((hmem f).1 hf)) (And.intro hWt hwin')))
    have hl6 := hl3.to hB66
    have hT6 := below_then hT3 hB66
    clear hts hmem hWt hts2 hvl hf' hf'W hwin' hown6 hown7 hB46 hB66 hB6 hB7 hsl hsr hBd hl3 hT3 hrem hwT HK
    go_wp2_with fail
    refine (win_any ts n HM.out.1 A6 c6 w6 hm6 HM.out.2.1 (by omega) W HM.out.2.2.1 q HG.out.2.2.1 hq (v : Int) HM.out.2.2.2).mono ?_
    rintro e w7 ⟨rfl, hB7⟩
    have hm7 := hm6.to hB7
    have hl7 := hl6.to hB7
    have hT7 := below_then hT6 hB7
    clear hm6 hl6 hT6 hB7
    obtain ⟨at6, rfl, -⟩ := hm7.at_lt HF.out.1
    have d1 : decide ((b : Int) < 0) = false := by simp
    have d2 : decide ((n : Int) ≤ (b : Int)) = false := by simp; omega
    have d3 : decide (n ≤ b) = false := by simp; omega
    have d4 : decide ((v : Int) < 0) = false := by simp
    have d5 : decide ((n : Int) ≤ (v : Int)) = false := by simp; omega
    have d6 : decide (n ≤ v) = false := by simp; omega
    have e1 : (0 : Int) ≤ (b : Int) := by omega
    have e2 : (b : Int) < (n : Int) := by omega
    have e3 : (0 : Int) ≤ (v : Int) := by omega
    have e4 : (v : Int) < (n : Int) := by omega
    go_wp2_with fail
    refine wp_region_held_drew (S := fun W => FCells W (ad.add (b * 5)) g ∧ FCells W (at6.add (v * 5)) f') (by kernel_rfl) (by exact ⟨FRow.at_ (B := _) (FRow.to hl7 (below_drew1 _)) HX.out.1, FRow.at_ (B := _) (FRow.to hm7 (below_drew1 _)) HF.out.1⟩) (fun hHeld_ => ?_)
    refine wpAnyH_take' (i := 0) (v := ?v0_m2) 62 rfl rfl (by kernel_rfl) (by kernel_rfl) (by kernel_rfl) (fun _ _ _ h => h) (Or.inl ⟨by kernel_rfl, ?hy0_m2⟩) (by assumption) ?rest0_m2
    case hy0_m2 => (intro W_ hS_; (try dsimp only at hS_); go_simp; (try (with_reducible rfl)))
    try simp only [Act.put, List.setIfInBounds_toArray, List.set_cons_zero, List.set_cons_succ]
    refine wpAnyH_take' (i := 1) (v := ?v1_m2) 63 rfl rfl (by kernel_rfl) (by kernel_rfl) (by kernel_rfl) (fun _ _ _ h => h) (Or.inl ⟨by kernel_rfl, ?hy1_m2⟩) (by assumption) ?rest1_m2
    case hy1_m2 => (intro W_ hS_; (try dsimp only at hS_); go_simp; (try (with_reducible rfl)))
    try simp only [Act.put, List.setIfInBounds_toArray, List.set_cons_zero, List.set_cons_succ]
    refine wpAnyH_take' (i := 2) (v := ?v2_m2) 64 rfl rfl (by kernel_rfl) (by kernel_rfl) (by kernel_rfl) (fun _ _ _ h => h) (Or.inl ⟨by kernel_rfl, ?hy2_m2⟩) (by assumption) ?rest2_m2
    case hy2_m2 => (intro W_ hS_; (try dsimp only at hS_); go_simp; (try (with_reducible rfl)))
    try simp only [Act.put, List.setIfInBounds_toArray, List.set_cons_zero, List.set_cons_succ]
    refine wpAnyH_take' (i := 3) (v := ?v3_m2) 65 rfl rfl (by kernel_rfl) (by kernel_rfl) (by kernel_rfl) (fun _ _ _ h => h) (Or.inl ⟨by kernel_rfl, ?hy3_m2⟩) (by assumption) ?rest3_m2
    case hy3_m2 => (intro W_ hS_; (try dsimp only at hS_); go_simp; (try (with_reducible rfl)))
    try simp only [Act.put, List.setIfInBounds_toArray, List.set_cons_zero, List.set_cons_succ]
    refine wpAnyH_take' (i := 4) (v := ?v4_m2) 66 rfl rfl (by kernel_rfl) (by kernel_rfl) (by kernel_rfl) (fun _ _ _ h => h) (Or.inl ⟨by kernel_rfl, ?hy4_m2⟩) (by assumption) ?rest4_m2
    case hy4_m2 => (intro W_ hS_; (try dsimp only at hS_); go_simp; (try (with_reducible rfl)))
    try simp only [Act.put, List.setIfInBounds_toArray, List.set_cons_zero, List.set_cons_succ]
    refine wpAnyH_take' (i := 5) (v := ?v5_m2) 67 rfl rfl (by kernel_rfl) (by kernel_rfl) (by kernel_rfl) (fun _ _ _ h => h) (Or.inl ⟨by kernel_rfl, ?hy5_m2⟩) (by assumption) ?rest5_m2
    case hy5_m2 => (intro W_ hS_; (try dsimp only at hS_); go_simp; (try (with_reducible rfl)))
    try simp only [Act.put, List.setIfInBounds_toArray, List.set_cons_zero, List.set_cons_succ]
    refine wpAnyH_take' (i := 6) (v := ?v6_m2) 68 rfl rfl (by kernel_rfl) (by kernel_rfl) (by kernel_rfl) (fun _ _ _ h => h) (Or.inl ⟨by kernel_rfl, ?hy6_m2⟩) (by assumption) ?rest6_m2
    case hy6_m2 => (intro W_ hS_; (try dsimp only at hS_); go_simp; (try (with_reducible rfl)))
    try simp only [Act.put, List.setIfInBounds_toArray, List.set_cons_zero, List.set_cons_succ]
    refine wpAnyH_take' (i := 7) (v := ?v7_m2) 69 rfl rfl (by kernel_rfl) (by kernel_rfl) (by kernel_rfl) (fun _ _ _ h => h) (Or.inl ⟨by kernel_rfl, ?hy7_m2⟩) (by assumption) ?rest7_m2
    case hy7_m2 => (intro W_ hS_; (try dsimp only at hS_); go_simp; (try (with_reducible rfl)))
    try simp only [Act.put, List.setIfInBounds_toArray, List.set_cons_zero, List.set_cons_succ]
    refine wpAnyH_take' (i := 8) (v := ?v8_m2) 70 rfl rfl (by kernel_rfl) (by kernel_rfl) (by kernel_rfl) (fun _ _ _ h => h) (Or.inl ⟨by kernel_rfl, ?hy8_m2⟩) (by assumption) ?rest8_m2
    case hy8_m2 => (intro W_ hS_; (try dsimp only at hS_); go_simp; (try (with_reducible rfl)))
    try simp only [Act.put, List.setIfInBounds_toArray, List.set_cons_zero, List.set_cons_succ]
    refine wpAnyH_take' (i := 9) (v := ?v9_m2) 71 rfl rfl (by kernel_rfl) (by kernel_rfl) (by kernel_rfl) (fun _ _ _ h => h) (Or.inl ⟨by kernel_rfl, ?hy9_m2⟩) (by assumption) ?rest9_m2
    case hy9_m2 => (intro W_ hS_; (try dsimp only at hS_); go_simp; (try (with_reducible rfl)))
    try simp only [Act.put, List.setIfInBounds_toArray, List.set_cons_zero, List.set_cons_succ]
    refine wpAnyH_take' (i := 10) (v := ?v10_m2) 72 rfl rfl (by kernel_rfl) (by kernel_rfl) (by kernel_rfl) (fun _ _ _ h => h) (Or.inl ⟨by kernel_rfl, ?hy10_m2⟩) (by assumption) ?rest10_m2
    case hy10_m2 => (intro W_ hS_; (try dsimp only at hS_); go_simp; (try (with_reducible rfl)))
    try simp only [Act.put, List.setIfInBounds_toArray, List.set_cons_zero, List.set_cons_succ]
    refine wpAnyH_take' (i := 11) (v := ?v11_m2) 73 rfl rfl (by kernel_rfl) (by kernel_rfl) (by kernel_rfl) (fun _ _ _ h => h) (Or.inl ⟨by kernel_rfl, ?hy11_m2⟩) (by assumption) ?rest11_m2
    case hy11_m2 => (intro W_ hS_; (try dsimp only at hS_); go_simp; (try (with_reducible rfl)))
    try simp only [Act.put, List.setIfInBounds_toArray, List.set_cons_zero, List.set_cons_succ]
    refine wpAnyH_take' (i := 12) (v := ?v12_m2) 74 rfl rfl (by kernel_rfl) (by kernel_rfl) (by kernel_rfl) (fun _ _ _ h => h) (Or.inl ⟨by kernel_rfl, ?hy12_m2⟩) (by assumption) ?rest12_m2
    case hy12_m2 => (intro W_ hS_; (try dsimp only at hS_); go_simp; (try (with_reducible rfl)))
    try simp only [Act.put, List.setIfInBounds_toArray, List.set_cons_zero, List.set_cons_succ]
    refine wpAnyH_take' (i := 13) (v := ?v13_m2) 75 rfl rfl (by kernel_rfl) (by kernel_rfl) (by kernel_rfl) (fun _ _ _ h => h) (Or.inl ⟨by kernel_rfl, ?hy13_m2⟩) (by assumption) ?rest13_m2
    case hy13_m2 => (intro W_ hS_; (try dsimp only at hS_); go_simp; (try (with_reducible rfl)))
    try simp only [Act.put, List.setIfInBounds_toArray, List.set_cons_zero, List.set_cons_succ]
    refine wpAnyH_take' (i := 14) (v := ?v14_m2) 76 rfl rfl (by kernel_rfl) (by kernel_rfl) (by kernel_rfl) (fun _ _ _ h => h) (Or.inl ⟨by kernel_rfl, ?hy14_m2⟩) (by assumption) ?rest14_m2
    case hy14_m2 => (intro W_ hS_; (try dsimp only at hS_); go_simp; (try (with_reducible rfl)))
    try simp only [Act.put, List.setIfInBounds_toArray, List.set_cons_zero, List.set_cons_succ]
    refine wpAnyH_take' (i := 15) (v := ?v15_m2) 77 rfl rfl (by kernel_rfl) (by kernel_rfl) (by kernel_rfl) (fun _ _ _ h => h) (Or.inl ⟨by kernel_rfl, ?hy15_m2⟩) (by assumption) ?rest15_m2
    case hy15_m2 => (intro W_ hS_; (try dsimp only at hS_); go_simp; (try (with_reducible rfl)))
    try simp only [Act.put, List.setIfInBounds_toArray, List.set_cons_zero, List.set_cons_succ]
    refine wpAnyH_take' (i := 16) (v := ?v16_m2) 78 rfl rfl (by kernel_rfl) (by kernel_rfl) (by kernel_rfl) (fun _ _ _ h => h) (Or.inl ⟨by kernel_rfl, ?hy16_m2⟩) (by assumption) ?rest16_m2
    case hy16_m2 => (intro W_ hS_; (try dsimp only at hS_); go_simp; (try (with_reducible rfl)))
    try simp only [Act.put, List.setIfInBounds_toArray, List.set_cons_zero, List.set_cons_succ]
    refine wpAnyH_take' (i := 17) (v := ?v17_m2) 79 rfl rfl (by kernel_rfl) (by kernel_rfl) (by kernel_rfl) (fun _ _ _ h => h) (Or.inl ⟨by kernel_rfl, ?hy17_m2⟩) (by assumption) ?rest17_m2
    case hy17_m2 => (intro W_ hS_; (try dsimp only at hS_); go_simp; (try (with_reducible rfl)))
    try simp only [Act.put, List.setIfInBounds_toArray, List.set_cons_zero, List.set_cons_succ]
    refine wpAnyH_take' (i := 18) (v := ?v18_m2) 80 rfl rfl (by kernel_rfl) (by kernel_rfl) (by kernel_rfl) (fun _ _ _ h => h) (Or.inl ⟨by kernel_rfl, ?hy18_m2⟩) (by assumption) ?rest18_m2
    case hy18_m2 => (intro W_ hS_; (try dsimp only at hS_); go_simp; (try (with_reducible rfl)))
    try simp only [Act.put, List.setIfInBounds_toArray, List.set_cons_zero, List.set_cons_succ]
    refine wpAnyH_take' (i := 19) (v := ?v19_m2) 81 rfl rfl (by kernel_rfl) (by kernel_rfl) (by kernel_rfl) (fun _ _ _ h => h) (Or.inl ⟨by kernel_rfl, ?hy19_m2⟩) (by assumption) ?rest19_m2
    case hy19_m2 => (intro W_ hS_; (try dsimp only at hS_); go_simp; (try (with_reducible rfl)))
    try simp only [Act.put, List.setIfInBounds_toArray, List.set_cons_zero, List.set_cons_succ]
    refine wpAnyH_take' (i := 20) (v := ?v20_m2) 82 rfl rfl (by kernel_rfl) (by kernel_rfl) (by kernel_rfl) (fun _ _ _ h => h) (Or.inl ⟨by kernel_rfl, ?hy20_m2⟩) (by assumption) ?rest20_m2
    case hy20_m2 => (intro W_ hS_; (try dsimp only at hS_); go_simp; (try (with_reducible rfl)))
    try simp only [Act.put, List.setIfInBounds_toArray, List.set_cons_zero, List.set_cons_succ]
    refine wpAnyH_take' (i := 21) (v := ?v21_m2) 83 rfl rfl (by kernel_rfl) (by kernel_rfl) (by kernel_rfl) (fun _ _ _ h => h) (Or.inl ⟨by kernel_rfl, ?hy21_m2⟩) (by assumption) ?rest21_m2
    case hy21_m2 => (intro W_ hS_; (try dsimp only at hS_); go_simp; (try (with_reducible rfl)))
    try simp only [Act.put, List.setIfInBounds_toArray, List.set_cons_zero, List.set_cons_succ]
    refine wpAnyH_take' (i := 22) (v := ?v22_m2) 84 rfl rfl (by kernel_rfl) (by kernel_rfl) (by kernel_rfl) (fun _ _ _ h => h) (Or.inl ⟨by kernel_rfl, ?hy22_m2⟩) (by assumption) ?rest22_m2
    case hy22_m2 => (intro W_ hS_; (try dsimp only at hS_); go_simp; (try (with_reducible rfl)))
    try simp only [Act.put, List.setIfInBounds_toArray, List.set_cons_zero, List.set_cons_succ]
    refine wpAnyH_take' (i := 24) (v := ?v24_m2) 86 rfl rfl (by kernel_rfl) (by kernel_rfl) (by kernel_rfl) (fun _ _ _ h => h) (Or.inl ⟨by kernel_rfl, ?hy24_m2⟩) (by assumption) ?rest24_m2
    case hy24_m2 => (intro W_ hS_; (try dsimp only at hS_); go_simp; (try (with_reducible rfl)))
    try simp only [Act.put, List.setIfInBounds_toArray, List.set_cons_zero, List.set_cons_succ]
    refine wpAnyH_take' (i := 25) (v := ?v25_m2) 87 rfl rfl (by kernel_rfl) (by kernel_rfl) (by kernel_rfl) (fun _ _ _ h => h) (Or.inl ⟨by kernel_rfl, ?hy25_m2⟩) (by assumption) ?rest25_m2
    case hy25_m2 => (intro W_ hS_; (try dsimp only at hS_); go_simp; (try (with_reducible rfl)))
    try simp only [Act.put, List.setIfInBounds_toArray, List.set_cons_zero, List.set_cons_succ]
    refine wpAnyH_take' (i := 26) (v := ?v26_m2) 88 rfl rfl (by kernel_rfl) (by kernel_rfl) (by kernel_rfl) (fun _ _ _ h => h) (Or.inl ⟨by kernel_rfl, ?hy26_m2⟩) (by assumption) ?rest26_m2
    case hy26_m2 => (intro W_ hS_; (try dsimp only at hS_); go_simp; (try (with_reducible rfl)))
    try simp only [Act.put, List.setIfInBounds_toArray, List.set_cons_zero, List.set_cons_succ]
    refine wpAnyH_take' (i := 27) (v := ?v27_m2) 89 rfl rfl (by kernel_rfl) (by kernel_rfl) (by kernel_rfl) (fun _ _ _ h => h) (Or.inl ⟨by kernel_rfl, ?hy27_m2⟩) (by assumption) ?rest27_m2
    case hy27_m2 => (intro W_ hS_; (try dsimp only at hS_); go_simp; (try (with_reducible rfl)))
    try simp only [Act.put, List.setIfInBounds_toArray, List.set_cons_zero, List.set_cons_succ]
    refine wpAnyH_ready (rs := [23]) (by kernel_rfl) (by simp) ?_
    refine AllReadyH.cons rfl (fun K_ hK_ => ?_) AllReadyH.nil
    go_simp
    refine (rankF_at g hgok q HX.out.2.2 _).mono ?_; rintro e wr23 ⟨ad8, c8, rfl, hr8, hc8, hBr23, hn8⟩
    go_wp2_with fail
    refine hK_.out _ _ (by exact ⟨FRow.at_ (B := _) (FRow.to (FRow.to hl7 (below_drew1 _)) hBr23) HX.out.1, FRow.at_ (B := _) (FRow.to (FRow.to hm7 (below_drew1 _)) hBr23) HF.out.1⟩) (fun hHeld_23 => ?_)
    clear hK_
    try simp only [Act.put, List.setIfInBounds_toArray, List.set_cons_zero, List.set_cons_succ]
    refine wpAnyH_ready (rs := [28]) (by kernel_rfl) (by simp) ?_
    refine AllReadyH.cons rfl (fun K_ hK_ => ?_) AllReadyH.nil
    go_simp
    refine (rankF_at f' hf'ok q HF.out.2.2 _).mono ?_; rintro e wr28 ⟨ad9, c9, rfl, hr9, hc9, hBr28, hn9⟩
    go_wp2_with fail
    refine hK_.out _ _ (by exact ⟨FRow.at_ (B := _) (FRow.to (FRow.to (FRow.to hl7 (below_drew1 _)) hBr23) hBr28) HX.out.1, FRow.at_ (B := _) (FRow.to (FRow.to (FRow.to hm7 (below_drew1 _)) hBr23) hBr28) HF.out.1⟩) (fun hHeld_28 => ?_)
    clear hK_
    try simp only [Act.put, List.setIfInBounds_toArray, List.set_cons_zero, List.set_cons_succ]
    refine wpAnyH_ready (rs := [29]) (by kernel_rfl) (by simp) ?_
    refine AllReadyH.cons rfl (fun K_ hK_ => ?_) AllReadyH.nil
    go_simp
    refine (same_q (rankF g) (rankF f') q q HX.out.2.2 HF.out.2.2 _ _ _ _ _ (hr8.to hBr28) hr9 (by unfold maxLen; omega) true (by rw [HX.out.2.1, HF.out.2.1]; simp [sameB])).mono ?_; rintro e wr29 ⟨rfl, hBr29⟩
    go_wp2_with fail
    refine hK_.out _ _ (by exact ⟨FRow.at_ (B := _) (FRow.to (FRow.to (FRow.to (FRow.to hl7 (below_drew1 _)) hBr23) hBr28) hBr29) HX.out.1, FRow.at_ (B := _) (FRow.to (FRow.to (FRow.to (FRow.to hm7 (below_drew1 _)) hBr23) hBr28) hBr29) HF.out.1⟩) (fun hHeld_29 => ?_)
    clear hK_
    try simp only [Act.put, List.setIfInBounds_toArray, List.set_cons_zero, List.set_cons_succ]
    refine wpAnyH_take' (i := 30) (v := ?v30_m2) 92 rfl rfl (by kernel_rfl) (by kernel_rfl) (by kernel_rfl) (fun _ _ _ h => h) (Or.inl ⟨by kernel_rfl, ?hy30_m2⟩) (by assumption) ?rest30_m2
    case hy30_m2 => (intro W_ hS_; (try dsimp only at hS_); go_simp; (try (with_reducible rfl)))
    try simp only [Act.put, List.setIfInBounds_toArray, List.set_cons_zero, List.set_cons_succ]
    refine wpAnyH_take' (i := 31) (v := ?v31_m2) 93 rfl rfl (by kernel_rfl) (by kernel_rfl) (by kernel_rfl) (fun _ _ _ h => h) (Or.inl ⟨by kernel_rfl, ?hy31_m2⟩) (by assumption) ?rest31_m2
    case hy31_m2 => (intro W_ hS_; (try dsimp only at hS_); go_simp; (try (with_reducible rfl)))
    try simp only [Act.put, List.setIfInBounds_toArray, List.set_cons_zero, List.set_cons_succ]
    refine wpAnyH_done (by kernel_rfl) ?_ _
    have hB29 : Below w7.heap.size w7 wr29 := below_then (below_then (below_then (below_drew1 _) hBr23) hBr28) hBr29
    have hl8 := hl7.to hB29
    have hT8 := below_then hT7 hB29
    clear hr8 hr9 hBr23 hBr28 hBr29 hB29 hm7 hl7 hT7
    go_wp2_with fail
    go_loopw [11] (fun i wr => ∃ k : Nat, k ≤ n ∧ i = .int .i64 k ∧ FRow wr wr.heap.size (some ad) fs ∧ Below w.heap.size w wr) (fun i _ => n - (intOf i).toNat)
    case atStart => exact ⟨0, Nat.zero_le _, rfl, hl8, hT8⟩
    case round =>
      clear hl8 hT8
      obtain ⟨k, hk, rfl, hlr, hB⟩ := hrel
      by_cases hlt : k < n
      · obtain ⟨f, hf⟩ : ∃ f, fs[k]? = some f := ⟨_, List.getElem?_eq_getElem (by rw [Hn.out]; exact hlt)⟩
        have Hf := Lib.hid hf
        have HP2 := Lib.hid (pair_win HG.out.2.1 (List.mem_of_getElem? HX.out.1) (List.mem_of_getElem? hf) HX.out.2.1)
        have HOK2 := Lib.hid (show ∀ p ∈ [g, f], FOk p by
          intro p hp
          simp only [List.mem_cons, List.not_mem_nil, or_false] at hp
          rcases hp with rfl | rfl
          · exact hgok
          · exact HG.out.1 _ (List.mem_of_getElem? hf))
        clear hf
        have i1 : (0 : Int) ≤ (k : Int) := by omega
        have i2 : (k : Int) < (n : Int) := by omega
        go_wp2_with fail
        refine wp_region_held_drew (S := fun W => FCells W (ad.add (b * 5)) g ∧ FCells W (ad.add (k * 5)) f) (by kernel_rfl) (by exact ⟨FRow.at_ (B := _) (FRow.to hlr (below_drew1 _)) HX.out.1, FRow.at_ (B := _) (FRow.to hlr (below_drew1 _)) Hf.out⟩) (fun hHeld_ => ?_)
        refine wpAnyH_take' (i := 0) (v := ?v0_m3) 100 rfl rfl (by kernel_rfl) (by kernel_rfl) (by kernel_rfl) (fun _ _ _ h => h) (Or.inl ⟨by kernel_rfl, ?hy0_m3⟩) (by assumption) ?rest0_m3
        case hy0_m3 => (intro W_ hS_; (try dsimp only at hS_); go_simp; (try (with_reducible rfl)))
        try simp only [Act.put, List.setIfInBounds_toArray, List.set_cons_zero, List.set_cons_succ]
        refine wpAnyH_take' (i := 1) (v := ?v1_m3) 101 rfl rfl (by kernel_rfl) (by kernel_rfl) (by kernel_rfl) (fun _ _ _ h => h) (Or.inl ⟨by kernel_rfl, ?hy1_m3⟩) (by assumption) ?rest1_m3
        case hy1_m3 => (intro W_ hS_; (try dsimp only at hS_); go_simp; (try (with_reducible rfl)))
        try simp only [Act.put, List.setIfInBounds_toArray, List.set_cons_zero, List.set_cons_succ]
        refine wpAnyH_take' (i := 2) (v := ?v2_m3) 102 rfl rfl (by kernel_rfl) (by kernel_rfl) (by kernel_rfl) (fun _ _ _ h => h) (Or.inl ⟨by kernel_rfl, ?hy2_m3⟩) (by assumption) ?rest2_m3
        case hy2_m3 => (intro W_ hS_; (try dsimp only at hS_); go_simp; (try (with_reducible rfl)))
        try simp only [Act.put, List.setIfInBounds_toArray, List.set_cons_zero, List.set_cons_succ]
        refine wpAnyH_take' (i := 3) (v := ?v3_m3) 103 rfl rfl (by kernel_rfl) (by kernel_rfl) (by kernel_rfl) (fun _ _ _ h => h) (Or.inl ⟨by kernel_rfl, ?hy3_m3⟩) (by assumption) ?rest3_m3
        case hy3_m3 => (intro W_ hS_; (try dsimp only at hS_); go_simp; (try (with_reducible rfl)))
        try simp only [Act.put, List.setIfInBounds_toArray, List.set_cons_zero, List.set_cons_succ]
        refine wpAnyH_take' (i := 4) (v := ?v4_m3) 104 rfl rfl (by kernel_rfl) (by kernel_rfl) (by kernel_rfl) (fun _ _ _ h => h) (Or.inl ⟨by kernel_rfl, ?hy4_m3⟩) (by assumption) ?rest4_m3
        case hy4_m3 => (intro W_ hS_; (try dsimp only at hS_); go_simp; (try (with_reducible rfl)))
        try simp only [Act.put, List.setIfInBounds_toArray, List.set_cons_zero, List.set_cons_succ]
        refine wpAnyH_take' (i := 5) (v := ?v5_m3) 105 rfl rfl (by kernel_rfl) (by kernel_rfl) (by kernel_rfl) (fun _ _ _ h => h) (Or.inl ⟨by kernel_rfl, ?hy5_m3⟩) (by assumption) ?rest5_m3
        case hy5_m3 => (intro W_ hS_; (try dsimp only at hS_); go_simp; (try (with_reducible rfl)))
        try simp only [Act.put, List.setIfInBounds_toArray, List.set_cons_zero, List.set_cons_succ]
        refine wpAnyH_take' (i := 6) (v := ?v6_m3) 106 rfl rfl (by kernel_rfl) (by kernel_rfl) (by kernel_rfl) (fun _ _ _ h => h) (Or.inl ⟨by kernel_rfl, ?hy6_m3⟩) (by assumption) ?rest6_m3
        case hy6_m3 => (intro W_ hS_; (try dsimp only at hS_); go_simp; (try (with_reducible rfl)))
        try simp only [Act.put, List.setIfInBounds_toArray, List.set_cons_zero, List.set_cons_succ]
        refine wpAnyH_take' (i := 7) (v := ?v7_m3) 107 rfl rfl (by kernel_rfl) (by kernel_rfl) (by kernel_rfl) (fun _ _ _ h => h) (Or.inl ⟨by kernel_rfl, ?hy7_m3⟩) (by assumption) ?rest7_m3
        case hy7_m3 => (intro W_ hS_; (try dsimp only at hS_); go_simp; (try (with_reducible rfl)))
        try simp only [Act.put, List.setIfInBounds_toArray, List.set_cons_zero, List.set_cons_succ]
        refine wpAnyH_ready (rs := [8]) (by kernel_rfl) (by simp) ?_
        refine AllReadyH.cons rfl (fun K_ hK_ => ?_) AllReadyH.nil
        go_simp
        skip
        go_wp2_with fail
        refine hK_.out _ _ (by exact ⟨FRow.at_ (B := _) (FRow.to (FRow.to hlr (below_alloc1 _ _)) (below_drew1 _)) HX.out.1, FRow.at_ (B := _) (FRow.to (FRow.to hlr (below_alloc1 _ _)) (below_drew1 _)) Hf.out⟩) (fun hHeld_8 => ?_)
        clear hK_
        try simp only [Act.put, List.setIfInBounds_toArray, List.set_cons_zero, List.set_cons_succ]
        refine wpAnyH_ready (rs := [9]) (by kernel_rfl) (by simp) ?_
        refine AllReadyH.cons rfl (fun K_ hK_ => ?_) AllReadyH.nil
        go_simp
        refine (win_any [g, f] 2 rfl _ 2 _ (FRow.to (FRow.lit wr [g, f] rfl rfl) (below_drew1 _)) HOK2.out (by omega) W HP2.out.1 q HG.out.2.2.1 hq 0 HP2.out.2).mono ?_; rintro e wr9 ⟨rfl, hBr9⟩
        go_wp2_with fail
        refine hK_.out _ _ (by exact ⟨FRow.at_ (B := _) (FRow.to (FRow.to (FRow.to hlr (below_alloc1 _ _)) (below_drew1 _)) hBr9) HX.out.1, FRow.at_ (B := _) (FRow.to (FRow.to (FRow.to hlr (below_alloc1 _ _)) (below_drew1 _)) hBr9) Hf.out⟩) (fun hHeld_9 => ?_)
        clear hK_
        try simp only [Act.put, List.setIfInBounds_toArray, List.set_cons_zero, List.set_cons_succ]
        refine wpAnyH_take' (i := 10) (v := ?v10_m3) 110 rfl rfl (by kernel_rfl) (by kernel_rfl) (by kernel_rfl) (fun _ _ _ h => h) (Or.inl ⟨by kernel_rfl, ?hy10_m3⟩) (by assumption) ?rest10_m3
        case hy10_m3 => (intro W_ hS_; (try dsimp only at hS_); go_simp; (try (with_reducible rfl)))
        try simp only [Act.put, List.setIfInBounds_toArray, List.set_cons_zero, List.set_cons_succ]
        refine wpAnyH_done (by kernel_rfl) ?_ _
        have hB9 : Below wr.heap.size wr wr9 := below_then (below_then (below_alloc1 _ _) (below_drew1 _)) hBr9
        go_wp2_with fail
        go_round
        case measure => simp [intOf]; omega
        exact ⟨k + 1, by omega, by go_num, hlr.to hB9, below_then hB hB9⟩
      · obtain rfl : k = n := by omega
        go_wp2_with fail
        go_ret
        exact ⟨rfl, hB⟩

end Go.Proofs.Ytajabpjphobabaa
