/-
  wire.Read.
-/
import Derived.Test.YtmapkjjglhpamaaWMath
import Derived.WalkMore
import Derived.Laws.EntriesVeiled
namespace Go.Proofs.Ytmapkjjglhpamaa
open Go.RowKit

theorem results_c2 {fn : Func} {p q r : Tmp} (hf : fn.results = #[.cell p 24, .tmp q, .tmp r]) (tmps : Array Value) {w : World} {F : Nat} {x y : Bool} {i n : Int} {D : Option Addr} {m c : Nat} {t : TypeId} {u v : Value}
    (ht : tmps.getD p undef = .pointer (some ⟨F, 0, none⟩)) (hq : tmps.getD q undef = u) (hr : tmps.getD r undef = v)
    (h : w.heap[F]? = some (.cells #[.bool x, .int .i64 i, .bool y, .int .i64 n, .slice D m c] t)) :
    (results fn tmps).run Try.prog w = .ok (.tuple #[.agg #[.bool x, .int .i64 i, .bool y, .int .i64 n, .slice D m c], u, v]) w := by
  have hl := load_fr h
  have ht' : tmps[p]?.getD undef = .pointer (some ⟨F, 0, none⟩) := by simpa using ht
  have hq' : tmps[q]?.getD undef = u := by simpa using hq
  have hr' : tmps[r]?.getD undef = v := by simpa using hr
  simp only [results, hf]
  simp [ht', hq', hr', asAddr, hl]

/-- What Read hands back. -/
def WirePost (w : World) (r : Fr × Int × Int) (en : Ending) (w' : World) : Prop :=
  ∃ D m c', en = .returned (.tuple #[.agg #[.bool r.1.ext, .int .i64 r.1.id, .bool r.1.rem, .int .i64 r.1.len, .slice D m c'], .int .i64 r.2.1, .int .i64 r.2.2]) ∧ r.1.data.length = m ∧ m ≤ c' ∧ Row .u8 w' w'.heap.size D r.1.data ∧ (r.1.data = [] ∨ ∃ ad, D = some ad ∧ w.heap.size ≤ ad.block) ∧ Below w.heap.size w w'

abbrev fnS (R : Nat) : Value := .func (.func 43) #[.pointer (some ⟨R, 0, none⟩)] #[]
abbrev fnT (R : Nat) : Value := .func (.func 45) #[.pointer (some ⟨R, 0, none⟩)] #[]

/-- Where the walk along the bits stands, k of them past. -/
def At (l : List Int) (w : World) (R : Nat) (k : Nat) (fn : Value) (wr : World) : Prop :=
  Below w.heap.size w wr ∧ wr.heap[w.heap.size]? = some (.cells #[.bool false, .int .i64 0, .bool false, .int .i64 0, .slice none 0 0] 24) ∧
  ((fn = fnS R ∧ ∃ hv pv D m c P, Rc wr R hv pv D m c (l.take k) P k P.length (hdOf (readL P)).1 (hdOf (readL P)).2 0 ∧ rightB P = true ∧ P.length ≤ k ∧ wireRd l = rdS l (l.take k) P (l.drop k)) ∨
   (fn = fnT R ∧ ∃ hv pv D m c P e t, e + t = k ∧ t < 10 ∧ wholeB (l.take e) P = true ∧ Rc wr R hv pv D m c (l.take e) P e P.length (hdOf (readL P)).1 (hdOf (readL P)).2 t ∧ rightB P = true ∧ P.length ≤ e ∧ wireRd l = rdT l e (hdOf (readL P)).2 t (l.drop k)))

theorem fin_fault {l : List Int} {w w1 : World} {t : TypeId} {a b d e g : Value} (hB : Below w.heap.size w w1) (_hF : w1.heap[w.heap.size]? = some (.cells #[a, b, d, e, g] t)) {v p : Int} (hres : wireRd l = (Fr.none_, v, p)) :
    WirePost w (wireRd l) (.returned (.tuple #[.agg #[.bool false, .int .i64 0, .bool false, .int .i64 0, .slice none 0 0], .int .i64 v, .int .i64 p])) (set5 w1 w.heap.size (.bool false) (.int .i64 0) (.bool false) (.int .i64 0) (.slice none 0 0)) := by
  rw [hres]
  exact ⟨none, 0, 0, rfl, rfl, Nat.le_refl _, .inl rfl, .inl rfl, hB.trans (below_of_grown (set5_grown _ _ _ _ _ _ _) (Nat.le_refl _) hB.size)⟩
theorem fin_frame {l : List Int} {w w1 : World} {R : Nat} {hv pv : Value} {D : Option Addr} {m c : Nat} {H P : List Int} {n q : Nat} {hd : Nat} {f : Fr} {t : Nat} (hB : Below w.heap.size w w1) (h : Rc w1 R hv pv D m c H P n q hd f t) (hne : f.data = [] ∨ ∃ ad, D = some ad ∧ w.heap.size < ad.block) {v p : Int} (hres : wireRd l = (f, v, p)) :
    WirePost w (wireRd l) (.returned (.tuple #[.agg #[.bool f.ext, .int .i64 f.id, .bool f.rem, .int .i64 f.len, .slice D m c], .int .i64 v, .int .i64 p])) (set5 w1 w.heap.size (.bool f.ext) (.int .i64 f.id) (.bool f.rem) (.int .i64 f.len) (.slice D m c)) := by
  rw [hres]
  exact ⟨D, m, c, rfl, h.len, h.cap, data_to h.row (hne.imp id fun ⟨ad, e, hb⟩ => ⟨ad, e, fun e2 => by have := Option.some.inj e2; omega⟩) (set5_grown _ _ _ _ _ _ _), hne.imp id fun ⟨ad, e, hb⟩ => ⟨ad, e, Nat.le_of_lt hb⟩, hB.trans (below_of_grown (set5_grown _ _ _ _ _ _ _) (Nat.le_refl _) hB.size)⟩

set_option maxRecDepth 100000 in
set_option maxHeartbeats 2000000 in
theorem wireRead_any (l : List Int) (A : Option Addr) (c : Nat) (w : World) (h : Row .i64 w w.heap.size A l) (hr : rightB l = true) (hm : l.length ≤ 5000) :
    Calls Try.prog 22 #[.slice A l.length c] w (WirePost w (wireRd l)) := by
  have hmf : ∀ (fn : Fn) (first cap : Array Value) (w : World), (Instr.makeFunc fn first cap).run Try.prog w = .ok (.func fn first cap) w := fun _ _ _ _ => rfl
  have HR := Lib.hid hr
  clear hr
  obtain ⟨W0, hW0⟩ : ∃ W0, (w.alloc (.cells #[.bool false, .int .i64 0, .bool false, .int .i64 0, .slice none 0 0] 24)).alloc (.cells #[.slice none 0 0, .slice none 0 0, .int .i64 0, .bool false, .int .i64 0, .bool false, .int .i64 0, .slice none 0 0, .int .i64 0] 51) = W0 := ⟨_, rfl⟩
  have hA : At l w (w.heap.size + 1) 0 (fnS (w.heap.size + 1)) W0 := by
    refine ⟨?_, ?_, .inl ⟨rfl, .slice none 0 0, .slice none 0 0, none, 0, 0, [], ⟨?_, rfl, rfl, World.ownsRow_nil _ _ _ _, World.ownsRow_nil _ _ _ _, ?_, .inl rfl, rfl, Nat.le_refl _, .inl rfl⟩, rfl, Nat.le_refl _, rfl⟩⟩
    · rw [← hW0]; exact ((Below.refl _ w).alloc (Nat.le_refl _) _).alloc (by simp) _
    · rw [← hW0]; exact obj_alloc (World.alloc_heap_new _ _) _
    · rw [← hW0]
      have := World.alloc_heap_new (w.alloc (.cells #[.bool false, .int .i64 0, .bool false, .int .i64 0, .slice none 0 0] 24)) (.cells #[.slice none 0 0, .slice none 0 0, .int .i64 0, .bool false, .int .i64 0, .bool false, .int .i64 0, .slice none 0 0, .int .i64 0] 51)
      rw [World.size_alloc] at this
      exact this
    · intro g e; simp [Value.ownBlock] at e
  go_enter Try.func22, Try.ntmps22
  have HW0 := Lib.hid hW0
  clear hW0
  go_wp2_with fail
  go_step3
  go_wp2_with fail
  go_step3
  go_wp2_with fail
  rw [HW0.out]
  clear HW0
  go_loopw [6, 7, 14] (fun fn en i wr => ∃ k : Nat, k ≤ l.length ∧ i = .int .i64 k ∧ en = .int .i64 (-1) ∧ At l w (w.heap.size + 1) k fn wr) (fun _ _ i _ => l.length - (intOf i).toNat)
  case atStart => exact ⟨0, Nat.zero_le _, rfl, rfl, hA⟩
  case round =>
    clear hA
    obtain ⟨k, hk, rfl, rfl, hB, hF, hAt⟩ := hrel
    by_cases hlt : k < l.length
    · obtain ⟨ad, x, rfl, hx, hc⟩ := (h.below hB).get_ hlt
      have hx01 := rightB_at HR.out hx
      have HX := Lib.hid hx
      clear hx
      rcases hAt with ⟨rfl, hv, pv, D, m, c', P, hRc, hrP, hPk, hres⟩ | ⟨rfl, hv, pv, D, m, c', P, e, t, rfl, ht, hwh, hRc, hrP, hPe, hres⟩
      · obtain ⟨P', hP'⟩ : ∃ P', plainOf (l.take k) P x = P' := ⟨_, rfl⟩
        obtain ⟨v, hvv⟩ : ∃ v, stuffedF (l.take k) P x = v := ⟨_, rfl⟩
        obtain ⟨hd, f, hhf⟩ : ∃ hd f, hdOf (readL P) = (hd, f) := ⟨_, _, rfl⟩
        have hkn := known_next (H := l.take k) (b := x) hrP
        have hrP' := plain_right (H := l.take k) hrP hx01
        have hlP' := plain_len (l.take k) P x
        have hd3 := hd_le hrP'
        rw [hP'] at hkn hrP' hlP' hd3
        rw [hhf] at hkn hRc
        simp only at hkn hRc
        have HP' := Lib.hid hP'
        have HV := Lib.hid hvv
        have Hkn := Lib.hid hkn
        have HrP := Lib.hid hrP'
        have Hd3 := Lib.hid hd3
        have Hres := Lib.hid hres
        have HF := Lib.hid hF
        clear hP' hvv hkn hrP' hd3 hres hrP hhf hx01 hF
        by_cases h0 : v = 0
        · subst h0
          go_wp2_with fail
          refine (stuffed_any _ hv pv D m c' (l.take k) P k P.length hd f wr hRc (by omega) hPk x P' HP'.out HrP.out Hkn.out Hd3.out 0 HV.out).mono ?_
          rintro e w1 ⟨rfl, hB1, hR1⟩
          obtain ⟨hv1, pv1, D1, m1, c1, hRc1⟩ := hR1 rfl
          have hBB : Below w.heap.size w w1 := hB.trans (hB1.mono (by omega))
          have hF1 := (hB1.block w.heap.size (by omega)).trans HF.out
          have c8 := hRc1.c8
          have HF1 := Lib.hid hF1
          clear hR1 hRc hB1 hB hF1 HF hc
          go_wp2_with fail
          obtain ⟨wh, hwh⟩ : ∃ wh, wholeB (l.take (k + 1)) P' = wh := ⟨_, rfl⟩
          have Hwh := Lib.hid hwh
          clear hwh
          rw [← take_snoc HX.out] at hRc1
          refine (whole_any _ hv1 pv1 D1 m1 c1 _ P' (k + 1) P'.length _ _ 0 w1 hRc1 (by omega) (by have := Hd3.out; omega) wh Hwh.out).mono ?_
          rintro e w2 ⟨rfl, hB2⟩
          have hRc2 := hRc1.to hB2
          have hB3 := below_then hBB hB2
          have hF2 := obj_below HF1.out hB2
          clear c8 hRc1 HF1
          cases wh
          · go_wp2_with fail
            refine ⟨⟨k + 1, by omega, by go_num, rfl, hB3, hF2, .inl ⟨rfl, hv1, pv1, D1, m1, c1, P', hRc2, HrP.out, by omega, ?_⟩⟩, by simp [intOf]; omega⟩
            have := S_go Hres.out HX.out HV.out (by rw [HP'.out]; exact Hwh.out)
            rw [HP'.out] at this
            exact this
          · go_wp2_with fail
            refine ⟨⟨k + 1, by omega, by go_num, rfl, hB3, hF2, .inr ⟨rfl, hv1, pv1, D1, m1, c1, P', k + 1, 0, rfl, by omega, Hwh.out, hRc2, HrP.out, by omega, ?_⟩⟩, by simp [intOf]; omega⟩
            have := S_whole Hres.out HX.out HV.out (by rw [HP'.out]; exact Hwh.out)
            rw [HP'.out] at this
            exact this
        · have hR := S_fault Hres.out HX.out HV.out h0
          have d0 : (v != 0) = true := by simp [h0]
          have HRR := Lib.hid hR
          clear hR h0
          go_wp2_with fail
          refine (stuffed_any _ hv pv D m c' (l.take k) P k P.length hd f wr hRc (by omega) hPk x P' HP'.out HrP.out Hkn.out Hd3.out v HV.out).mono ?_
          rintro e w1 ⟨rfl, hB1, -⟩
          have hBB : Below w.heap.size w w1 := hB.trans (hB1.mono (by omega))
          have hF1 := (hB1.block w.heap.size (by omega)).trans HF.out
          clear hB1 hRc hB HF hc
          obtain ⟨⟨y0, y1, y2, y3, y4⟩, z0, z1, z2, z3, z4⟩ := cells5 hF1
          go_wp2_with fail
          first | (refine bodyPost_ret (results_c2 (u := .int .i64 v) (v := .int .i64 k) rfl _ rfl rfl rfl (set5_obj hF1 (.bool false) (.int .i64 0) (.bool false) (.int .i64 0) (.slice none 0 0))) rfl (fin_fault hBB hF1 HRR.out)) | (rw [Exit.noGoto_ret]; refine bodyPost_ret (results_c2 (u := .int .i64 v) (v := .int .i64 k) rfl _ rfl rfl rfl (set5_obj hF1 (.bool false) (.int .i64 0) (.bool false) (.int .i64 0) (.slice none 0 0))) rfl (fin_fault hBB hF1 HRR.out))
      · obtain ⟨hd, f, hhf⟩ : ∃ hd f, hdOf (readL P) = (hd, f) := ⟨_, _, rfl⟩
        rw [hhf] at hRc hres
        simp only at hRc hres
        have hw3 : (decide (0 < hd) && decide (P.length = hd + 15) && !fiveB (l.take e)) = true := by
          unfold wholeB at hwh; rw [hhf] at hwh; exact hwh
        have hd3 := hd_le hrP
        rw [hhf] at hd3
        simp only at hd3
        have Hhf := Lib.hid hhf
        have Hw3 := Lib.hid hw3
        have Hwh := Lib.hid hwh
        have Hres := Lib.hid hres
        have HF := Lib.hid hF
        have HrP := Lib.hid hrP
        clear hhf hw3 hwh hres hrP hF
        by_cases h3 : trailF t x = 3
        · have hR := T_fault Hres.out HX.out h3
          have HRR := Lib.hid hR
          have H3 := Lib.hid h3
          clear hR h3
          obtain ⟨k, hk'⟩ : ∃ k, e + t = k := ⟨_, rfl⟩
          have HRR2 : Hid (wireRd l = (Fr.none_, 3, (k : Int))) := Lib.hid (by rw [← hk']; exact HRR.out)
          clear HRR
          rw [hk'] at hk hlt hc ⊢
          go_wp2_with fail
          refine (trailing_any _ hv pv D m c' (l.take e) P e P.length hd f t wr hRc (by omega) x 3 H3.out).mono ?_
          rintro e w1 ⟨rfl, hRc1, hB1⟩
          have hBB : Below w.heap.size w w1 := hB.trans (hB1.mono (by omega))
          have hF1 := (hB1.block w.heap.size (by omega)).trans HF.out
          clear hB1 hRc hB HF hc hRc1 hk'
          obtain ⟨⟨y0, y1, y2, y3, y4⟩, z0, z1, z2, z3, z4⟩ := cells5 hF1
          go_wp2_with fail
          first | (refine bodyPost_ret (results_c2 (u := .int .i64 3) (v := .int .i64 k) rfl _ rfl rfl rfl (set5_obj hF1 (.bool false) (.int .i64 0) (.bool false) (.int .i64 0) (.slice none 0 0))) rfl (fin_fault hBB hF1 HRR2.out)) | (rw [Exit.noGoto_ret]; refine bodyPost_ret (results_c2 (u := .int .i64 3) (v := .int .i64 k) rfl _ rfl rfl rfl (set5_obj hF1 (.bool false) (.int .i64 0) (.bool false) (.int .i64 0) (.slice none 0 0))) rfl (fin_fault hBB hF1 HRR2.out))
        · have h3' : trailF t x = 0 := by
            unfold trailF at h3 ⊢
            split at h3
            · exact absurd rfl h3
            · rename_i hn; rw [if_neg hn]
          have H3 := Lib.hid h3'
          clear h3 h3'
          obtain ⟨k, hk'⟩ : ∃ k, e + t = k := ⟨_, rfl⟩
          rw [hk'] at hk hlt hc ⊢
          go_wp2_with fail
          refine (trailing_any _ hv pv D m c' (l.take e) P e P.length hd f t wr hRc (by omega) x 0 H3.out).mono ?_
          rintro e' w1 ⟨rfl, hRc1, hB1⟩
          have hBB : Below w.heap.size w w1 := hB.trans (hB1.mono (by omega))
          have hF1 := (hB1.block w.heap.size (by omega)).trans HF.out
          have c8 := hRc1.c8
          clear hB1 hRc hB HF hc
          by_cases h10 : t + 1 = 10
          · obtain rfl : t = 9 := by omega
            have hR := T_end Hres.out HX.out H3.out rfl
            obtain ⟨y, hy⟩ : ∃ y, l[e + 1]? = some y := ⟨_, List.getElem?_eq_getElem (by omega)⟩
            have hyd : l.getD (e + 1) 0 = y := by simp [List.getD, hy]
            rw [hyd] at hR
            have cy := (h.below hBB).at_ hy
            simp [Addr.add] at cy
            have hne : f.data = [] ∨ ∃ ad, D = some ad ∧ w.heap.size < ad.block := hRc1.apart.imp id fun ⟨ad, e1, e2, _⟩ => ⟨ad, e1, by omega⟩
            obtain rfl : k = e + 9 := hk'.symm
            have ek : (e : Int) + 9 + 1 - 10 + 1 = (e : Int) + 1 := by omega
            have dl : (e : Int) + 1 < (l.length : Int) := by omega
            by_cases hy0 : y = 0
            · subst hy0
              rw [if_pos rfl] at hR
              have HRR := Lib.hid hR
              clear hR hyd hy hk'
              obtain ⟨⟨y0, y1, y2, y3, y4⟩, z0, z1, z2, z3, z4⟩ := cells5 hF1
              have ap := hRc1.apart
              have k3 : w1.cell? ⟨w.heap.size + 1, 3, none⟩ = some (.bool f.ext) := by simp [World.cell?, hRc1.obj]
              have k4 : w1.cell? ⟨w.heap.size + 1, 4, none⟩ = some (.int .i64 f.id) := by simp [World.cell?, hRc1.obj]
              have k5 : w1.cell? ⟨w.heap.size + 1, 5, none⟩ = some (.bool f.rem) := by simp [World.cell?, hRc1.obj]
              have k6 : w1.cell? ⟨w.heap.size + 1, 6, none⟩ = some (.int .i64 f.len) := by simp [World.cell?, hRc1.obj]
              have k7 : w1.cell? ⟨w.heap.size + 1, 7, none⟩ = some (.slice D m c') := by simp [World.cell?, hRc1.obj]
              go_wp2_with fail
              first | (refine bodyPost_ret (results_c2 (u := .int .i64 0) (v := .int .i64 (-1)) rfl _ rfl rfl rfl (set5_obj hF1 (.bool f.ext) (.int .i64 f.id) (.bool f.rem) (.int .i64 f.len) (.slice D m c'))) rfl (fin_frame hBB hRc1 hne HRR.out)) | (rw [Exit.noGoto_ret]; refine bodyPost_ret (results_c2 (u := .int .i64 0) (v := .int .i64 (-1)) rfl _ rfl rfl rfl (set5_obj hF1 (.bool f.ext) (.int .i64 f.id) (.bool f.rem) (.int .i64 f.len) (.slice D m c'))) rfl (fin_frame hBB hRc1 hne HRR.out))
            · rw [if_neg hy0] at hR
              replace hR := hR.trans (show (f, (5 : Int), ((e + 1 : Nat) : Int)) = (f, 5, (e : Int) + 1) by simp)
              have HRR := Lib.hid hR
              have dy : (y != 0) = true := by simp [hy0]
              clear hR hyd hy hk' hy0
              obtain ⟨⟨y0, y1, y2, y3, y4⟩, z0, z1, z2, z3, z4⟩ := cells5 hF1
              have ap := hRc1.apart
              have k3 : w1.cell? ⟨w.heap.size + 1, 3, none⟩ = some (.bool f.ext) := by simp [World.cell?, hRc1.obj]
              have k4 : w1.cell? ⟨w.heap.size + 1, 4, none⟩ = some (.int .i64 f.id) := by simp [World.cell?, hRc1.obj]
              have k5 : w1.cell? ⟨w.heap.size + 1, 5, none⟩ = some (.bool f.rem) := by simp [World.cell?, hRc1.obj]
              have k6 : w1.cell? ⟨w.heap.size + 1, 6, none⟩ = some (.int .i64 f.len) := by simp [World.cell?, hRc1.obj]
              have k7 : w1.cell? ⟨w.heap.size + 1, 7, none⟩ = some (.slice D m c') := by simp [World.cell?, hRc1.obj]
              go_wp2_with fail
              first | (refine bodyPost_ret (results_c2 (u := .int .i64 5) (v := .int .i64 ((e : Int) + 1)) rfl _ rfl rfl rfl (set5_obj hF1 (.bool f.ext) (.int .i64 f.id) (.bool f.rem) (.int .i64 f.len) (.slice D m c'))) rfl (fin_frame hBB hRc1 hne HRR.out)) | (rw [Exit.noGoto_ret]; refine bodyPost_ret (results_c2 (u := .int .i64 5) (v := .int .i64 ((e : Int) + 1)) rfl _ rfl rfl rfl (set5_obj hF1 (.bool f.ext) (.int .i64 f.id) (.bool f.rem) (.int .i64 f.len) (.slice D m c'))) rfl (fin_frame hBB hRc1 hne HRR.out))
          · have d10 : ((t : Int) + 1 == 10) = false := by simp; omega
            have HF1 := Lib.hid hF1
            clear hF1
            go_wp2_with fail
            refine (whole_any _ hv pv D m c' _ P e P.length hd f _ w1 hRc1 (by omega) (by omega) true Hw3.out).mono ?_
            rintro e' w2 ⟨rfl, hB2⟩
            have hRc2 := hRc1.to hB2
            have hB3 := below_then hBB hB2
            have hF2 := obj_below HF1.out hB2
            clear c8 hRc1 HF1
            go_wp2_with fail
            refine ⟨⟨k + 1, by omega, by go_num, rfl, hB3, hF2, .inr ⟨rfl, hv, pv, D, m, c', P, e, t + 1, by omega, by omega, Hwh.out, by rw [Hhf.out]; exact hRc2, HrP.out, hPe, ?_⟩⟩, by simp [intOf]; omega⟩
            rw [Hhf.out, ← hk']
            exact T_go Hres.out HX.out H3.out (by omega)
    · obtain rfl : k = l.length := by omega
      have hR : wireRd l = (Fr.none_, 1, (l.length : Int)) := by
        rcases hAt with ⟨_, hv, pv, D, m, c', P, hRc, hrP, hPk, hres⟩ | ⟨_, hv, pv, D, m, c', P, e, t, he, ht, hwh, hRc, hrP, hPe, hres⟩
        · exact S_short hres rfl
        · have := T_short (e := e) (t := t) (by rw [he]; exact hres) he
          rw [he] at this
          exact this
      have HRR := Lib.hid hR
      have hF1 := hF
      clear hR hAt hF
      obtain ⟨⟨y0, y1, y2, y3, y4⟩, z0, z1, z2, z3, z4⟩ := cells5 hF1
      go_wp2_with fail
      first | (refine bodyPost_ret (results_c2 (u := .int .i64 1) (v := .int .i64 l.length) rfl _ rfl rfl rfl (set5_obj hF1 (.bool false) (.int .i64 0) (.bool false) (.int .i64 0) (.slice none 0 0))) rfl (fin_fault hB hF1 HRR.out)) | (rw [Exit.noGoto_ret]; refine bodyPost_ret (results_c2 (u := .int .i64 1) (v := .int .i64 l.length) rfl _ rfl rfl rfl (set5_obj hF1 (.bool false) (.int .i64 0) (.bool false) (.int .i64 0) (.slice none 0 0))) rfl (fin_fault hB hF1 HRR.out))

end Go.Proofs.Ytmapkjjglhpamaa
